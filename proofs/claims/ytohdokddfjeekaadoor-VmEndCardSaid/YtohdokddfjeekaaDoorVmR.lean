/- Package vm: Run. -/
import Derived.Test.YtohdokddfjeekaaDoorVmN
namespace Go.Proofs.YtohdokddfjeekaaDoor
open Go.RowKit Go.Maps

theorem Holds.boxLt {B : Nat} {w0 w : World} {R : World → List Nat → Prop} {L : List (Nat × Obj)} (h : Holds B w0 R w L) : ∀ q ∈ L, q.1 < w.heap.size := fun q hq => lt_of_obj (h.box (k := q.1) (o := q.2) hq)
theorem Ops.below {B : Nat} {w0 w : World} (h : Ops w0) (hb : Below B w0 w) (hB : w0.heap.size ≤ B) : Ops w := h.frm (Frm.of_below hb hB)
/-- How many steps there may be. -/
def fuelN (fuel : Int) : Nat := (min fuel 1024).toNat
def runS (p : List Ins) (t : Nat → Int) (e : Ev) (fuel : Int) : MS × Nat := runP (p.take 64) e (fuelN fuel) (st0 t)
/-- What Run answers. -/
def RunGoes (p : List Ins) (t : Nat → Int) (e : Ev) (fuel fan : Int) (w : World) (e' : Ending) (w' : World) : Prop :=
  ∃ (a : Option Addr) (c : Nat), e' = .returned (.tuple #[stV (runS p t e fuel).1.cs, .slice a (outP fan (runS p t e fuel).1.sent).length c, .int .i64 ((runS p t e fuel).2 : Nat)]) ∧
    SlAt Em.enc 4 w' a (outP fan (runS p t e fuel).1.sent).length c (outP fan (runS p t e fuel).1.sent) ∧ Frm [] w w'

abbrev runL (w : World) (t : Nat → Int) (e : Ev) : List (Nat × Obj) := [(w.heap.size + 1 + 1, stBox fun _ => 0), (w.heap.size + 1, e.box), (w.heap.size, stBox t)]
/-- The loop. -/
def RunRel (w : World) (m : Nat) (pa : Option Addr) (pc : Nat) (p : List Ins) (t : Nat → Int) (e : Ev) (fuel fan : Int) (kv : Value) (wr : World) : Prop :=
  ∃ (k : Nat) (s : MS), kv = .int .i64 (k : Int) ∧ k ≤ fuelN fuel ∧ s.sent.length ≤ k ∧ runS p t e fuel = ((runP (p.take 64) e (fuelN fuel - k) s).1, (runP (p.take 64) e (fuelN fuel - k) s).2 + k) ∧
    Holds w.heap.size w (sepR (machR m e pa pc (p.take 64) fan s) noneR) wr (runL w t e)

section
variable {w : World}
set_option maxHeartbeats 4000000 in
set_option maxRecDepth 100000 in
theorem run_any (hO : Ops w) {a : Option Addr} {n c : Nat} {p : List Ins} (hp : Ins.at_ w a n c p) (hnil : a = none → n = 0 ∧ c = 0) (t : Nat → Int) (e : Ev) (fuel fan : Int) :
    Calls Tryd.prog 9 #[.slice a n c, stV t, e.val, .int .i64 fuel, .int .i64 fan] w (RunGoes p t e fuel fan w) := by
  have h0 := (((Holds.start w).alloc noneR_stable (stBox t)).alloc noneR_stable e.box).alloc noneR_stable (stBox fun _ => 0)
  simp only [World.size_alloc] at h0
  have hnew := new_any (e := e) (t := t) (fan := fan) noneR_stable h0 (hp.frm ((((Frm.refl _ _).alloc _).alloc _).alloc _)) hnil
  have Hnew := Lib.hid hnew
  have HO := Lib.hid hO
  have hst : ∀ (m : Nat) (pa : Option Addr) (pc : Nat) (s : MS), Stable (sepR (machR m e pa pc (p.take 64) fan s) noneR) := fun m pa pc s => sepR_stable (machR_stable _ _ _ _ _ _ _) noneR_stable
  obtain ⟨F, hF⟩ : ∃ F : Int, min fuel 1024 = F := ⟨_, rfl⟩
  have hif : (if (1024 : Int) < fuel then (1024 : Int) else fuel) = F := by split <;> omega
  have hfn : fuelN fuel = F.toNat := by unfold fuelN; rw [hF]
  have hF1 : F ≤ 1024 := by omega
  have HL : (p.take 64).length ≤ 64 := by rw [List.length_take]; omega
  have Hst := Lib.hid hst
  have Hfn := Lib.hid hfn
  clear h0 hp hnil hnew hO hst hF hfn
  go_enter Tryd.func9, Tryd.ntmps9
  go_wp2_with fail
  refine Hnew.out.mono ?_
  rintro e' w1 ⟨m, pa, pc, rfl, h1⟩
  have H1 := Lib.hid h1
  clear h1 Hnew
  go_wp2_with fail
  go_loopw [14] (fun kv wr => RunRel w m pa pc p t e fuel fan kv wr) (fun kv _ => 1024 - (intOf kv).toNat)
  case atStart => exact ⟨0, st0 t, rfl, Nat.zero_le _, Nat.le_refl _, by rw [Nat.sub_zero, Nat.add_zero]; rfl, H1.out⟩
  case' round =>
    obtain ⟨k, s, rfl, hk, hse, hrun, hh⟩ := hrel
    have HH := Lib.hid hh
    have Hrun := Lib.hid hrun
    have hOr := HO.out.below hh.below (Nat.le_refl _)
    have hlt := hh.boxLt
    have hkf := Hfn.out
    clear hh hrun
    by_cases hkF : (k : Int) < F
    case' pos =>
      have g1 : decide ((k : Int) < F) = true := by rw [decide_eq_true_eq]; exact hkF
      cases hx : nextP (p.take 64) s
      case' some x =>
        have hc := step_some noneR_stable HH.out hOr HL (by omega) hx hlt
        have Hc := Lib.hid hc
        have Hx := Lib.hid hx
        clear hc hx hOr hlt
        go_wp2_with fail
        refine Hc.out.mono ?_
        rintro e' w2 ⟨rfl, h2⟩
        have H2 := Lib.hid h2
        clear h2
        go_wp2_with fail
        go_roundw
        case rel =>
          refine ⟨k + 1, doP e x s, by go_num, by omega, by have := do_sent (e := e) (x := x) (s := s); omega, ?_, H2.out⟩
          rw [Hrun.out, show fuelN fuel - k = (fuelN fuel - (k + 1)) + 1 by omega, run_some Hx.out]
          simp only [Nat.add_assoc, Nat.add_comm 1 k]
        case measure => simp [intOf]; omega
      case' none =>
        have hc := step_none noneR_stable HH.out hOr hx
        have hr : runS p t e fuel = (s, k) := by rw [Hrun.out, run_none hx, Nat.zero_add]
        have Hc := Lib.hid hc
        have Hr := Lib.hid hr
        clear hc hx hOr hlt hr
        go_wp2_with fail
        refine Hc.out.mono ?_
        rintro e' w2 ⟨rfl, h2⟩
        have H2 := Lib.hid h2
        clear h2
        go_wp2_with fail
    case' neg =>
      have g1 : decide ((k : Int) < F) = false := by rw [decide_eq_false_iff_not]; exact hkF
      have hr : runS p t e fuel = (s, k) := by rw [Hrun.out, show fuelN fuel - k = 0 by omega, run_zero, Nat.zero_add]
      have Hr := Lib.hid hr
      obtain ⟨w2, hw2⟩ : ∃ w2, w2 = wr := ⟨_, rfl⟩
      subst hw2
      have H2 := HH
      clear hr hlt hOr HH
      go_wp2_with fail
  all_goals
    have h2 := H2.out
    have hs2 : Stable (sepR (machR m e pa pc (p.take 64) fan s) noneR) := Hst.out m pa pc s
    obtain ⟨a2, c2, h3⟩ := (h2.drew hs2).mOpen
    have hm3 := h3.mCells
    have hb0 := h3.box (k := w.heap.size) (o := stBox t) (by simp)
    have hcp := copy4 w2.drew (g := w.heap.size) (o := 0) (n := 4) (cn := 4) (d := m) (e := 8) (m := 8) (cm := 8) (by decide) (fun j => .int .i64 (s.cs j))
      (fun j hj => hm3.cell j (by omega)) (fun j _ => rfl)
      (fun j hj => by
        rw [Nat.zero_add, cell_of_obj hb0]
        obtain rfl | rfl | rfl | rfl : j = 0 ∨ j = 1 ∨ j = 2 ∨ j = 3 := by omega
        all_goals rfl) (fun j _ => frozen_of_obj hb0 _) 3
    have hl4 : Holds w.heap.size w (sepR (machR m e pa pc (p.take 64) fan s) noneR) ((((w2.drew.setCell ⟨w.heap.size, 0, none⟩ (.int .i64 (s.cs 0))).setCell ⟨w.heap.size, 0 + 1, none⟩ (.int .i64 (s.cs 1))).setCell ⟨w.heap.size, 0 + 2, none⟩ (.int .i64 (s.cs 2))).setCell ⟨w.heap.size, 0 + 3, none⟩ (.int .i64 (s.cs 3))) [(w.heap.size + 1 + 1, stBox fun _ => 0), (w.heap.size + 1, e.box), (w.heap.size, stBox s.cs)] :=
      ((((h2.drew hs2).put (L := [_, _]) (M := []) hs2 (Nat.le_refl _) (by simp <;> omega) (by simp <;> omega) 0 _).put (L := [_, _]) (M := []) hs2 (Nat.le_refl _) (by simp <;> omega) (by simp <;> omega) (0 + 1) _).put (L := [_, _]) (M := []) hs2 (Nat.le_refl _) (by simp <;> omega) (by simp <;> omega) (0 + 2) _).put (L := [_, _]) (M := []) hs2 (Nat.le_refl _) (by simp <;> omega) (by simp <;> omega) (0 + 3) _
    have H4 := Lib.hid hl4
    have Hcp := Lib.hid hcp
    clear h2 h3 hm3 hb0 hcp hl4 H2
    go_still_tail 5, (by kernel_rfl)
    change wpList _ _ _ _ _ w2.drew
    go_wp2_with (refine wpList_copy rfl _ _ _ _ rfl _ _ rfl rfl _ _ Hcp.out ?_)
    simp only [Act.put, List.setIfInBounds_toArray, List.set_cons_zero, List.set_cons_succ]
    refine wp_world (fun W => Holds w.heap.size w (sepR (machR m e pa pc (p.take 64) fan s) noneR) W [(w.heap.size + 1 + 1, stBox fun _ => 0), (w.heap.size + 1, e.box), (w.heap.size, stBox s.cs)]) H4.out ?_
    intro W hW
    have hd := hW.drew hs2
    have h5 : Holds w.heap.size w (sepR (machR m e pa pc (p.take 64) fan s) noneR) (((((W.setCell ⟨w.heap.size + 1 + 1, 0, none⟩ (.int .i64 (s.cs 0))).setCell ⟨w.heap.size + 1 + 1, 1, none⟩ (.int .i64 (s.cs 1))).setCell ⟨w.heap.size + 1 + 1, 2, none⟩ (.int .i64 (s.cs 2))).setCell ⟨w.heap.size + 1 + 1, 3, none⟩ (.int .i64 (s.cs 3)))).drew [(w.heap.size + 1 + 1, stBox s.cs), (w.heap.size + 1, e.box), (w.heap.size, stBox s.cs)] :=
      ((((hW.put (L := []) (M := [_, _]) hs2 (by omega) (by simp <;> omega) (by simp <;> omega) 0 _).put (L := []) (M := [_, _]) hs2 (by omega) (by simp <;> omega) (by simp <;> omega) 1 _).put (L := []) (M := [_, _]) hs2 (by omega) (by simp <;> omega) (by simp <;> omega) 2 _).put (L := []) (M := [_, _]) hs2 (by omega) (by simp <;> omega) (by simp <;> omega) 3 _).drew hs2
    obtain ⟨a5, c5, h6⟩ := hd.mOpen
    have c17 := h6.mCells.sent
    have hm6 := h6.mBox.theBox
    have q0 := cells4 (hd.box (k := w.heap.size) (o := stBox s.cs) (by simp))
    have r0 := hW.box (k := w.heap.size + 1 + 1) (o := stBox fun _ => 0) (by simp)
    have r1 := cells4 r0
    have rl := lt_of_obj r0
    have fz : ∀ k, W.frozen? ⟨w.heap.size + 1 + 1, k, none⟩ = false := fun k => frozen_of_obj r0 k
    have hne : w.heap.size + 1 + 1 ≠ m := fun h => by
      have r0' : W.drew.heap[w.heap.size + 1 + 1]? = _ := r0
      rw [← h, r0'] at hm6
      simp [machA] at hm6
    have K0 := And.intro q0.1 (And.intro q0.2.1 (And.intro q0.2.2.1 (And.intro q0.2.2.2 c17)))
    have q5 := cells4 (h5.box (k := w.heap.size) (o := stBox s.cs) (by simp))
    have K5 := And.intro q5.1 (And.intro q5.2.1 (And.intro q5.2.2.1 (And.intro q5.2.2.2 (show (((((W.setCell ⟨w.heap.size + 1 + 1, 0, none⟩ (.int .i64 (s.cs 0))).setCell ⟨w.heap.size + 1 + 1, 1, none⟩ (.int .i64 (s.cs 1))).setCell ⟨w.heap.size + 1 + 1, 2, none⟩ (.int .i64 (s.cs 2))).setCell ⟨w.heap.size + 1 + 1, 3, none⟩ (.int .i64 (s.cs 3)))).drew.cell? ⟨m, 17, none⟩ = some (.slice a5 (outP fan s.sent).length c5) from by
      rw [World.cell?_drew, World.cell?_setCell_far _ _ _ _ hne, World.cell?_setCell_far _ _ _ _ hne, World.cell?_setCell_far _ _ _ _ hne, World.cell?_setCell_far _ _ _ _ hne]; exact c17))))
    have HK5 := Lib.hid K5
    have H5 := Lib.hid h5
    clear hW hd h5 h6 hm6 q0 r0 q5 K5 c17 Hcp H4
    go_region_held3 (fun W' => W'.cell? ⟨w.heap.size, 0, none⟩ = some (.int .i64 (s.cs 0)) ∧ W'.cell? ⟨w.heap.size, 1, none⟩ = some (.int .i64 (s.cs 1)) ∧ W'.cell? ⟨w.heap.size, 2, none⟩ = some (.int .i64 (s.cs 2)) ∧ W'.cell? ⟨w.heap.size, 3, none⟩ = some (.int .i64 (s.cs 3)) ∧ W'.cell? ⟨m, 17, none⟩ = some (.slice a5 (outP fan s.sent).length c5))
      (first | exact K0 | exact HK5.out) (fail)
    rename_i hH
    have rr := cells4 (H5.out.box (k := w.heap.size + 1 + 1) (o := stBox s.cs) (by simp))
    obtain ⟨a7, c7, h7⟩ := H5.out.mOpen
    have h17 := h7.mCells.sent
    rw [HK5.out.2.2.2.2] at h17
    simp only [Option.some.injEq, Value.slice.injEq, true_and] at h17
    obtain ⟨rfl, rfl⟩ := h17
    have hsl := SlAt.of_row Em.enc_len h7.mRow.row rfl
    have Hsl := Lib.hid hsl
    clear hH hsl h7 K0 HK5 r1 rl fz
    go_wp2_with fail
    refine bodyPost_ret (v := .tuple #[stV s.cs, .slice a5 (outP fan s.sent).length c5, .int .i64 k]) (by simp [results, Tryd.results9, go_sem, rr.1, rr.2.1, rr.2.2.1, rr.2.2.2]) rfl ?_
    unfold RunGoes
    rw [Hr.out]
    exact ⟨a5, c5, rfl, Hsl.out, Frm.of_below H5.out.below (Nat.le_refl _)⟩
end
end Go.Proofs.YtohdokddfjeekaaDoor
