/- does: Free, Get, Set, Class. -/
import Derived.Test.YtpfolcoijncfjaaSlabDoes0
import Derived.Deep.CutRange
import Derived.Deep.CutBlock
namespace Go.Proofs.Ytpfolcoijncfjaa
open Go.RowKit

section
variable {B : Nat} {w0 w : World} {Q : World → List Nat → Prop} {L : List (Nat × Obj)}
attribute [local go_sem high] handle_eq handle_guard

set_option maxHeartbeats 8000000 in
set_option maxRecDepth 100000 in
theorem does_none (hQ : Stable Q) {P hb rb : Nat} {s : St} {l : List (Int × Int)} (h : Holds B w0 (playR P hb rb s l Q) w L) (ho : s.Ok) (hl : l.length ≤ 1000) (k cls v at_ hx hz : Int) (urg : Bool) (hL : ∀ p ∈ L, p.1 < w.heap.size) (hk0 : k ≠ 0)
    (hno : s.look (handleAt l ⟨k, cls, urg, v, at_, hx, hz⟩).1 (handleAt l ⟨k, cls, urg, v, at_, hx, hz⟩).2 = none) :
    Calls Try.prog 13 #[.pointer (some ⟨P, 0, none⟩), (OpV.mk k cls urg v at_ hx hz).val] w (Goes (.bool true) B w0 (playR P hb rb s (l ++ [(-1, 0)]) Q) L) := by
  have Hno := Lib.hid hno
  clear hno
  obtain ⟨a, c, h0⟩ := h.playOpen
  have hs := play0_stable hQ P hb rb s s l a c
  have h1 := (h0.alloc hs (OpV.mk k cls urg v at_ hx hz).box)
  have hPl := h0.pLt
  have hrow := h0.pRow
  have hBw := h0.le
  have h2 := h1.alloc hs (hBox hx hz)
  simp only [World.size_alloc] at h2
  have H2 := Lib.hid h2
  obtain ⟨c0, c1, c2⟩ := h0.pCells
  have Ho := Lib.hid ho
  have HL := Lib.hid hL
  have Hrow := Lib.hid hrow
  clear h h0 h1 h2 ho hL hrow
  go_enter Try.func13, Try.ntmps13
  go_upto_region 2 with fail
  go_cut [33] from 21 to 33 (fun u wx => ∃ b : Bool, u = .bool b ∧ (b = true ↔ 0 ≤ at_ ∧ at_ < l.length) ∧ Holds B w0 (play0 P hb rb s s l a c Q) wx ((w.heap.size + 1, hBox hx hz) :: (w.heap.size, (OpV.mk k cls urg v at_ hx hz).box) :: L))
  case first =>
    by_cases hat0 : at_ < 0
    · have g1 : decide (at_ ≥ 0) = false := by rw [decide_eq_false_iff_not]; omega
      go_quiet (fail)
      go_wp2_with fail
      go_meet
      exact ⟨false, rfl, by simp; omega, H2.out.drewN hs _⟩
    · have g1 : decide (at_ ≥ 0) = true := by rw [decide_eq_true_eq]; omega
      obtain ⟨i, rfl⟩ : ∃ i : Nat, at_ = (i : Int) := ⟨at_.toNat, by omega⟩
      by_cases hlt : i < l.length
      · have g2 : decide ((i : Int) < (l.length : Int)) = true := by rw [decide_eq_true_eq]; omega
        have g3 : decide (i < l.length) = true := by rw [decide_eq_true_eq]; exact hlt
        go_quiet (fail)
        go_wp2_with fail
        go_meet
        exact ⟨true, rfl, by simp; omega, H2.out.drewN hs _⟩
      · have g2 : decide ((i : Int) < (l.length : Int)) = false := by rw [decide_eq_false_iff_not]; omega
        have g3 : decide (i < l.length) = false := by rw [decide_eq_false_iff_not]; exact hlt
        go_quiet (fail)
        go_wp2_with fail
        go_meet
        exact ⟨false, rfl, by simp; omega, H2.out.drewN hs _⟩
  obtain ⟨b, rfl, hb', hW0⟩ := hcut
  have HW0 := Lib.hid hW0
  clear hW0 H2
  go_upto_if 33 with fail
  go_cut [] from 34 to 41 (fun wx => ∃ X T, handleAt l ⟨k, cls, urg, v, at_, hx, hz⟩ = (X, T) ∧ Holds B w0 (play0 P hb rb s s l a c Q) wx ((w.heap.size + 1, hBox X T) :: (w.heap.size, (OpV.mk k cls urg v at_ hx hz).box) :: L))
  case first =>
    cases b with
    | false =>
      have hnot : ¬ (0 ≤ at_ ∧ at_ < l.length) := fun e => by simpa using hb'.2 e
      go_wp2_with fail
      go_meet
      exact ⟨hx, hz, if_neg hnot, HW0.out⟩
    | true =>
      obtain ⟨hge, hlt0⟩ := hb'.1 rfl
      obtain ⟨i, rfl⟩ : ∃ i : Nat, at_ = (i : Int) := ⟨at_.toNat, by omega⟩
      have hlt : i < l.length := by omega
      obtain ⟨gr, rfl, hgr, X, T, hlx, r0, r1⟩ := row_handle HW0.out.pRow hlt
      have hh : handleAt l ⟨k, cls, urg, v, i, hx, hz⟩ = (X, T) := handle_lt rfl hlx
      have Hh := Lib.hid hh
      have Hlx := Lib.hid hlx
      have g2 : decide ((i : Int) < (l.length : Int)) = true := by rw [decide_eq_true_eq]; omega
      have g3 : decide (i < l.length) = true := by rw [decide_eq_true_eq]; exact hlt
      have d2 := HW0.out.pCells.2.2
      have dP := HW0.out.pLt
      obtain ⟨_, _, _, _, o4, _, _⟩ := opCells (HW0.out.box (k := w.heap.size) (o := (OpV.mk k cls urg v i hx hz).box) (by simp))
      have hbx := HW0.out.boxHead
      obtain ⟨e0, e1⟩ := cells2 hbx
      have fz : ∀ k, wc.frozen? ⟨w.heap.size + 1, k, none⟩ = false := fun k => frozen_of_obj hbx k
      have zx := lt_of_obj hbx
      have zo := lt_of_obj (HW0.out.box (k := w.heap.size) (o := (OpV.mk k cls urg v i hx hz).box) (by simp))
      have hW2 := (HW0.out.put2 hs (by omega) (by
        intro p hp
        simp only [List.mem_cons] at hp
        rcases hp with rfl | hp
        · dsimp only; omega
        · have := HL.out p hp; omega) X T).drew hs
      obtain ⟨gr2, hgr2, _, X2, T2, hlx2, r02, r12⟩ := row_handle hW2.pRow hlt
      simp only [Option.some.injEq, Addr.mk.injEq, and_true] at hgr2
      subst hgr2
      obtain ⟨rfl, rfl⟩ : X = X2 ∧ T = T2 := by
        have := Hlx.out.symm.trans hlx2
        simp only [Option.some.injEq, Prod.mk.injEq] at this
        exact this
      have K1 := And.intro d2 (And.intro o4 (And.intro r0 r1))
      have HK2 := Lib.hid (And.intro hW2.pCells.2.2 (And.intro (opCells (hW2.box (k := w.heap.size) (o := (OpV.mk k cls urg v i hx hz).box) (by simp))).2.2.2.2.1 (And.intro r02 r12)))
      have HW2 := Lib.hid hW2
      clear hW2 r02 r12 hlx2 hlx hh HW0 Hrow Hlx hbx hge hlt0 hb'
      go_wp2_with fail
      go_region_held3 (fun W' => W'.cell? ⟨P, 2, none⟩ = some (.slice (some ⟨gr, 0, none⟩) l.length c) ∧ W'.cell? ⟨w.heap.size, 4, none⟩ = some (.int .i64 (i : Int)) ∧ W'.cell? ⟨gr, i * 2, none⟩ = some (.int .i64 X) ∧ W'.cell? ⟨gr, i * 2 + 1, none⟩ = some (.int .i64 T))
        (first | exact K1 | exact HK2.out) (fail)
      go_wp2_with fail
      go_meet
      exact ⟨X, T, Hh.out, HW2.out⟩
  obtain ⟨X, T, hh, hW⟩ := hcut
  clear HW0 hb' Hrow
  have hno' : s.look X T = none := by have h3 := Hno.out; rw [hh] at h3; exact h3
  have Hno' := Lib.hid hno'
  have ht6 : tellsS s.ref.L X T = false := (tells_look Ho.out X T).trans (by rw [hno']; rfl)
  obtain ⟨d0, d1, d2⟩ := hW.pCells
  have dP := hW.pLt
  obtain ⟨lv, fv, hR⟩ := hW.pRef
  have hro := Ho.out.room
  have hrt : ∀ W', RefAt W' rb s.ref lv fv → Calls Try.prog 18 #[.pointer (some ⟨rb, 0, none⟩), .int .i64 X, .int .i64 T] W' fun e w' => e = .returned (.bool false) ∧ W' = w' := fun W' hW' => by
    have h3 := rtells_any hW' (by show s.full.length ≤ 10000; rw [full_len]; omega) X T
    rw [ht6] at h3
    exact h3
  have HRT := Lib.hid hrt
  have hR1 := Lib.hid hR
  obtain ⟨o0, _⟩ := opCells (hW.box (k := w.heap.size) (o := (OpV.mk k cls urg v at_ hx hz).box) (by simp))
  have zo := lt_of_obj (hW.box (k := w.heap.size) (o := (OpV.mk k cls urg v at_ hx hz).box) (by simp))
  obtain ⟨x0, x1⟩ := cells2 hW.boxHead
  have zx := lt_of_obj hW.boxHead
  have HW := Lib.hid hW
  have gk : (k == 0) = false := by simpa using hk0
  clear hW hR hrt Hno hh hno' ht6 hk0
  go_wp2_with fail
  go_quiet ((go_at_call 18; exact Calls.quiet_of_same ((HRT.out _ (hR1.out.kept ((Frm.refl [] _).drewN _) (by simp))).mono fun _ _ ⟨e1, e2⟩ => ⟨e1, e2.symm⟩)))
  go_wp2_with (at_builtin; refine Stop.of ?_)
  refine Stop.go ?_
  obtain ⟨i1, hj0, hj1, hj2, hj3⟩ := info_parts infoHandle2
  have h5 := (HW.out.drewN hs nq).alloc hs (hBox (-1) 0)
  refine wpList_append_foot _ rfl _ _ 33 rfl 38 i1 (.agg #[.int .i64 0, .int .i64 0]) 2 16 Try.underlying33 hj0 hj1 hj2 hj3 rfl (by decide) (.slice a l.length c) l.length (handleCells l) rfl h5.pRow ⟨_, 0, none⟩ 1 1 [.int .i64 (-1), .int .i64 0] rfl rfl (cells_new _ _ _) (by simp [Value.oneCell']) (by unfold maxLen; omega) (by omega) ?_
  intro a3 c3 w9 hown hF hn3
  obtain ⟨h9, h10⟩ := h5.pAppended hQ hown hF hn3
  have m2 := (cells3 h9.theBox).2.2
  have fz : ∀ k, w9.frozen? ⟨P, k, none⟩ = false := fun k => frozen_of_obj h9.theBox k
  have hlt3 : P < w9.heap.size := lt_of_obj h9.theBox
  have H10 := Lib.hid h10
  clear hown hF hn3 h9 h10 h5 hj0 hj1 hj2 hj3 d0 d1 d2 dP zo zx o0 x0 x1 HW hR1 HRT
  go_upto_region 13 with fail
  refine wp_world (fun W5 => Holds B w0 (play0 P hb rb s s (l ++ [(-1, 0)]) a3 c3 Q) W5 ((w.heap.size + 1, hBox X T) :: (w.heap.size, (OpV.mk k cls urg v at_ hx hz).box) :: L)) (H10.out.sub (fun p hp => List.mem_cons_of_mem _ hp)) ?_
  clear H10 m2 fz hlt3
  intro W5 hW5
  have hs5 := play0_stable hQ P hb rb s s (l ++ [(-1, 0)]) a3 c3
  have h6 := hW5.alloc hs5 (.cells #[.int .i64 0, .int .i64 0, .int .i64 0] 50)
  have H6 := Lib.hid h6
  obtain ⟨o0, _⟩ := opCells (h6.box (k := w.heap.size) (o := (OpV.mk k cls urg v at_ hx hz).box) (by simp))
  obtain ⟨u0, _⟩ := opCells (hW5.box (k := w.heap.size) (o := (OpV.mk k cls urg v at_ hx hz).box) (by simp))
  have zo := lt_of_obj (hW5.box (k := w.heap.size) (o := (OpV.mk k cls urg v at_ hx hz).box) (by simp))
  clear h6 hW5
  go_upto_block 0 with fail
  have zn := lt_of_obj (H6.out.box (k := w.heap.size + 1) (o := hBox X T) (by simp))
  refine wp_world (fun W6 => Holds B w0 (play0 P hb rb s s (l ++ [(-1, 0)]) a3 c3 Q) W6 ((W5.heap.size, .cells #[.int .i64 0, .int .i64 0, .int .i64 0] 50) :: (w.heap.size + 1, hBox X T) :: (w.heap.size, (OpV.mk k cls urg v at_ hx hz).box) :: L)) H6.out ?_
  clear H6 o0 u0 zo zn
  generalize W5.heap.size = nb
  intro W6 hW6
  have y0 := hW6.pCells.1
  obtain ⟨y1, y2⟩ := cells2 (hW6.box (k := w.heap.size + 1) (o := hBox X T) (by simp))
  obtain ⟨_, _, _, y3, _⟩ := opCells (hW6.box (k := w.heap.size) (o := (OpV.mk k cls urg v at_ hx hz).box) (by simp))
  have dP := hW6.pLt
  have zo := lt_of_obj (hW6.box (k := w.heap.size) (o := (OpV.mk k cls urg v at_ hx hz).box) (by simp))
  have zx := lt_of_obj (hW6.box (k := w.heap.size + 1) (o := hBox X T) (by simp))
  have Hd := Lib.hid (hW6.drew hs5)
  have hsT : Stable (sepR (boxR P #[.pointer (some ⟨hb, 0, none⟩), .pointer (some ⟨rb, 0, none⟩), .slice a3 (l ++ [(-1, 0)]).length c3] 35) (sepR (rowR 38 2 (.slice a3 (l ++ [(-1, 0)]).length c3) (l ++ [(-1, 0)]).length (handleCells (l ++ [(-1, 0)]))) (sepR (refR rb s.ref) Q))) := sepR_stable (boxR_stable _ _ _) (sepR_stable (rowR_stable _ _ _ _ _) (sepR_stable (refR_stable _ _) hQ))
  clear hW6
  by_cases k1 : k = 1
  · subst k1
    go_wp2_with fail
    go_region_held3 (fun w' => w'.cell? ⟨P, 0, none⟩ = some (.pointer (some ⟨hb, 0, none⟩)) ∧ w'.cell? ⟨w.heap.size + 1, 0, none⟩ = some (.int .i64 X) ∧ w'.cell? ⟨w.heap.size + 1, 1, none⟩ = some (.int .i64 T))
      (first | exact ⟨y0, y1, y2⟩ | exact ⟨z0, z1, z2⟩ | go_keep)
      ((go_at_call 22
        refine (free_stale hsT Hd.out.pSlab Ho.out X T Hno'.out).mono ?_
        rintro e w7 ⟨rfl, h7⟩
        have h8 := h7.pSlab'
        have z0 := h8.pCells.1
        obtain ⟨z1, z2⟩ := cells2 (h8.box (k := w.heap.size + 1) (o := hBox X T) (by simp))
        obtain ⟨_, _, _, z3, _⟩ := opCells (h8.box (k := w.heap.size) (o := (OpV.mk 1 cls urg v at_ hx hz).box) (by simp))
        obtain ⟨n0, n1, n2⟩ := cells3 h8.boxHead
        have H8 := Lib.hid h8
        clear h7 h8))
    clear y0 y1 y2 y3 z0 z1 z2 z3
    go_wp2_with fail
    go_ret
    exact ⟨by simp, (H8.out.sub (fun p hp => by simp [hp])).playShut⟩
  by_cases k2 : k = 2
  · subst k2
    go_wp2_with fail
    go_region_held3 (fun w' => w'.cell? ⟨P, 0, none⟩ = some (.pointer (some ⟨hb, 0, none⟩)) ∧ w'.cell? ⟨w.heap.size + 1, 0, none⟩ = some (.int .i64 X) ∧ w'.cell? ⟨w.heap.size + 1, 1, none⟩ = some (.int .i64 T))
      (first | exact ⟨y0, y1, y2⟩ | exact ⟨z0, z1, z2⟩ | go_keep)
      ((go_at_call 24
        refine (get_stale hsT Hd.out.pSlab Ho.out X T Hno'.out).mono ?_
        rintro e w7 ⟨rfl, h7⟩
        have h8 := h7.pSlab'
        have z0 := h8.pCells.1
        obtain ⟨z1, z2⟩ := cells2 (h8.box (k := w.heap.size + 1) (o := hBox X T) (by simp))
        obtain ⟨_, _, _, z3, _⟩ := opCells (h8.box (k := w.heap.size) (o := (OpV.mk 2 cls urg v at_ hx hz).box) (by simp))
        obtain ⟨n0, n1, n2⟩ := cells3 h8.boxHead
        have H8 := Lib.hid h8
        clear h7 h8))
    clear y0 y1 y2 y3 z0 z1 z2 z3
    go_wp2_with fail
    go_ret
    exact ⟨by simp, (H8.out.sub (fun p hp => by simp [hp])).playShut⟩
  by_cases k3 : k = 3
  · subst k3
    go_wp2_with fail
    go_region_held3 (fun w' => w'.cell? ⟨P, 0, none⟩ = some (.pointer (some ⟨hb, 0, none⟩)) ∧ w'.cell? ⟨w.heap.size + 1, 0, none⟩ = some (.int .i64 X) ∧ w'.cell? ⟨w.heap.size + 1, 1, none⟩ = some (.int .i64 T) ∧ w'.cell? ⟨w.heap.size, 3, none⟩ = some (.int .i64 v))
      (first | exact ⟨y0, y1, y2, y3⟩ | exact ⟨z0, z1, z2, z3⟩ | go_keep)
      ((go_at_call 25
        refine (set_stale hsT Hd.out.pSlab Ho.out X T v Hno'.out).mono ?_
        rintro e w7 ⟨rfl, h7⟩
        have h8 := h7.pSlab'
        have z0 := h8.pCells.1
        obtain ⟨z1, z2⟩ := cells2 (h8.box (k := w.heap.size + 1) (o := hBox X T) (by simp))
        obtain ⟨_, _, _, z3, _⟩ := opCells (h8.box (k := w.heap.size) (o := (OpV.mk 3 cls urg v at_ hx hz).box) (by simp))
        obtain ⟨n0, n1, n2⟩ := cells3 h8.boxHead
        have H8 := Lib.hid h8
        clear h7 h8))
    clear y0 y1 y2 y3 z0 z1 z2 z3
    go_wp2_with fail
    go_ret
    exact ⟨by simp, (H8.out.sub (fun p hp => by simp [hp])).playShut⟩
  · have g1 : (k == 1) = false := by simpa using k1
    have g2 : (k == 2) = false := by simpa using k2
    have g3 : (k == 3) = false := by simpa using k3
    go_wp2_with fail
    go_region_held3 (fun w' => w'.cell? ⟨P, 0, none⟩ = some (.pointer (some ⟨hb, 0, none⟩)) ∧ w'.cell? ⟨w.heap.size + 1, 0, none⟩ = some (.int .i64 X) ∧ w'.cell? ⟨w.heap.size + 1, 1, none⟩ = some (.int .i64 T))
      (first | exact ⟨y0, y1, y2⟩ | exact ⟨z0, z1, z2⟩ | go_keep)
      ((go_at_call 26
        refine (class_stale hsT Hd.out.pSlab Ho.out X T Hno'.out).mono ?_
        rintro e w7 ⟨rfl, h7⟩
        have h8 := h7.pSlab'
        have z0 := h8.pCells.1
        obtain ⟨z1, z2⟩ := cells2 (h8.box (k := w.heap.size + 1) (o := hBox X T) (by simp))
        obtain ⟨_, _, _, z3, _⟩ := opCells (h8.box (k := w.heap.size) (o := (OpV.mk k cls urg v at_ hx hz).box) (by simp))
        obtain ⟨n0, n1, n2⟩ := cells3 h8.boxHead
        have H8 := Lib.hid h8
        clear h7 h8))
    clear y0 y1 y2 y3 z0 z1 z2 z3
    go_wp2_with fail
    go_ret
    exact ⟨by simp, (H8.out.sub (fun p hp => by simp [hp])).playShut⟩
end
end Go.Proofs.Ytpfolcoijncfjaa
