/- Package vm: over, Step. -/
import Derived.Test.YtohdokddfjeekaaDoorVmD
namespace Go.Proofs.YtohdokddfjeekaaDoor
open Go.RowKit Go.Maps

section
variable {w : World} {m : Nat} {e : Ev} {sv : Value} {cs : Nat → Int} {fan : Int} {pa : Option Addr} {pc : Nat} {p : List Ins} {s : MS}
set_option maxHeartbeats 4000000 in
set_option maxRecDepth 100000 in
theorem over_any (hm : MCells w m e (.slice pa p.length pc) s.cs s.pl sv fan) (hp : Ins.at_ w pa p.length pc p) (hO : Ops w) :
    Calls Tryd.prog 15 #[.pointer (some ⟨m, 0, none⟩)] w (Tells (.bool (nextP p s).isNone) w) := by
  have hlt : m < w.heap.size := World.block_lt_of_cell? _ _ hm.at_
  have c7 := hm.prog
  have c16 := hm.place
  by_cases hge : p.length ≤ s.pl
  · rw [next_none hge]
    have g1 : decide ((s.pl : Int) ≥ (p.length : Int)) = true := by rw [decide_eq_true_eq]; omega
    clear hm hp hO
    go_enter Tryd.func15, Tryd.ntmps15
    go_wp2_with fail
    go_ret
    exact ⟨rfl, Frm.refl _ _⟩
  · have g1 : decide ((s.pl : Int) ≥ (p.length : Int)) = false := by rw [decide_eq_false_iff_not]; omega
    obtain ⟨b, off, x, rfl, hbl, hx, q0, q1, q2, q3, q4⟩ := insAt hp (by omega : s.pl < p.length)
    have hlt' : (s.pl : Int) < (p.length : Int) := by omega
    have hkeep : ∀ W, Frm [] w W → W.cell? ⟨m, 7, none⟩ = some (.slice (some ⟨b, off, none⟩) p.length pc) ∧ W.cell? ⟨m, 16, none⟩ = some (.int .i64 s.pl) ∧
        W.cell? ⟨b, off + s.pl * 5, none⟩ = some (.int .i64 x.op) ∧ W.cell? ⟨b, off + s.pl * 5 + 1, none⟩ = some (.int .i64 x.a) ∧ W.cell? ⟨b, off + s.pl * 5 + 2, none⟩ = some (.int .i64 x.b) ∧ W.cell? ⟨b, off + s.pl * 5 + 3, none⟩ = some (.int .i64 x.c) ∧ W.cell? ⟨b, off + s.pl * 5 + 4, none⟩ = some (.int .i64 x.d) := fun W hF =>
      ⟨hF.cell c7 (by simp), hF.cell c16 (by simp), hF.cell q0 (by simp), hF.cell q1 (by simp), hF.cell q2 (by simp), hF.cell q3 (by simp), hF.cell q4 (by simp)⟩
    have K0 := hkeep _ (Frm.refl _ _).drew
    have HK := Lib.hid hkeep
    have HO := Lib.hid hO
    have Hx := Lib.hid hx
    clear hm hp hkeep hO hx q0 q1 q2 q3 q4 hge
    go_enter Tryd.func15, Tryd.ntmps15
    go_wp2_with fail
    go_region_held3 (fun W => W.cell? ⟨m, 7, none⟩ = some (.slice (some ⟨b, off, none⟩) p.length pc) ∧ W.cell? ⟨m, 16, none⟩ = some (.int .i64 s.pl) ∧
        W.cell? ⟨b, off + s.pl * 5, none⟩ = some (.int .i64 x.op) ∧ W.cell? ⟨b, off + s.pl * 5 + 1, none⟩ = some (.int .i64 x.a) ∧ W.cell? ⟨b, off + s.pl * 5 + 2, none⟩ = some (.int .i64 x.b) ∧ W.cell? ⟨b, off + s.pl * 5 + 3, none⟩ = some (.int .i64 x.c) ∧ W.cell? ⟨b, off + s.pl * 5 + 4, none⟩ = some (.int .i64 x.d))
      (first | exact K0 | exact HK.out _ (((Frm.refl _ _).drew).alloc _)) (fail)
    rename_i hH
    clear hH K0 c7 c16 HK
    have hF0 : Frm [] w (w.alloc x.box).drew := ((Frm.refl _ _).alloc _).drew
    have HF0 := Lib.hid hF0
    have HM := Lib.hid (may_any x p.length (HO.out.frm hF0))
    clear hF0
    by_cases h15 : x.op = 15
    · have g2 : (x.op == 15) = true := by rw [beq_iff_eq]; exact h15
      have Hn := Lib.hid (next_stop Hx.out (.inl h15))
      clear h15
      go_wp2_with fail
      go_ret
      exact ⟨by rw [Hn.out]; rfl, HF0.out⟩
    · have g2 : (x.op == 15) = false := by rw [beq_eq_false_iff_ne]; exact h15
      by_cases hm : mayE x p.length = 0
      · have g3 : (mayE x p.length != 0) = false := by rw [hm]; rfl
        have Hn := Lib.hid (next_some Hx.out h15 hm)
        clear h15 hm
        go_wp2_with fail
        refine HM.out.mono ?_
        rintro e' w2 ⟨rfl, hF⟩
        have HF := Lib.hid (HF0.out.trans (T := []) hF (by simp))
        clear hF
        go_wp2_with fail
        go_ret
        exact ⟨by rw [Hn.out]; rfl, HF.out⟩
      · have g3 : (mayE x p.length != 0) = true := by rw [bne_iff_ne]; exact hm
        have Hn := Lib.hid (next_stop Hx.out (.inr hm))
        clear h15 hm
        go_wp2_with fail
        refine HM.out.mono ?_
        rintro e' w2 ⟨rfl, hF⟩
        have HF := Lib.hid (HF0.out.trans (T := []) hF (by simp))
        clear hF
        go_wp2_with fail
        go_ret
        exact ⟨by rw [Hn.out]; rfl, HF.out⟩
end

section
variable {B : Nat} {w0 w : World} {Q : World → List Nat → Prop} {L : List (Nat × Obj)}
variable {m : Nat} {e : Ev} {pa : Option Addr} {pc : Nat} {p : List Ins} {fan : Int} {x : Ins} {s : MS}
set_option maxHeartbeats 1000000 in
theorem step_none (hQ : Stable Q) (h : Holds B w0 (sepR (machR m e pa pc p fan s) Q) w L) (hO : Ops w) (hn : nextP p s = none) :
    Calls Tryd.prog 10 #[.pointer (some ⟨m, 0, none⟩)] w (Goes (.bool false) B w0 (sepR (machR m e pa pc p fan s) Q) L) := by
  have hs : Stable (sepR (machR m e pa pc p fan s) Q) := sepR_stable (machR_stable _ _ _ _ _ _ _) hQ
  obtain ⟨a, c, h1⟩ := h.mOpen
  have ho := over_any h1.mCells h1.mIns hO
  rw [hn] at ho
  have H0 := Lib.hid h
  have Ho := Lib.hid ho
  clear h h1 ho hn
  go_enter Tryd.func10, Tryd.ntmps10
  go_wp2_with fail
  refine Ho.out.mono ?_
  rintro e' w2 ⟨rfl, hF⟩
  have H1 := Lib.hid (H0.out.made hs hF)
  clear hF
  go_wp2_with fail
  go_ret
  exact ⟨rfl, H1.out⟩

set_option maxHeartbeats 4000000 in
set_option maxRecDepth 100000 in
theorem step_some (hQ : Stable Q) (h : Holds B w0 (sepR (machR m e pa pc p fan s) Q) w L) (hO : Ops w) (hl : p.length ≤ 64) (hse : s.sent.length ≤ 2000) (hn : nextP p s = some x) (hL : ∀ q ∈ L, q.1 < w.heap.size) :
    Calls Tryd.prog 10 #[.pointer (some ⟨m, 0, none⟩)] w (Goes (.bool true) B w0 (sepR (machR m e pa pc p fan (doP e x s)) Q) L) := by
  have hs : Stable (sepR (machR m e pa pc p fan s) Q) := sepR_stable (machR_stable _ _ _ _ _ _ _) hQ
  obtain ⟨a, c, h1⟩ := h.mOpen
  have ho := over_any h1.mCells h1.mIns hO
  obtain ⟨hx, h15, hmay⟩ := next_inv hn
  have hpl := (List.getElem?_eq_some_iff.1 hx).1
  rw [hn] at ho
  have H0 := Lib.hid h
  have Ho := Lib.hid ho
  have Hx := Lib.hid hx
  have HL := Lib.hid hL
  have Hm := Lib.hid (And.intro h15 hmay)
  clear h h1 ho hn hx hL h15 hmay
  go_enter Tryd.func10, Tryd.ntmps10
  go_wp2_with fail
  refine Ho.out.mono ?_
  rintro e' w2 ⟨rfl, hF⟩
  have h2 := H0.out.made hs hF
  have hlt := hF.size
  have H2 := Lib.hid h2
  clear hF Ho
  obtain ⟨a2, c2, h3⟩ := h2.mOpen
  have d7 := h3.mCells.prog
  have d16 := h3.mCells.place
  obtain ⟨b, off, y, rfl, hbl, hy, q0, q1, q2, q3, q4⟩ := insAt h3.mIns hpl
  obtain rfl : y = x := Option.some.inj (hy.symm.trans Hx.out)
  have hpl' : (s.pl : Int) < (p.length : Int) := by omega
  clear h2 h3 hy
  go_wp2_with fail
  go_still_tail 11, (by kernel_rfl)
  change wpList _ _ _ _ _ w2.drew
  go_wp2_with fail
  refine (do_any hQ (H2.out.drew hs) Hm.out.2 Hm.out.1 (by omega) hse (fun q hq => Nat.lt_of_lt_of_le (HL.out q hq) hlt)).mono ?_
  rintro e' w3 ⟨rfl, h3⟩
  have H3 := Lib.hid h3
  clear h3
  go_wp2_with fail
  go_ret
  exact ⟨rfl, H3.out⟩
end
end Go.Proofs.YtohdokddfjeekaaDoor
