/- VmSame: what is told hangs on the state and the event's time, kind, data and process alone. -/
import Derived.Test.YtohdokddfjeekaaDoorVmL
namespace Go.Proofs.YtohdokddfjeekaaDoor
open Go.RowKit Go.Maps

section
variable {w : World} {a : Option Addr} {n c : Nat} {p : List Ins}
set_option maxHeartbeats 1000000 in
theorem same_much (hO : Ops w) (t : Nat → Int) (e : Ev) (fan : Int) (hb : fewP n fan = false) (fuel k0 k1 k2 k3 : Int) :
    Calls Tryd.prog 3 #[caseV a n c t e fan, .int .i64 fuel, .agg #[.int .i64 k0, .int .i64 k1, .int .i64 k2, .int .i64 k3]] w (LawTrue w) := by
  have hF0 : Frm [] w ((w.alloc (caseBox a n c t e fan)).alloc (keyBox k0 k1 k2 k3)) := ((Frm.refl _ _).alloc _).alloc _
  have hf := few_any a n c t e fan ((w.alloc (caseBox a n c t e fan)).alloc (keyBox k0 k1 k2 k3))
  rw [hb] at hf
  have Hf := Lib.hid hf
  have HO := Lib.hid hO
  have HF0 := Lib.hid hF0
  clear hf hO hF0
  go_enter Tryd.func3, Tryd.ntmps3
  go_wp2_with fail
  refine Hf.out.mono ?_
  rintro e' w2 ⟨rfl, hF⟩
  have HF1 := Lib.hid (HF0.out.trans (T := []) hF (by simp))
  clear hF
  go_wp2_with fail
  refine (awake_any (HO.out.frm HF1.out)).mono ?_
  rintro e' w3 ⟨rfl, hF⟩
  have HF2 := Lib.hid (HF1.out.trans (T := []) hF (by simp))
  clear hF
  go_wp2_with fail
  go_ret
  exact ⟨rfl, HF2.out.below (Nat.le_refl _) (by simp)⟩

set_option maxHeartbeats 4000000 in
set_option maxRecDepth 100000 in
theorem same_few (hO : Ops w) (t : Nat → Int) (e : Ev) (fan : Int) (hp : Ins.at_ w a n c p) (hnil : a = none → n = 0 ∧ c = 0) (hb : fewP n fan = true) (fuel k0 k1 k2 k3 : Int) :
    Calls Tryd.prog 3 #[caseV a n c t e fan, .int .i64 fuel, .agg #[.int .i64 k0, .int .i64 k1, .int .i64 k2, .int .i64 k3]] w (LawTrue w) := by
  have h0 := ((Holds.start w).alloc noneR_stable (caseBox a n c t e fan)).alloc noneR_stable (keyBox k0 k1 k2 k3)
  simp only [World.size_alloc] at h0
  have hf := few_any a n c t e fan ((w.alloc (caseBox a n c t e fan)).alloc (keyBox k0 k1 k2 k3))
  rw [hb] at hf
  obtain ⟨S, hS⟩ : ∃ S, runS p t e fuel = S := ⟨_, rfl⟩
  have hr : ∀ (fan : Int) (W : World), Frm [] w W → Calls Tryd.prog 9 #[.slice a n c, .agg #[.int .i64 (t 0), .int .i64 (t 1), .int .i64 (t 2), .int .i64 (t 3)], e.val, .int .i64 fuel, .int .i64 fan] W (RunsTo S fan W) := fun fan W hF =>
    (run_any (hO.frm hF) (hp.frm hF) hnil t e fuel fan).mono fun _ _ h => h.to hS
  have hr2 : ∀ (W : World), Frm [] w W → Calls Tryd.prog 9 #[.slice a n c, .agg #[.int .i64 (t 0), .int .i64 (t 1), .int .i64 (t 2), .int .i64 (t 3)], (Ev.mk e.at_ k1 k2 k3 e.dst e.kind e.data).val, .int .i64 fuel, .int .i64 fan] W (RunsTo S fan W) := fun W hF =>
    (run_any (hO.frm hF) (hp.frm hF) hnil t (Ev.mk e.at_ k1 k2 k3 e.dst e.kind e.data) fuel fan).mono fun _ _ h => h.to ((runS_other (e := e) k1 k2 k3 p t fuel).trans hS)
  have Hf := Lib.hid hf
  have HO := Lib.hid hO
  have H0 := Lib.hid h0
  have Hr := Lib.hid hr
  have Hr2 := Lib.hid hr2
  clear hf hO h0 hr hr2 hp hnil hb hS
  go_enter Tryd.func3, Tryd.ntmps3
  go_wp2_with fail
  refine Hf.out.mono ?_
  rintro e' w2 ⟨rfl, hF⟩
  have h2 := H0.out.made noneR_stable hF
  obtain ⟨q0, q1, q2, q3, q4, q5, q6, q7, q8, q9, q10, q11, q12⟩ := cells13 (h2.box (k := w.heap.size) (o := caseBox a n c t e fan) (by simp))
  have H2 := Lib.hid h2
  clear hF h2
  go_wp2_with fail
  refine (Hr.out fan _ (Frm.of_below H2.out.below (Nat.le_refl _))).mono ?_
  rintro e' w3 ⟨a3, c3, rfl, hsl, hF⟩
  have h3 := H2.out.made noneR_stable hF
  clear q0 q1 q2 q3 q4 q5 q6 q7 q8 q9 q10 q11 q12
  obtain ⟨q0, q1, q2, q3, q4, q5, q6, q7, q8, q9, q10, q11, q12⟩ := cells13 (h3.box (k := w.heap.size) (o := caseBox a n c t e fan) (by simp))
  obtain ⟨r0, r1, r2, r3⟩ := cells4 (h3.box (k := w.heap.size + 1) (o := keyBox k0 k1 k2 k3) (by simp))
  have z0 := lt_of_obj (h3.box (k := w.heap.size) (o := caseBox a n c t e fan) (by simp))
  have z1 := lt_of_obj (h3.box (k := w.heap.size + 1) (o := keyBox k0 k1 k2 k3) (by simp))
  have H3 := Lib.hid h3
  have Hsl := Lib.hid hsl
  clear hF h3 hsl
  go_wp2_with fail
  have h3b := (H3.out.alloc noneR_stable (stBox S.1.cs)).alloc noneR_stable (Ev.mk e.at_ k1 k2 k3 e.dst e.kind e.data).box
  simp only [World.size_alloc] at h3b
  refine (Hr2.out _ (Frm.of_below h3b.below (Nat.le_refl _))).mono ?_
  rintro e' w4 ⟨a4, c4, rfl, hsl4, hF⟩
  have h4 := h3b.made noneR_stable hF
  have Hs4 := Lib.hid (Hsl.out.frm ((((Frm.refl [] _).alloc _).alloc _).trans (T := []) hF (by simp)))
  have Hm4 := Lib.hid hsl4
  clear q0 q1 q2 q3 q4 q5 q6 q7 q8 q9 q10 q11 q12 r0 r1 r2 r3 z1
  obtain ⟨q0, q1, q2, q3, q4, q5, q6, q7, q8, q9, q10, q11, q12⟩ := cells13 (h4.box (k := w.heap.size) (o := caseBox a n c t e fan) (by simp))
  have z4 := lt_of_obj (h4.box (k := w.heap.size) (o := caseBox a n c t e fan) (by simp))
  have H4 := Lib.hid h4
  clear hF h3b h4 hsl4
  go_wp2_with fail
  have h4b := (H4.out.alloc noneR_stable (stBox S.1.cs))
  refine (Hr.out 0 _ (Frm.of_below h4b.below (Nat.le_refl _))).mono ?_
  rintro e' w5 ⟨a5, c5, rfl, _, hF⟩
  rw [show outP 0 S.1.sent = [] from rfl, List.length_nil]
  have h5 := h4b.made noneR_stable hF
  have Hs5 := Lib.hid (Hs4.out.frm (((Frm.refl [] _).alloc _).trans (T := []) hF (by simp)))
  have Hm5 := Lib.hid (Hm4.out.frm (((Frm.refl [] _).alloc _).trans (T := []) hF (by simp)))
  clear q0 q1 q2 q3 q4 q5 q6 q7 q8 q9 q10 q11 q12
  obtain ⟨u0, u1, u2, u3⟩ := cells4 (h5.box (k := w3.heap.size) (o := stBox S.1.cs) (by simp))
  obtain ⟨v0, v1, v2, v3⟩ := cells4 (h5.box (k := w4.heap.size) (o := stBox S.1.cs) (by simp))
  have y0 := lt_of_obj (h5.box (k := w3.heap.size) (o := stBox S.1.cs) (by simp))
  have y1 := lt_of_obj (h5.box (k := w4.heap.size) (o := stBox S.1.cs) (by simp))
  have HF5 := Lib.hid (Frm.of_below (S := []) h5.below (Nat.le_refl _))
  clear hF h4b h5 Hs4 Hm4 Hsl H3 H4 H2 Hr Hr2
  have gs : ∀ W, (binOp BinOp.neq 24 (.agg #[.int .i64 (S.1.cs 0), .int .i64 (S.1.cs 1), .int .i64 (S.1.cs 2), .int .i64 (S.1.cs 3)]) (.agg #[.int .i64 (S.1.cs 0), .int .i64 (S.1.cs 1), .int .i64 (S.1.cs 2), .int .i64 (S.1.cs 3)])).run Tryd.prog W = .ok (.bool false) W := st_neq S.1.cs
  have gg := st_guard
  generalize outP fan S.1.sent = l at Hs5 Hm5 ⊢
  go_wp2_with fail
  have hcap := Hs5.out.2.2.1
  have hcap' := Hs5.out.2.1
  simp only [maxLen] at hcap
  have gn : ∀ (x : Em) W, (binOp BinOp.neq 37 x.val x.val).run Tryd.prog W = .ok (.bool false) W := fun x W => by rw [em_neq]; simp
  have ge := em_guard
  clear u0 u1 u2 u3 v0 v1 v2 v3 y0 y1 gs gg z0 z4
  go_loopw [17] (fun iv wr => ∃ k : Nat, k ≤ l.length ∧ iv = .int .i64 (k : Int) ∧ Frm [] w5 wr) (fun iv _ => l.length - (intOf iv).toNat)
  case atStart => exact ⟨0, Nat.zero_le _, rfl, (Frm.refl _ _).alloc _⟩
  case round =>
    obtain ⟨k, hk, rfl, hF⟩ := hrel
    have HF := Lib.hid hF
    clear hF
    by_cases hlt : k < l.length
    · obtain ⟨b, off, x, rfl, hbl, hx, q0, q1, q2, q3⟩ := emAt (Hs5.out.frm HF.out) hlt
      obtain ⟨b2, off2, y, rfl, hbl2, hy, p0, p1, p2, p3⟩ := emAt (Hm5.out.frm HF.out) hlt
      obtain rfl : x = y := Option.some.inj (hx.symm.trans hy)
      have gx := gn x
      have hlt' : (k : Int) < (l.length : Int) := by omega
      clear hx hy
      go_wp2_with fail
      go_quiet (fail)
      go_wp2_with fail
      go_roundw
      case rel => exact ⟨k + 1, by omega, by go_num, HF.out.drewN _⟩
      case measure => simp [intOf]; omega
    · obtain rfl : k = l.length := by omega
      go_wp2_with fail
      refine (awake_any (HO.out.frm (HF5.out.trans (T := []) HF.out (by simp)))).mono ?_
      rintro e' w6 ⟨rfl, hF⟩
      have HF6 := Lib.hid ((HF5.out.trans (T := []) HF.out (by simp)).trans (T := []) hF (by simp))
      clear hF
      go_wp2_with fail
      go_ret
      exact ⟨rfl, HF6.out.below (Nat.le_refl _) (by simp)⟩
/-- VmSame, whatever comes in. -/
theorem same_any (hO : Ops w) (t : Nat → Int) (e : Ev) (fan : Int) (hp : Ins.at_ w a n c p) (hnil : a = none → n = 0 ∧ c = 0) (_ : (Lit.int .i64 fan).wf = true) (fuel k0 k1 k2 k3 : Int) :
    Calls Tryd.prog 3 #[caseV a n c t e fan, .int .i64 fuel, .agg #[.int .i64 k0, .int .i64 k1, .int .i64 k2, .int .i64 k3]] w (LawTrue w) := by
  cases hb : fewP n fan with
  | true => exact same_few hO t e fan hp hnil hb fuel k0 k1 k2 k3
  | false => exact same_much hO t e fan hb fuel k0 k1 k2 k3
end
end Go.Proofs.YtohdokddfjeekaaDoor
