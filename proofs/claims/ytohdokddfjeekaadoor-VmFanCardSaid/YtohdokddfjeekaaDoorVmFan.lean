/- VmFan: what is sent with less fan is a beginning of what is sent with more. -/
import Derived.Test.YtohdokddfjeekaaDoorVmL
namespace Go.Proofs.YtohdokddfjeekaaDoor
open Go.RowKit Go.Maps

section
variable {w : World} {a : Option Addr} {n c : Nat} {p : List Ins}
set_option maxHeartbeats 4000000 in
theorem fan_out (hO : Ops w) (t : Nat → Int) (e : Ev) (fan fuel more : Int) (h : fewP n fan = false ∨ fan < 0 ∨ more < 0 ∨ more > 100) :
    Calls Tryd.prog 5 #[caseV a n c t e fan, .int .i64 fuel, .int .i64 more] w (LawTrue w) := by
  have h0 := (Holds.start w).alloc noneR_stable (caseBox a n c t e fan)
  have hf := few_any a n c t e fan (w.alloc (caseBox a n c t e fan))
  have H0 := Lib.hid h0
  have HO := Lib.hid hO
  clear h0 hO
  cases hb : fewP n fan
  case' true =>
    rw [hb] at hf h
    have h' : fan < 0 ∨ more < 0 ∨ more > 100 := by simpa using h
    by_cases f0 : fan < 0
    case' pos =>
      have g1 : decide (fan < 0) = true := by rw [decide_eq_true_eq]; exact f0
    case' neg =>
      have g1 : decide (fan < 0) = false := by rw [decide_eq_false_iff_not]; exact f0
      by_cases m0 : more < 0
      case' pos =>
        have g2 : decide (more < 0) = true := by rw [decide_eq_true_eq]; exact m0
      case' neg =>
        have g2 : decide (more < 0) = false := by rw [decide_eq_false_iff_not]; exact m0
        have g3 : decide (more > 100) = true := by rw [decide_eq_true_eq]; omega
    all_goals clear h h'
  case' false =>
    rw [hb] at hf
    clear h
  all_goals
    have Hf := Lib.hid hf
    clear hf hb
    go_enter Tryd.func5, Tryd.ntmps5
    go_wp2_with fail
    refine Hf.out.mono ?_
    rintro e' w2 ⟨rfl, hF⟩
    have h2 := H0.out.made noneR_stable hF
    obtain ⟨q0, q1, q2, q3, q4, q5, q6, q7, q8, q9, q10, q11, q12⟩ := cells13 (h2.box (k := w.heap.size) (o := caseBox a n c t e fan) (by simp))
    have HF1 := Lib.hid (Frm.of_below (S := []) h2.below (Nat.le_refl _))
    clear hF h2
    go_wp2_with fail
    refine (awake_any (HO.out.frm HF1.out)).mono ?_
    rintro e' w3 ⟨rfl, hF⟩
    have HF2 := Lib.hid (HF1.out.trans (T := []) hF (by simp))
    clear hF
    go_wp2_with fail
    go_ret
    exact ⟨rfl, HF2.out.below (Nat.le_refl _) (by simp)⟩

theorem out_len (fan : Int) (l : List Em) : (outP fan l).length = min fan.toNat l.length := by unfold outP; rw [List.length_take]
theorem out_get {f g : Int} {l : List Em} (h : f.toNat ≤ g.toNat) {i : Nat} {x y : Em} (hx : (outP f l)[i]? = some x) (hy : (outP g l)[i]? = some y) : x = y := by
  unfold outP at hx hy
  rw [List.getElem?_take] at hx hy
  split at hx
  · rw [if_pos (by omega)] at hy
    exact Option.some.inj (hx.symm.trans hy)
  · cases hx

set_option maxHeartbeats 4000000 in
set_option maxRecDepth 100000 in
theorem fan_in (hO : Ops w) (t : Nat → Int) (e : Ev) (fan fuel more : Int) (hp : Ins.at_ w a n c p) (hnil : a = none → n = 0 ∧ c = 0) (hb : fewP n fan = true) (hf0 : 0 ≤ fan) (hm0 : 0 ≤ more) (hm1 : more ≤ 100) :
    Calls Tryd.prog 5 #[caseV a n c t e fan, .int .i64 fuel, .int .i64 more] w (LawTrue w) := by
  have h0 := (Holds.start w).alloc noneR_stable (caseBox a n c t e fan)
  have hf := few_any a n c t e fan (w.alloc (caseBox a n c t e fan))
  have hf2 : fan ≤ 2000 := by unfold fewP at hb; simp at hb; exact hb.2
  rw [hb] at hf
  obtain ⟨S, hS⟩ : ∃ S, runS p t e fuel = S := ⟨_, rfl⟩
  have hr : ∀ (fan : Int) (W : World), Frm [] w W → Calls Tryd.prog 9 #[.slice a n c, .agg #[.int .i64 (t 0), .int .i64 (t 1), .int .i64 (t 2), .int .i64 (t 3)], e.val, .int .i64 fuel, .int .i64 fan] W (RunsTo S fan W) := fun fan W hF =>
    (run_any (hO.frm hF) (hp.frm hF) hnil t e fuel fan).mono fun _ _ h => h.to hS
  have g1 : decide (fan < 0) = false := by rw [decide_eq_false_iff_not]; omega
  have g2 : decide (more < 0) = false := by rw [decide_eq_false_iff_not]; omega
  have g3 : decide (more > 100) = false := by rw [decide_eq_false_iff_not]; omega
  have e1 : IntKind.i64.wrap (fan + more) = fan + more := IntWalk.i64_in _ (by omega)
  have hl1 := out_len fan S.1.sent
  have hl2 := out_len (fan + more) S.1.sent
  have hif : (if fan < ((outP (fan + more) S.1.sent).length : Int) then fan else ((outP (fan + more) S.1.sent).length : Int)) = ((outP fan S.1.sent).length : Int) := by
    rw [hl1, hl2]
    split <;> omega
  have g4 : decide (((outP (fan + more) S.1.sent).length : Int) > fan + more) = false := by
    rw [hl2, decide_eq_false_iff_not]
    omega
  have hle : (outP fan S.1.sent).length ≤ (outP (fan + more) S.1.sent).length := by rw [hl1, hl2]; omega
  have hget : ∀ (i : Nat) (x y : Em), (outP fan S.1.sent)[i]? = some x → (outP (fan + more) S.1.sent)[i]? = some y → x = y := fun i x y h1 h2 => out_get (by omega) h1 h2
  have Hf := Lib.hid hf
  have HO := Lib.hid hO
  have H0 := Lib.hid h0
  have Hr := Lib.hid hr
  have Hif := Lib.hid hif
  have Hget := Lib.hid hget
  have Hle := Lib.hid hle
  have Hg4 := Lib.hid g4
  clear hf hO h0 hr hp hnil hb hS hl1 hl2 hif hget hle g4
  go_enter Tryd.func5, Tryd.ntmps5
  go_wp2_with fail
  refine Hf.out.mono ?_
  rintro e' w2 ⟨rfl, hF⟩
  have h2 := H0.out.made noneR_stable hF
  obtain ⟨q0, q1, q2, q3, q4, q5, q6, q7, q8, q9, q10, q11, q12⟩ := cells13 (h2.box (k := w.heap.size) (o := caseBox a n c t e fan) (by simp))
  have H2 := Lib.hid h2
  clear hF h2
  go_wp2_with fail
  refine (Hr.out fan _ (Frm.of_below H2.out.below (Nat.le_refl _))).mono ?_
  rintro e' w3 ⟨a3, c3, rfl, hsl, hF⟩
  have h3 := (H2.out.made noneR_stable hF).alloc noneR_stable (stBox S.1.cs)
  have hF3 : Frm [] w3 (w3.alloc (stBox S.1.cs)) := (Frm.refl _ _).alloc _
  clear q0 q1 q2 q3 q4 q5 q6 q7 q8 q9 q10 q11 q12
  obtain ⟨q0, q1, q2, q3, q4, q5, q6, q7, q8, q9, q10, q11, q12⟩ := cells13 ((H2.out.made noneR_stable hF).box (k := w.heap.size) (o := caseBox a n c t e fan) (by simp))
  have z0 := lt_of_obj ((H2.out.made noneR_stable hF).box (k := w.heap.size) (o := caseBox a n c t e fan) (by simp))
  have H3 := Lib.hid h3
  have Hsl := Lib.hid (hsl.frm hF3)
  clear hF h3 hsl hF3
  go_wp2_with fail
  refine (Hr.out (fan + more) _ (Frm.of_below H3.out.below (Nat.le_refl _))).mono ?_
  rintro e' w4 ⟨a4, c4, rfl, hsl4, hF⟩
  have h4 := H3.out.made noneR_stable hF
  have Hs4 := Lib.hid (Hsl.out.frm hF)
  have Hm4 := Lib.hid hsl4
  clear q0 q1 q2 q3 q4 q5 q6 q7 q8 q9 q10 q11 q12
  obtain ⟨q0, q1, q2, q3, q4, q5, q6, q7, q8, q9, q10, q11, q12⟩ := cells13 (h4.box (k := w.heap.size) (o := caseBox a n c t e fan) (by simp))
  obtain ⟨u0, u1, u2, u3⟩ := cells4 (h4.box (k := w3.heap.size) (o := stBox S.1.cs) (by simp))
  have z4 := lt_of_obj (h4.box (k := w.heap.size) (o := caseBox a n c t e fan) (by simp))
  have y0 := lt_of_obj (h4.box (k := w3.heap.size) (o := stBox S.1.cs) (by simp))
  have HF4 := Lib.hid (Frm.of_below (S := []) h4.below (Nat.le_refl _))
  clear hF hsl4 h4 Hsl H3 H2 Hr z0
  have gs : ∀ W, (binOp BinOp.neq 24 (.agg #[.int .i64 (S.1.cs 0), .int .i64 (S.1.cs 1), .int .i64 (S.1.cs 2), .int .i64 (S.1.cs 3)]) (.agg #[.int .i64 (S.1.cs 0), .int .i64 (S.1.cs 1), .int .i64 (S.1.cs 2), .int .i64 (S.1.cs 3)])).run Tryd.prog W = .ok (.bool false) W := st_neq S.1.cs
  have gg := st_guard
  have hif := Hif.out
  have g4 := Hg4.out
  have hget := Hget.out
  have hle := Hle.out
  clear Hif Hg4 Hget Hle
  generalize outP fan S.1.sent = l at Hs4 hif g4 hget hle ⊢
  generalize outP (fan + more) S.1.sent = m at Hm4 hif g4 hget hle ⊢
  have Hget := Lib.hid hget
  have hne : ((l.length : Int) != (l.length : Int)) = false := by simp
  clear hget
  go_wp2_with fail
  have hcap := Hs4.out.2.2.1
  have hcap' := Hs4.out.2.1
  simp only [maxLen] at hcap
  have gn : ∀ (x : Em) W, (binOp BinOp.neq 37 x.val x.val).run Tryd.prog W = .ok (.bool false) W := fun x W => by rw [em_neq]; simp
  have ge := em_guard
  clear u0 u1 u2 u3 y0 gs gg z4 q0 q1 q2 q3 q4 q5 q6 q7 q8 q9 q10 q11 q12 hif g4 hne g1 g2 g3 e1
  go_loopw [13] (fun iv wr => ∃ k : Nat, k ≤ l.length ∧ iv = .int .i64 (k : Int) ∧ Frm [] w4 wr) (fun iv _ => l.length - (intOf iv).toNat)
  case atStart => exact ⟨0, Nat.zero_le _, rfl, (Frm.refl _ _).alloc _⟩
  case round =>
    obtain ⟨k, hk, rfl, hF⟩ := hrel
    have HF := Lib.hid hF
    clear hF
    by_cases hlt : k < l.length
    · obtain ⟨b, off, x, rfl, hbl, hx, q0, q1, q2, q3⟩ := emAt (Hs4.out.frm HF.out) hlt
      obtain ⟨b2, off2, y, rfl, hbl2, hy, p0, p1, p2, p3⟩ := emAt (Hm4.out.frm HF.out) (show k < m.length by omega)
      obtain rfl : x = y := Hget.out k x y hx hy
      have gx := gn x
      have hlt' : (k : Int) < (l.length : Int) := by omega
      have hlt2 : (k : Int) < (m.length : Int) := by omega
      clear hx hy
      go_wp2_with fail
      go_quiet (fail)
      go_wp2_with fail
      go_roundw
      case rel => exact ⟨k + 1, by omega, by go_num, HF.out.drewN _⟩
      case measure => simp [intOf]; omega
    · obtain rfl : k = l.length := by omega
      go_wp2_with fail
      refine (awake_any (HO.out.frm (HF4.out.trans (T := []) HF.out (by simp)))).mono ?_
      rintro e' w6 ⟨rfl, hF⟩
      have HF6 := Lib.hid ((HF4.out.trans (T := []) HF.out (by simp)).trans (T := []) hF (by simp))
      clear hF
      go_wp2_with fail
      go_ret
      exact ⟨rfl, HF6.out.below (Nat.le_refl _) (by simp)⟩
/-- VmFan, whatever comes in. -/
theorem fan_any (hO : Ops w) (t : Nat → Int) (e : Ev) (fan : Int) (hp : Ins.at_ w a n c p) (hnil : a = none → n = 0 ∧ c = 0) (_ : (Lit.int .i64 fan).wf = true) (fuel more : Int) :
    Calls Tryd.prog 5 #[caseV a n c t e fan, .int .i64 fuel, .int .i64 more] w (LawTrue w) := by
  by_cases h : fewP n fan = false ∨ fan < 0 ∨ more < 0 ∨ more > 100
  · exact fan_out hO t e fan fuel more h
  · have hb : fewP n fan = true := by
      cases hf : fewP n fan with
      | true => rfl
      | false => exact absurd (.inl hf) h
    exact fan_in hO t e fan fuel more hp hnil hb (by omega) (by omega) (by omega)
end
end Go.Proofs.YtohdokddfjeekaaDoor
