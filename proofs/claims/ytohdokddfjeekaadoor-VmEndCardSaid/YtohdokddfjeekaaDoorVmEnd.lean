/- VmEnd: a Stop behind a program without jumps turns nothing, and instructions behind that do not count. -/
import Derived.Test.YtohdokddfjeekaaDoorVmL
namespace Go.Proofs.YtohdokddfjeekaaDoor
open Go.RowKit Go.Maps

def stopI : Ins := ⟨15, 0, 0, 0, 0⟩
def calmI (x : Ins) : Prop := x.op ≠ 8 ∧ x.op ≠ 9
theorem fits_calm {s : Nat} (h : s ≠ 2) (n m m' : Int) : fitsB s n m = fitsB s n m' := by
  simp only [fitsB, if_neg h]
theorem sort_calm {op : Int} (h8 : op ≠ 8) (h9 : op ≠ 9) (i : Nat) (hi : i < 4) : sortK (opK op) i ≠ 2 := by
  by_cases h : isOp op
  · have hi' : i = 0 ∨ i = 1 ∨ i = 2 ∨ i = 3 := by omega
    rcases hi' with rfl | rfl | rfl | rfl <;>
      rcases op_cases h with rfl | rfl | rfl | rfl | rfl | rfl | rfl | rfl | rfl | rfl | rfl | rfl | rfl | rfl | rfl <;> first | exact absurd rfl h8 | exact absurd rfl h9 | decide
  · rw [opK_none h]
    have hi' : i = 0 ∨ i = 1 ∨ i = 2 ∨ i = 3 := by omega
    rcases hi' with rfl | rfl | rfl | rfl <;> decide
theorem may_calm {x : Ins} (h : calmI x) (m m' : Int) : mayE x m = mayE x m' := by
  have e : ∀ i, i < 4 → okN x m i = okN x m' i := fun i hi => fits_calm (sort_calm h.1 h.2 i hi) _ _ _
  unfold mayE
  rw [e 0 (by omega), e 1 (by omega), e 2 (by omega), e 3 (by omega)]
theorem do_calm {e : Ev} {x : Ins} {s : MS} (h : calmI x) : (doP e x s).pl = s.pl + 1 := by
  unfold doP
  rw [if_neg h.1, if_neg h.2]
  split <;> rfl
theorem end_go {e : Ev} {P more : List Ins} (h : ∀ x ∈ P, calmI x) : ∀ (n : Nat) (s : MS), s.pl ≤ P.length → runP (P ++ stopI :: more) e n s = runP P e n s ∧ (runP P e n s).2 ≤ P.length - s.pl
  | 0, s, _ => ⟨rfl, Nat.zero_le _⟩
  | n + 1, s, hs => by
    by_cases hlt : s.pl < P.length
    · have hx : P[s.pl]? = some P[s.pl] := List.getElem?_eq_getElem hlt
      have hx2 : (P ++ stopI :: more)[s.pl]? = some P[s.pl] := by rw [List.getElem?_append_left hlt]; exact hx
      have hc := h P[s.pl] (List.getElem_mem hlt)
      generalize P[s.pl] = x at hx hx2 hc
      by_cases hd : x.op = 15 ∨ mayE x P.length ≠ 0
      · rw [run_none (next_stop hx hd), run_none (next_stop hx2 (hd.imp id fun h => by rw [may_calm hc _ P.length]; exact h))]
        exact ⟨rfl, Nat.zero_le _⟩
      · have h1 : x.op ≠ 15 := fun e => hd (.inl e)
        have h2 : mayE x P.length = 0 := Decidable.of_not_not fun e => hd (.inr e)
        rw [run_some (next_some hx h1 h2), run_some (next_some hx2 h1 ((may_calm hc _ P.length).trans h2))]
        have hp := do_calm (e := e) (s := s) hc
        obtain ⟨i1, i2⟩ := end_go (e := e) (more := more) h n (doP e x s) (by omega)
        rw [i1]
        exact ⟨rfl, by rw [hp] at i2; dsimp only; omega⟩
    · have hpl : s.pl = P.length := by omega
      have h1 : nextP P s = none := next_none (by omega)
      have h2 : nextP (P ++ stopI :: more) s = none := next_stop (x := stopI) (by rw [hpl, List.getElem?_append_right (Nat.le_refl _), Nat.sub_self]; rfl) (.inl rfl)
      rw [run_none h1, run_none h2]
      exact ⟨rfl, Nat.zero_le _⟩
theorem end_run {P more : List Ins} (h : ∀ x ∈ P, calmI x) (hP : P.length ≤ 30) (hm : more.length ≤ 30) (t : Nat → Int) (e : Ev) (fuel : Int) :
    runS (P ++ stopI :: more) t e fuel = runS P t e fuel ∧ (runS P t e fuel).2 ≤ P.length := by
  unfold runS
  rw [List.take_of_length_le (show P.length ≤ 64 by omega), List.take_of_length_le (show (P ++ stopI :: more).length ≤ 64 by rw [List.length_append, List.length_cons]; omega)]
  have := end_go (e := e) (more := more) h (fuelN fuel) (st0 t) (Nat.zero_le _)
  exact ⟨this.1, this.2⟩
theorem Holds.nilRow' (w : World) : Holds w.heap.size w (sepR (rowR 47 5 (.slice none 0 0) 0 []) noneR) w [] := (Holds.start w).nilRow 47 5

section
variable {w : World} {a b : Option Addr} {n c m d : Nat} {p q : List Ins}
set_option maxHeartbeats 4000000 in
theorem end_out (hO : Ops w) (t : Nat → Int) (e : Ev) (fan : Int) (h : n > 30 ∨ m > 30 ∨ fan > 2000) :
    Calls Tryd.prog 6 #[caseV a n c t e fan, .slice b m d] w (LawTrue w) := by
  have hF0 : Frm [] w (w.alloc (caseBox a n c t e fan)) := (Frm.refl _ _).alloc _
  have HF0 := Lib.hid hF0
  have HO := Lib.hid hO
  clear hF0 hO
  by_cases n0 : n > 30
  case' pos =>
    have g1 : decide ((n : Int) > 30) = true := by rw [decide_eq_true_eq]; omega
  case' neg =>
    have g1 : decide ((n : Int) > 30) = false := by rw [decide_eq_false_iff_not]; omega
    by_cases m0 : m > 30
    case' pos =>
      have g2 : decide ((m : Int) > 30) = true := by rw [decide_eq_true_eq]; omega
    case' neg =>
      have g2 : decide ((m : Int) > 30) = false := by rw [decide_eq_false_iff_not]; omega
      have g3 : decide (fan > 2000) = true := by rw [decide_eq_true_eq]; omega
  all_goals
    clear h
    go_enter Tryd.func6, Tryd.ntmps6
    go_wp2_with fail
    refine (awake_any (HO.out.frm HF0.out)).mono ?_
    rintro e' w3 ⟨rfl, hF⟩
    have HF2 := Lib.hid (HF0.out.trans (T := []) hF (by simp))
    clear hF
    go_wp2_with fail
    go_ret
    exact ⟨rfl, HF2.out.below (Nat.le_refl _) (by simp)⟩

/-- The first loop. -/
def CalmRel (w : World) (p : List Ins) (n : Nat) (iv : Value) (wr : World) : Prop := ∃ k : Nat, k ≤ n ∧ iv = .int .i64 (k : Int) ∧ (∀ i x, i < k → p[i]? = some x → calmI x) ∧ Frm [] w wr

set_option maxHeartbeats 8000000 in
set_option maxRecDepth 100000 in
theorem end_in (hO : Ops w) (t : Nat → Int) (e : Ev) (fan : Int) (hp : Ins.at_ w a n c p) (hnil : a = none → n = 0 ∧ c = 0) (hq : Ins.at_ w b m d q) (hnil2 : b = none → m = 0 ∧ d = 0) (hn : n ≤ 30) (hm : m ≤ 30) (hf : fan ≤ 2000) :
    Calls Tryd.prog 6 #[caseV a n c t e fan, .slice b m d] w (LawTrue w) := by
  have g1 : decide ((n : Int) > 30) = false := by rw [decide_eq_false_iff_not]; omega
  have g2 : decide ((m : Int) > 30) = false := by rw [decide_eq_false_iff_not]; omega
  have g3 : decide (fan > 2000) = false := by rw [decide_eq_false_iff_not]; omega
  have hpl := hp.1
  have hql := hq.1
  have hb := obj_new w (caseBox a n c t e fan)
  have HB := Lib.hid hb
  have HO := Lib.hid hO
  have HP := Lib.hid hp
  have HQ := Lib.hid hq
  have Hpl := Lib.hid hpl
  have Hql := Lib.hid hql
  have Hnil := Lib.hid hnil
  have Hnil2 := Lib.hid hnil2
  clear hO hp hq hb hpl hql hnil hnil2
  go_enter Tryd.func6, Tryd.ntmps6
  go_wp2_with fail
  go_loopw [5] (fun iv wr => CalmRel (w.alloc (caseBox a n c t e fan)) p n iv wr) (fun iv _ => n - (intOf iv).toNat)
  case atStart => exact ⟨0, Nat.zero_le _, rfl, fun i x hi => by omega, Frm.refl _ _⟩
  case round =>
    obtain ⟨k, hk, rfl, hcalm, hF⟩ := hrel
    have HF := Lib.hid hF
    have HC := Lib.hid hcalm
    have hFw := ((Frm.refl [] w).alloc (caseBox a n c t e fan)).trans (T := []) hF (by simp)
    have HFw := Lib.hid hFw
    obtain ⟨q0, q1, q2, q3, q4, q5, q6, q7, q8, q9, q10, q11, q12⟩ := cells13 (hF.obj HB.out (by simp))
    have z0 := lt_of_obj (hF.obj HB.out (by simp))
    have HBr := Lib.hid (hF.obj HB.out (by simp))
    clear hF hcalm
    by_cases hlt : k < n
    · obtain ⟨b1, off, x, rfl, hbl, hx, p0, p1, p2, p3, p4⟩ := insAt (HP.out.frm hFw) hlt
      have hlt' : (k : Int) < (n : Int) := by omega
      have Hx := Lib.hid hx
      clear hx hFw q1 q2 q3 q4 q5 q6 q7 q8 q9 q10 q11 q12 p1 p2 p3 p4
      by_cases h8 : x.op = 8
      · have g8 : (x.op == 8) = true := by rw [beq_iff_eq]; exact h8
        clear h8
        go_wp2_with fail
        refine (awake_any (HO.out.frm HFw.out)).mono ?_
        rintro e' w3 ⟨rfl, hF⟩
        have HF2 := Lib.hid (HFw.out.trans (T := []) hF (by simp))
        clear hF
        go_wp2_with fail
        go_ret
        exact ⟨rfl, HF2.out.below (Nat.le_refl _) (by simp)⟩
      have g8 : (x.op == 8) = false := by rw [beq_eq_false_iff_ne]; exact h8
      by_cases h9 : x.op = 9
      · have g9 : (x.op == 9) = true := by rw [beq_iff_eq]; exact h9
        clear h8 h9
        go_wp2_with fail
        refine (awake_any (HO.out.frm HFw.out)).mono ?_
        rintro e' w3 ⟨rfl, hF⟩
        have HF2 := Lib.hid (HFw.out.trans (T := []) hF (by simp))
        clear hF
        go_wp2_with fail
        go_ret
        exact ⟨rfl, HF2.out.below (Nat.le_refl _) (by simp)⟩
      have g9 : (x.op == 9) = false := by rw [beq_eq_false_iff_ne]; exact h9
      have Hne := Lib.hid (And.intro h8 h9)
      clear h8 h9
      go_wp2_with fail
      go_roundw
      case rel =>
        refine ⟨k + 1, by omega, by go_num, fun i y hi hy => ?_, HF.out⟩
        rcases Nat.lt_succ_iff_lt_or_eq.1 hi with h1 | rfl
        · exact HC.out i y h1 hy
        · obtain rfl : x = y := Option.some.inj (Hx.out.symm.trans hy)
          exact Hne.out
      case measure => simp [intOf]; omega
    · obtain rfl : k = n := by omega
      have hcp : ∀ x ∈ p, calmI x := fun x hx => by
        obtain ⟨i, hi⟩ := List.mem_iff_getElem?.1 hx
        exact HC.out i x (by have := (List.getElem?_eq_some_iff.1 hi).1; have := Hpl.out; omega) hi
      obtain ⟨hr1, hr2⟩ := end_run (more := q) hcp (by have := Hpl.out; omega) (by have := Hql.out; omega) t e 1024
      obtain ⟨S, hS⟩ : ∃ S, runS p t e 1024 = S := ⟨_, rfl⟩
      rw [hS] at hr1 hr2
      have hrun : ∀ (W : World), Frm [] w W → Calls Tryd.prog 9 #[.slice a k c, .agg #[.int .i64 (t 0), .int .i64 (t 1), .int .i64 (t 2), .int .i64 (t 3)], e.val, .int .i64 1024, .int .i64 fan] W (RunsTo S fan W) := fun W hF =>
        (run_any (HO.out.frm hF) (HP.out.frm hF) Hnil.out t e 1024 fan).mono fun _ _ h => h.to hS
      have hrun2 : ∀ (W : World) (a2 : Option Addr) (c2 : Nat), Frm [] w W → Ins.at_ W a2 (k + 1 + m) c2 (p ++ stopI :: q) → Calls Tryd.prog 9 #[.slice a2 (k + 1 + m) c2, .agg #[.int .i64 (t 0), .int .i64 (t 1), .int .i64 (t 2), .int .i64 (t 3)], e.val, .int .i64 1024, .int .i64 fan] W (RunsTo S fan W) := fun W a2 c2 hF hA =>
        (run_any (HO.out.frm hF) hA (fun ha => by subst ha; rcases hA.2.2.2 with h | ⟨_, _, h, _⟩; omega; cases h) t e 1024 fan).mono fun _ _ h => h.to hr1
      have g5 : decide (((S.2 : Nat) : Int) > (k : Int)) = false := by rw [decide_eq_false_iff_not]; have := Hpl.out; omega
      have g6 : decide (S.2 > k) = false := by rw [decide_eq_false_iff_not]; have := Hpl.out; omega
      have g7 : decide (k < S.2) = false := g6
      have Hrun := Lib.hid hrun
      have Hrun2 := Lib.hid hrun2
      obtain ⟨i1, hj0, hj1, hj2, hj3⟩ := info_parts infoInstr
      have Hi := Lib.hid (And.intro hj0 (And.intro hj1 (And.intro hj2 hj3)))
      have H0 := Lib.hid (Holds.nilRow' wr)
      clear hrun hrun2 hS hr1 hr2 hcp hj0 hj1 hj2 hj3 HC HF
      go_wp2_with (at_builtin; refine Stop.of ?_)
      refine Stop.go ?_
      refine wpList_append_sl (enc := Ins.enc) _ rfl _ _ 22 rfl 47 i1 (.agg #[.int .i64 0, .int .i64 0, .int .i64 0, .int .i64 0, .int .i64 0]) 5 40 Tryd.underlying22 Hi.out.1 Hi.out.2.1 Hi.out.2.2.1 Hi.out.2.2.2 rfl (by decide) (.slice none 0 0) 0 [] rfl H0.out.row a k c p rfl (HP.out.frm HFw.out) Hnil.out Ins.enc_len Ins.enc_one (by unfold maxLen; omega) (by omega) ?_
      intro a1 c1 w1 hown hF hnew
      simp only [Nat.zero_add, List.nil_append] at hown hnew ⊢
      have H1 := Lib.hid (H0.out.appended noneR_stable hown hF hnew)
      clear hown hF hnew q0 q1 q2 q3 q4 q5 q6 q7 q8 q9 q10 q11 q12 z0
      go_wp2_with (at_builtin; refine Stop.of ?_)
      refine Stop.go ?_
      have h5 := H1.out.alloc (sepR_stable (rowR_stable _ _ _ _ _) noneR_stable) (.cells #[.int .i64 15, .int .i64 0, .int .i64 0, .int .i64 0, .int .i64 0] 47)
      refine wpList_append_foot _ rfl _ _ 22 rfl 47 i1 (.agg #[.int .i64 0, .int .i64 0, .int .i64 0, .int .i64 0, .int .i64 0]) 5 40 Tryd.underlying22 Hi.out.1 Hi.out.2.1 Hi.out.2.2.1 Hi.out.2.2.2 rfl (by decide) (.slice a1 k c1) k (flat Ins.enc p) rfl h5.row ⟨_, 0, none⟩ 1 1 stopI.enc rfl rfl (cells_at _ stopI.enc _ _ (by simp)) (Ins.enc_one stopI) (by unfold maxLen; omega) (by omega) ?_
      intro a2 c2 w2 hown hF hnew
      have h6 := h5.appended noneR_stable hown hF hnew
      have H2 := Lib.hid h6
      clear hown hF hnew h5 h6
      go_wp2_with (at_builtin; refine Stop.of ?_)
      refine Stop.go ?_
      have hf2 := HFw.out.trans (T := []) (Frm.of_below (S := []) H2.out.below (Nat.le_refl _)) (by simp)
      refine wpList_append_sl (enc := Ins.enc) _ rfl _ _ 22 rfl 47 i1 (.agg #[.int .i64 0, .int .i64 0, .int .i64 0, .int .i64 0, .int .i64 0]) 5 40 Tryd.underlying22 Hi.out.1 Hi.out.2.1 Hi.out.2.2.1 Hi.out.2.2.2 rfl (by decide) (.slice a2 (k + 1) c2) (k + 1) (flat Ins.enc p ++ stopI.enc) rfl H2.out.row b m d q rfl (HQ.out.frm hf2) Hnil2.out Ins.enc_len Ins.enc_one (by unfold maxLen; omega) (by omega) ?_
      intro a3 c3 w3 hown hF hnew
      have h7 := H2.out.appended noneR_stable hown hF hnew
      have e3 : flat Ins.enc p ++ stopI.enc ++ flat Ins.enc q = flat Ins.enc (p ++ stopI :: q) := by rw [flat_append, flat, List.append_assoc]
      rw [e3] at h7
      have hsl3 : Ins.at_ w3 a3 (k + 1 + m) c3 (p ++ stopI :: q) := SlAt.of_row Ins.enc_len h7.row (by rw [List.length_append, List.length_cons, Hpl.out, Hql.out]; omega)
      have hf3 := HFw.out.trans (T := []) (Frm.of_below (S := []) h7.below (Nat.le_refl _)) (by simp)
      have hfr3 := Frm.of_below (S := []) h7.below (Nat.le_refl _)
      have HF3 := Lib.hid hf3
      have Hsl3 := Lib.hid hsl3
      have hb3 := hfr3.obj HBr.out (by simp)
      have h8 := ((Holds.start w3).alloc noneR_stable (stBox S.1.cs))
      obtain ⟨q0, q1, q2, q3, q4, q5, q6, q7, q8, q9, q10, q11, q12⟩ := cells13 hb3
      have z0 := lt_of_obj hb3
      have HB3 := Lib.hid hb3
      clear hown hF hnew h7 e3 hsl3 hf3 hfr3 hb3 h8 hf2 H0 H1 H2 Hi hFw
      go_wp2_with fail
      refine (Hrun.out _ HF3.out).mono ?_
      rintro e' w4 ⟨a4, c4, rfl, hsl, hF⟩
      have hb4 := hF.obj HB3.out (by simp)
      clear q0 q1 q2 q3 q4 q5 q6 q7 q8 q9 q10 q11 q12 z0
      obtain ⟨q0, q1, q2, q3, q4, q5, q6, q7, q8, q9, q10, q11, q12⟩ := cells13 hb4
      have z0 := lt_of_obj hb4
      have hFa : Frm [] w4 (w4.alloc (stBox S.1.cs)) := (Frm.refl _ _).alloc _
      have HS4 := Lib.hid (hsl.frm hFa)
      have HP4 := Lib.hid ((Hsl3.out.frm hF).frm hFa)
      have HF4 := Lib.hid ((HF3.out.trans (T := []) hF (by simp)).trans (T := []) hFa (by simp))
      have HB4 := Lib.hid (hFa.obj hb4 (by simp))
      have HT4 := Lib.hid (obj_new w4 (stBox S.1.cs))
      clear hsl hF hb4 hFa Hsl3 HB3
      go_wp2_with fail
      refine (Hrun2.out _ a3 c3 HF4.out HP4.out).mono ?_
      rintro e' w5 ⟨a5, c5, rfl, hsl5, hF⟩
      have hb5 := hF.obj HB4.out (by simp)
      clear q0 q1 q2 q3 q4 q5 q6 q7 q8 q9 q10 q11 q12 z0
      obtain ⟨q0, _⟩ := cells13 hb5
      have z0 := lt_of_obj hb5
      obtain ⟨u0, u1, u2, u3⟩ := cells4 (hF.obj HT4.out (by simp))
      have y0 := lt_of_obj (hF.obj HT4.out (by simp))
      have Hs5 := Lib.hid (HS4.out.frm hF)
      have Hm5 := Lib.hid hsl5
      have HF5 := Lib.hid (HF4.out.trans (T := []) hF (by simp))
      clear hF hb5 hsl5 HS4 HP4 HB4 HT4 Hrun Hrun2
      have gs : ∀ W, (binOp BinOp.neq 24 (.agg #[.int .i64 (S.1.cs 0), .int .i64 (S.1.cs 1), .int .i64 (S.1.cs 2), .int .i64 (S.1.cs 3)]) (.agg #[.int .i64 (S.1.cs 0), .int .i64 (S.1.cs 1), .int .i64 (S.1.cs 2), .int .i64 (S.1.cs 3)])).run Tryd.prog W = .ok (.bool false) W := st_neq S.1.cs
      have gg := st_guard
      generalize outP fan S.1.sent = l at Hs5 Hm5 ⊢
      go_wp2_with fail
      have hcap := Hs5.out.2.2.1
      have hcap' := Hs5.out.2.1
      simp only [maxLen] at hcap
      have gn : ∀ (x : Em) W, (binOp BinOp.neq 37 x.val x.val).run Tryd.prog W = .ok (.bool false) W := fun x W => by rw [em_neq]; simp
      have ge := em_guard
      clear u0 u1 u2 u3 y0 gs gg z0 q0 g5 g6 g7
      go_loopw [13] (fun iv wr => ∃ k : Nat, k ≤ l.length ∧ iv = .int .i64 (k : Int) ∧ Frm [] w5 wr) (fun iv _ => l.length - (intOf iv).toNat)
      case atStart => exact ⟨0, Nat.zero_le _, rfl, (Frm.refl _ _).alloc _⟩
      case round =>
        obtain ⟨j, hj, rfl, hF⟩ := hrel
        have HF := Lib.hid hF
        clear hF
        by_cases hlt : j < l.length
        · obtain ⟨b1, off, x, rfl, hbl, hx, q0, q1, q2, q3⟩ := emAt (Hs5.out.frm HF.out) hlt
          obtain ⟨b2, off2, y, rfl, hbl2, hy, p0, p1, p2, p3⟩ := emAt (Hm5.out.frm HF.out) hlt
          obtain rfl : x = y := Option.some.inj (hx.symm.trans hy)
          have gx := gn x
          have hlt' : (j : Int) < (l.length : Int) := by omega
          clear hx hy
          go_wp2_with fail
          go_quiet (fail)
          go_wp2_with fail
          go_roundw
          case rel => exact ⟨j + 1, by omega, by go_num, HF.out.drewN _⟩
          case measure => simp [intOf]; omega
        · obtain rfl : j = l.length := by omega
          go_wp2_with fail
          refine (awake_any (HO.out.frm (HF5.out.trans (T := []) HF.out (by simp)))).mono ?_
          rintro e' w6 ⟨rfl, hF⟩
          have HF6 := Lib.hid ((HF5.out.trans (T := []) HF.out (by simp)).trans (T := []) hF (by simp))
          clear hF
          go_wp2_with fail
          go_ret
          exact ⟨rfl, HF6.out.below (Nat.le_refl _) (by simp)⟩
/-- VmEnd, whatever comes in. -/
theorem end_any (hO : Ops w) (t : Nat → Int) (e : Ev) (fan : Int) (hp : Ins.at_ w a n c p) (hnil : a = none → n = 0 ∧ c = 0) (_ : (Lit.int .i64 fan).wf = true) (hq : Ins.at_ w b m d q) (hnil2 : b = none → m = 0 ∧ d = 0) :
    Calls Tryd.prog 6 #[caseV a n c t e fan, .slice b m d] w (LawTrue w) := by
  by_cases h : n > 30 ∨ m > 30 ∨ fan > 2000
  · exact end_out hO t e fan h
  · exact end_in hO t e fan hp hnil hq hnil2 (by omega) (by omega) (by omega)
end
end Go.Proofs.YtohdokddfjeekaaDoor
