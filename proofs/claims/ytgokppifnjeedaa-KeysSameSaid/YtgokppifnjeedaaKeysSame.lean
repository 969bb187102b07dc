/- KeysSame, walked. -/
import Derived.Test.YtgokppifnjeedaaSortV
namespace Go.Proofs.Ytgokppifnjeedaa
open Go.RowKit Go.Maps

set_option maxHeartbeats 1000000 in
set_option maxRecDepth 100000 in
theorem ksame_out (w : World) (a1 : Option Addr) (n1 c1 : Nat) (h : 60 < n1) : Calls Try.prog 8 #[.slice a1 n1 c1] w (LawTrue w) := by
  go_enter Try.func8, Try.ntmps8
  go_wp2_with fail
  refine (awake_any _).mono ?_
  rintro e w1 ⟨rfl, hf⟩
  go_wp2_with fail
  go_ret
  exact ⟨rfl, hf.below (Nat.le_refl _) (by simp)⟩

/-- How many of the first k are the one. -/
def cntE (x : Ev) (l : List Ev) (k : Nat) : Nat := (l.take k).countP fun y => decide (y = x)
theorem cntE_yes {x y : Ev} {l : List Ev} {k p : Nat} (hp : cntE x l k = p) (h : l[k]? = some y) (hd : decide (y = x) = true) : cntE x l (k + 1) = p + 1 := by
  have ht : l.take (k + 1) = l.take k ++ [y] := by rw [List.take_add_one, h]; rfl
  subst hp
  unfold cntE
  rw [ht, List.countP_append, List.countP_singleton, hd]
  rfl
theorem cntE_no {x y : Ev} {l : List Ev} {k p : Nat} (hp : cntE x l k = p) (h : l[k]? = some y) (hd : decide (y = x) = false) : cntE x l (k + 1) = p := by
  have ht : l.take (k + 1) = l.take k ++ [y] := by rw [List.take_add_one, h]; rfl
  subst hp
  unfold cntE
  rw [ht, List.countP_append, List.countP_singleton, hd]
  rfl
theorem cntE_le (x : Ev) (l : List Ev) (k : Nat) : cntE x l k ≤ k := by
  unfold cntE
  exact Nat.le_trans (List.countP_le_length) (by rw [List.length_take]; omega)
theorem cntE_end {x : Ev} {l r : List Ev} {n : Nat} (hl : l.length = n) (hr : r.length = n) (h : Alike l r) : cntE x l n = cntE x r n := by
  unfold cntE
  rw [List.take_of_length_le (by omega), List.take_of_length_le (by omega)]
  exact h.count x
theorem asc_cmp {l : List Ev} (h : Asc l) {i k : Nat} {a b : Ev} (hik : i < k) (hi : l[i]? = some a) (hk : l[k]? = some b) : a.k.cmp b.k ≤ 0 := by
  have h1 : b.k.lt a.k = false := by
    unfold Asc at h
    rw [List.pairwise_iff_getElem] at h
    obtain ⟨hi', rfl⟩ := List.getElem?_eq_some_iff.1 hi
    obtain ⟨hk', rfl⟩ := List.getElem?_eq_some_iff.1 hk
    exact h i k hi' hk' hik
  rcases cmp_cases a.k b.k with ⟨h2, _⟩ | ⟨h2, _⟩ | ⟨h2, h3⟩
  · omega
  · omega
  · rw [h1] at h3; cases h3

def SameO (B : Nat) (w0 : World) (R : World → List Nat → Prop) (n : Nat) (iv : Value) (wr : World) : Prop := ∃ i : Nat, i ≤ n ∧ iv = .int .i64 (i : Int) ∧ Holds B w0 R wr []
def SameI (B : Nat) (w0 : World) (R : World → List Nat → Prop) (n : Nat) (x : Ev) (l r : List Ev) (nv mv kv : Value) (wr : World) : Prop :=
  ∃ k p q : Nat, k ≤ n ∧ p ≤ k ∧ q ≤ k ∧ kv = .int .i64 (k : Int) ∧ nv = .int .i64 (p : Int) ∧ mv = .int .i64 (q : Int) ∧ cntE x l k = p ∧ cntE x r k = q ∧ Holds B w0 R wr []

attribute [local go_sem high] event_eql event_guard in
set_option maxHeartbeats 4000000 in
set_option maxRecDepth 100000 in
theorem ksame_in (w : World) (a1 : Option Addr) (n1 c1 : Nat) (l : List Ev) (hl : EvsAt w a1 n1 c1 l) (hnil : a1 = none → n1 = 0 ∧ c1 = 0) (h2 : n1 ≤ 60) :
    Calls Try.prog 8 #[.slice a1 n1 c1] w (LawTrue w) := by
  have hl1 := hl.1
  have gc1 := hl.2.1
  have Hl := Lib.hid hl
  have Hl1 := Lib.hid hl1
  have Hnil := Lib.hid hnil
  clear hl hl1 hnil
  go_enter Try.func8, Try.ntmps8
  go_wp2_with fail
  refine (sort_goesN noneR_stable (Holds.start w) Hl.out (by omega) Hnil.out).mono ?_
  rintro e w2 ⟨a2, c2, r, rfl, r1, r2, r3, r4, h2'⟩
  have R1 := Lib.hid r1
  have R2 := Lib.hid r2
  have R3 := Lib.hid r3
  have R4 := Lib.hid r4
  have H2 := Lib.hid h2'
  have hR : Stable (sepR (rowR 25 7 (.slice a2 n1 c2) n1 (evCells r)) noneR) := sepR_stable (rowR_stable _ _ _ _ _) noneR_stable
  clear r1 r2 r3 r4 h2'
  have g : ((n1 : Int) != (n1 : Int)) = false := by simp
  have g' : (n1 != n1) = false := by simp
  go_wp2_with fail
  refine (sort_goesN hR H2.out (EvsAt.of_row H2.out.row R3.out) (by omega) R4.out).mono ?_
  rintro e w3 ⟨a3, c3, rr, rfl, q1, q2, q3, q4, h3'⟩
  obtain rfl : r = rr := asc_unique R1.out q1 q2
  have H3 := Lib.hid h3'
  clear q1 q2 q3 q4 h3'
  have hR3 : Stable (sepR (rowR 25 7 (.slice a3 n1 c3) n1 (evCells r)) (sepR (rowR 25 7 (.slice a2 n1 c2) n1 (evCells r)) noneR)) := sepR_stable (rowR_stable _ _ _ _ _) hR
  have hc := events_any w3 a3 n1 c3 r a2 n1 c2 r (EvsAt.of_row H3.out.row R3.out) (EvsAt.of_row H3.out.row2 R3.out) (by omega)
  rw [show decide (r = r) = true by simp] at hc
  have Hc := Lib.hid hc
  clear hc
  go_wp2_with fail
  refine Hc.out.mono ?_
  rintro e w4 ⟨rfl, hf⟩
  have hloop : SameO w.heap.size w (sepR (rowR 25 7 (.slice a2 n1 c2) n1 (evCells r)) noneR) n1 (.int .i64 0) w4 := ⟨0, Nat.zero_le _, rfl, (H3.out.made hR3 hf).drop⟩
  have Hloop := Lib.hid hloop
  clear hloop hf Hc H3 H2 hR3
  go_wp2_with fail
  go_loopw [4] (fun iv wr => SameO w.heap.size w (sepR (rowR 25 7 (.slice a2 n1 c2) n1 (evCells r)) noneR) n1 iv wr) (fun iv _ => n1 - (intOf iv).toNat)
  case atStart => exact Hloop.out
  case round =>
    obtain ⟨i, hi, rfl, hH⟩ := hrel
    have HO := Lib.hid hH
    clear hH Hloop
    by_cases hlt : i < n1
    · obtain ⟨x, hx⟩ : ∃ x, l[i]? = some x := ⟨_, List.getElem?_eq_getElem (by have := Hl1.out; omega)⟩
      have Hx := Lib.hid hx
      have hloop : SameI w.heap.size w (sepR (rowR 25 7 (.slice a2 n1 c2) n1 (evCells r)) noneR) n1 x l r (.int .i64 0) (.int .i64 0) (.int .i64 0) wr := ⟨0, 0, 0, Nat.zero_le _, Nat.le_refl _, Nat.le_refl _, rfl, rfl, rfl, by simp [cntE], by simp [cntE], HO.out⟩
      have Hloop := Lib.hid hloop
      clear hloop HO hx
      go_wp2_with fail
      go_loopw [5, 6, 7] (fun nv mv kv wr => SameI w.heap.size w (sepR (rowR 25 7 (.slice a2 n1 c2) n1 (evCells r)) noneR) n1 x l r nv mv kv wr) (fun _ _ kv _ => n1 - (intOf kv).toNat)
      case atStart => exact Hloop.out
      case round =>
        obtain ⟨k, p, q, hk, hpk, hqk, rfl, rfl, rfl, hp, hq, hH⟩ := hrel
        have HI := Lib.hid hH
        have Hp := Lib.hid hp
        have Hq := Lib.hid hq
        clear hH Hloop hp hq
        by_cases hlt2 : k < n1
        ·
          obtain ⟨ga, rfl, hga, hca⟩ := row_addr HI.out.row (by omega)
          have hle := Hl.out.frm (Frm.of_below HI.out.below (Nat.le_refl _))
          obtain ⟨b1, o1, xi, rfl, hb1, hxi, p0, p1, p2, p3, p4, p5, p6⟩ := hle.at_ hlt
          rw [Hx.out] at hxi
          obtain rfl := Option.some.inj hxi
          obtain ⟨_, _, xk, he1, _, hxk, q0, q1, q2, q3, q4, q5, q6⟩ := hle.at_ hlt2
          simp only [Option.some.injEq, Addr.mk.injEq, and_true] at he1
          obtain ⟨rfl, rfl⟩ := he1
          obtain ⟨_, _, sk, he1, _, hsk, s0, s1, s2, s3, s4, s5, s6⟩ := (EvsAt.of_row HI.out.row R3.out).at_ hlt2
          simp only [Option.some.injEq, Addr.mk.injEq, and_true] at he1
          obtain ⟨rfl, rfl⟩ := he1
          simp only [Nat.zero_add] at s0 s1 s2 s3 s4 s5 s6
          have Hxk := Lib.hid hxk
          have Hsk := Lib.hid hsk
          clear hle hxi hxk hsk
          cases hd1 : decide (xk = x) <;> cases hd2 : decide (sk = x)
          all_goals
            go_wp2_with fail
            go_quiet (fail)
            go_wp2_with fail
            go_quiet (fail)
            go_wp2_with fail
            go_roundw
            case rel => first
              | exact ⟨k + 1, p, q, by omega, by omega, by omega, by go_num, rfl, rfl, cntE_no Hp.out Hxk.out hd1, cntE_no Hq.out Hsk.out hd2, (by first | exact HI.out.drewN hR _ | exact (HI.out.drewN hR _).drewN hR _)⟩
              | exact ⟨k + 1, p + 1, q, by omega, by omega, by omega, by go_num, by go_num, rfl, cntE_yes Hp.out Hxk.out hd1, cntE_no Hq.out Hsk.out hd2, (by first | exact HI.out.drewN hR _ | exact (HI.out.drewN hR _).drewN hR _)⟩
              | exact ⟨k + 1, p, q + 1, by omega, by omega, by omega, by go_num, rfl, by go_num, cntE_no Hp.out Hxk.out hd1, cntE_yes Hq.out Hsk.out hd2, (by first | exact HI.out.drewN hR _ | exact (HI.out.drewN hR _).drewN hR _)⟩
              | exact ⟨k + 1, p + 1, q + 1, by omega, by omega, by omega, by go_num, by go_num, by go_num, cntE_yes Hp.out Hxk.out hd1, cntE_yes Hq.out Hsk.out hd2, (by first | exact HI.out.drewN hR _ | exact (HI.out.drewN hR _).drewN hR _)⟩
            case measure => simp [intOf]; omega
        · obtain rfl : k = n1 := by omega
          have hpq : p = q := by rw [← Hp.out, ← Hq.out]; exact cntE_end Hl1.out R3.out R2.out
          subst hpq
          have gp : ((p : Int) != (p : Int)) = false := by simp
          have gp' : (p != p) = false := by simp
          clear Hp Hq
          by_cases hi0 : i = 0
          · subst hi0
            go_wp2_with fail
            go_quiet (fail)
            go_wp2_with fail
            go_roundw
            case rel => exact ⟨1, by omega, rfl, HI.out.drewN hR _⟩
            case measure => simp [intOf]; omega
          · obtain ⟨q, hiq⟩ : ∃ j, i = j + 1 := ⟨i - 1, by omega⟩
            have hqk : q < k := by omega
            obtain ⟨ga, rfl, hga, hca⟩ := row_addr HI.out.row (by omega)
            obtain ⟨_, _, xa, he1, _, hxa, q0, q1, q2, q3, q4, q5, q6⟩ := (EvsAt.of_row HI.out.row R3.out).at_ hqk
            simp only [Option.some.injEq, Addr.mk.injEq, and_true] at he1
            obtain ⟨rfl, rfl⟩ := he1
            obtain ⟨_, _, xb, he1, _, hxb, s0, s1, s2, s3, s4, s5, s6⟩ := (EvsAt.of_row HI.out.row R3.out).at_ hlt
            simp only [Option.some.injEq, Addr.mk.injEq, and_true] at he1
            obtain ⟨rfl, rfl⟩ := he1
            simp only [Nat.zero_add] at q0 q1 q2 q3 s0 s1 s2 s3
            have hcm := asc_cmp R1.out (show q < i by omega) hxa hxb
            have gd : decide (xa.k.cmp xb.k > 0) = false := by rw [decide_eq_false_iff_not]; omega
            have gd' : decide (0 < xa.k.cmp xb.k) = false := by rw [decide_eq_false_iff_not]; omega
            have gz : decide ((i : Int) > 0) = true := by rw [decide_eq_true_eq]; omega
            have gz' : decide (0 < i) = true := by rw [decide_eq_true_eq]; omega
            have gs : (i : Int) - 1 = (q : Int) := by omega
            have gw : IntKind.i64.wrap (q : Int) = (q : Int) := IntWalk.i64_in _ (by omega)
            have gb : (0 : Int) ≤ (q : Int) := by omega
            have gb2 : (q : Int) < (k : Int) := by omega
            have gb3 : (0 : Int) ≤ (i : Int) := by omega
            have gb4 : (i : Int) < (k : Int) := by omega
            have hc := compare_any xa.k xb.k
            have Hc := Lib.hid hc
            have Hiq := Lib.hid hiq
            clear hxa hxb hcm hc hiq hi0 q4 q5 q6 s4 s5 s6
            go_wp2_with fail
            go_region_held3 (fun w' => w'.cell? ⟨ga, q * 7, none⟩ = some (.int .i64 xa.k.at_) ∧ w'.cell? ⟨ga, q * 7 + 1, none⟩ = some (.int .i64 xa.k.src) ∧ w'.cell? ⟨ga, q * 7 + 2, none⟩ = some (.int .i64 xa.k.sent) ∧ w'.cell? ⟨ga, q * 7 + 3, none⟩ = some (.int .i64 xa.k.no) ∧
                w'.cell? ⟨ga, i * 7, none⟩ = some (.int .i64 xb.k.at_) ∧ w'.cell? ⟨ga, i * 7 + 1, none⟩ = some (.int .i64 xb.k.src) ∧ w'.cell? ⟨ga, i * 7 + 2, none⟩ = some (.int .i64 xb.k.sent) ∧ w'.cell? ⟨ga, i * 7 + 3, none⟩ = some (.int .i64 xb.k.no))
              (first | go_keep | exact ⟨hf.cell q0 (by simp), hf.cell q1 (by simp), hf.cell q2 (by simp), hf.cell q3 (by simp), hf.cell s0 (by simp), hf.cell s1 (by simp), hf.cell s2 (by simp), hf.cell s3 (by simp)⟩)
              ((go_at_call 15; refine (Hc.out _).mono ?_; rintro e w6 ⟨rfl, hf⟩))
            have h4 := (show Holds w.heap.size w _ w6 _ from by first | exact (HI.out.drewN hR _).made hR hf | exact ((HI.out.drewN hR _).drew hR).made hR hf | exact (HI.out.drew hR).made hR hf)
            have H4 := Lib.hid h4
            clear h4 hf
            go_wp2_with fail
            go_roundw
            case rel => exact ⟨i + 1, by omega, by go_num, H4.out⟩
            case measure => simp [intOf]; omega
    · obtain rfl : i = n1 := by omega
      go_wp2_with fail
      refine (awake_any _).mono ?_
      rintro e w9 ⟨rfl, hf⟩
      go_wp2_with fail
      go_ret
      exact ⟨rfl, (HO.out.made hR hf).below⟩
end Go.Proofs.Ytgokppifnjeedaa
