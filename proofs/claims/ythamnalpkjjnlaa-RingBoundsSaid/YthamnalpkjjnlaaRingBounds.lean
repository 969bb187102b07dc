/- RingBounds, walked. -/
import Derived.Test.YthamnalpkjjnlaaRingPlay
namespace Go.Proofs.Ythamnalpkjjnlaa
open Go.RowKit Go.Maps Go.ChangeShapes Go.WideShapes Go.ChangeAt

theorem tellI_get {S : List It} {n : Nat} (h0 : 0 < n) (hn : n ≤ S.length) : S[n - 1]? = some (tellI S n) := by
  cases n with
  | zero => omega
  | succ n =>
    simp only [tellI, Nat.add_sub_cancel]
    rw [List.getElem?_eq_getElem (by omega)]
    rfl
theorem tellE_zero : tellE 0 = 14 := rfl
theorem tellE_pos {n : Nat} (h : 0 < n) : tellE n = 0 := if_neg (by omega)
structure BoundsFacts (S : List It) (e l : Int) : Prop where
  ab : (tellI S 1).at_ ≤ (tellI S S.length).at_
  k1 : 0 < cnt (fun x => decide (x > e)) S ↔ (tellI S 1).at_ ≤ e
  k2 : 0 < cnt (fun x => decide (x > l)) S ↔ (tellI S 1).at_ ≤ l
  s : 0 < cnt (fun x => decide (x > e)) S → (tellI S 1).at_ ≤ (tellI S (cnt (fun x => decide (x > e)) S)).at_ ∧ (tellI S (cnt (fun x => decide (x > e)) S)).at_ ≤ e ∧ (tellI S (cnt (fun x => decide (x > e)) S)).at_ ≤ (tellI S (cnt (fun x => decide (x > l)) S)).at_
  t : 0 < cnt (fun x => decide (x > l)) S → (tellI S (cnt (fun x => decide (x > l)) S)).at_ ≤ (tellI S S.length).at_ ∧ (tellI S (cnt (fun x => decide (x > l)) S)).at_ ≤ l
  last : (tellI S S.length).at_ ≤ l → cnt (fun x => decide (x > l)) S = S.length
theorem cnt_pos {S : List It} (_hS : Rise S) (h0 : 0 < S.length) (e : Int) : 0 < cnt (fun x => decide (x > e)) S ↔ (tellI S 1).at_ ≤ e := by
  have h1 := tellI_get (S := S) (n := 1) (by omega) (by omega)
  constructor
  · intro h
    have := cnt_before h1 h
    simpa using this
  · intro h
    rcases Nat.eq_zero_or_pos (cnt (fun x => decide (x > e)) S) with h2 | h2
    · have h3 := cnt_at (p := fun x => decide (x > e)) (S := S) (x := tellI S 1) (by rw [h2]; exact h1)
      simp at h3; omega
    · exact h2
theorem cnt_val {S : List It} {e : Int} (h : 0 < cnt (fun x => decide (x > e)) S) : (tellI S (cnt (fun x => decide (x > e)) S)).at_ ≤ e := by
  have h1 := cnt_before (tellI_get h (cnt_le _ S)) (p := fun x => decide (x > e)) (by omega)
  simpa using h1
theorem bounds_facts {S : List It} (hS : Rise S) (h0 : 0 < S.length) {e l : Int} (hel : e ≤ l) : BoundsFacts S e l := by
  have g1 := tellI_get (S := S) (n := 1) (by omega) (by omega)
  have gn := tellI_get (S := S) (n := S.length) (by omega) (by omega)
  have hk1 := cnt_pos hS h0 e
  have hk2 := cnt_pos hS h0 l
  have v1 := cnt_val (S := S) (e := e)
  have v2 := cnt_val (S := S) (e := l)
  have l1 := cnt_le (fun x => decide (x > e)) S
  have l2 := cnt_le (fun x => decide (x > l)) S
  have hmon : cnt (fun x => decide (x > e)) S ≤ cnt (fun x => decide (x > l)) S := by
    rcases Nat.lt_or_ge (cnt (fun x => decide (x > l)) S) (cnt (fun x => decide (x > e)) S) with h | h
    · obtain ⟨y, hy⟩ : ∃ y, S[cnt (fun x => decide (x > l)) S]? = some y := ⟨_, List.getElem?_eq_getElem (by omega)⟩
      have q1 := cnt_at hy
      have q2 := cnt_before hy h
      simp at q1 q2; omega
    · exact h
  have hlast : (tellI S S.length).at_ ≤ l → cnt (fun x => decide (x > l)) S = S.length := fun h => by
    rcases Nat.lt_or_ge (cnt (fun x => decide (x > l)) S) S.length with h2 | h2
    · obtain ⟨y, hy⟩ : ∃ y, S[cnt (fun x => decide (x > l)) S]? = some y := ⟨_, List.getElem?_eq_getElem h2⟩
      have q1 := cnt_at hy
      have q2 := hS.get hy gn (by omega)
      simp at q1; omega
    · omega
  refine ⟨hS.get g1 gn (by omega), hk1, hk2, fun h => ?_, fun h => ?_, hlast⟩
  · have gk := tellI_get h l1
    have gk2 := tellI_get (S := S) (n := cnt (fun x => decide (x > l)) S) (by omega) l2
    exact ⟨hS.get g1 gk (by omega), v1 h, hS.get gk gk2 (by omega)⟩
  · have gk2 := tellI_get h l2
    exact ⟨hS.get gk2 gn (by omega), v2 h⟩

set_option maxHeartbeats 1000000 in
set_option maxRecDepth 100000 in
theorem bounds_out (w : World) (room x y : Int) (a1 : Option Addr) (n1 c1 : Nat) (h : room < 1 ∨ room > 40 ∨ 60 < n1) : Calls Try.prog 8 #[.int .i64 room, .slice a1 n1 c1, .agg #[.int .i64 x, .int .i64 y]] w (LawTrue w) := by
  have hg : room < 1 ∨ (¬ room < 1 ∧ 40 < room) ∨ (¬ room < 1 ∧ ¬ 40 < room ∧ 60 < n1) := by omega
  have HF := Lib.hid ((Below.refl w.heap.size w).alloc (Nat.le_refl _) (.cells #[.int .i64 x, .int .i64 y] 55))
  clear h
  rcases hg with g1 | ⟨g1, g2⟩ | ⟨g1, g2, g3⟩
  · go_enter Try.func8, Try.ntmps8
    go_wp2_with fail
    refine (awake_any _).mono ?_
    rintro e w3 ⟨rfl, hf⟩
    have H3 := Lib.hid (HF.out.trans (hf.mono (by simp)))
    clear hf HF
    go_wp2_with fail
    go_ret
    exact ⟨rfl, H3.out⟩
  · go_enter Try.func8, Try.ntmps8
    go_wp2_with fail
    refine (awake_any _).mono ?_
    rintro e w3 ⟨rfl, hf⟩
    have H3 := Lib.hid (HF.out.trans (hf.mono (by simp)))
    clear hf HF
    go_wp2_with fail
    go_ret
    exact ⟨rfl, H3.out⟩
  · go_enter Try.func8, Try.ntmps8
    go_wp2_with fail
    refine (few_gt _ a1 n1 c1 g3).mono ?_
    rintro e w2 ⟨rfl, rfl⟩
    go_wp2_with fail
    refine (awake_any _).mono ?_
    rintro e w3 ⟨rfl, hf⟩
    have H3 := Lib.hid (HF.out.trans (hf.mono (by simp)))
    clear hf HF
    go_wp2_with fail
    go_ret
    exact ⟨rfl, H3.out⟩

def BoundsRel (w : World) (A C room n : Nat) (x y : Int) (iv : Value) (wr : World) : Prop :=
  ∃ (i : Nat) (S : List It), i ≤ n ∧ iv = .int .i64 (i : Int) ∧ S.length ≤ i ∧ Holds w.heap.size w (bothR A C room S noneR) wr [(w.heap.size, .cells #[.int .i64 x, .int .i64 y] 55)]

theorem tell_facts {S : List It} (hS : Rise S) (h0 : 0 < S.length) {e l : Int} (hel : e ≤ l) : ∃ (a av b bv s sv t tv h i : Int),
    tellT S (min 1 S.length) = .tuple #[.int .i64 a, .int .i64 av, .int .i64 0] ∧ tellT S S.length = .tuple #[.int .i64 b, .int .i64 bv, .int .i64 0] ∧
    tellT S (cnt (fun x => decide (x > e)) S) = .tuple #[.int .i64 s, .int .i64 sv, .int .i64 h] ∧ tellT S (cnt (fun x => decide (x > l)) S) = .tuple #[.int .i64 t, .int .i64 tv, .int .i64 i] ∧
    a ≤ b ∧ (h = 0 ∧ a ≤ e ∧ a ≤ s ∧ s ≤ e ∧ s ≤ t ∨ h = 14 ∧ e < a) ∧ (i = 0 ∧ a ≤ l ∧ t ≤ b ∧ t ≤ l ∨ i = 14 ∧ l < a) ∧ (l < b ∨ b ≤ l ∧ t = b ∧ tv = bv) := by
  obtain ⟨fab, fk1, fk2, fs, ft, flast⟩ := bounds_facts hS h0 hel
  rw [show min 1 S.length = 1 by omega]
  refine ⟨_, _, _, _, _, _, _, _, tellE (cnt (fun x => decide (x > e)) S), tellE (cnt (fun x => decide (x > l)) S), rfl, by rw [show tellT S S.length = .tuple #[.int .i64 (tellI S S.length).at_, .int .i64 (tellI S S.length).v, .int .i64 (tellE S.length)] from rfl, tellE_pos h0], rfl, rfl, fab, ?_, ?_, ?_⟩
  · rcases Nat.eq_zero_or_pos (cnt (fun x => decide (x > e)) S) with h | h
    · exact .inr ⟨by rw [h]; rfl, by have := mt fk1.2; omega⟩
    · obtain ⟨q1, q2, q3⟩ := fs h
      exact .inl ⟨tellE_pos h, fk1.1 h, q1, q2, q3⟩
  · rcases Nat.eq_zero_or_pos (cnt (fun x => decide (x > l)) S) with h | h
    · exact .inr ⟨by rw [h]; rfl, by have := mt fk2.2; omega⟩
    · obtain ⟨q1, q2⟩ := ft h
      exact .inl ⟨tellE_pos h, fk2.1 h, q1, q2⟩
  · rcases Int.lt_or_le l (tellI S S.length).at_ with h | h
    · exact .inl h
    · have h2 := flast h
      exact .inr ⟨h, by rw [h2], by rw [h2]⟩

set_option maxHeartbeats 8000000 in
set_option maxRecDepth 100000 in
theorem bounds_in (w : World) (room : Nat) (h1 : 1 ≤ room) (h2 : room ≤ 40) (x y : Int) (a1 : Option Addr) (n1 c1 : Nat) (l : List OpV) (hl : SlAt opEnc 3 w a1 n1 c1 l) (h3 : n1 ≤ 60) :
    Calls Try.prog 8 #[.int .i64 (room : Int), .slice a1 n1 c1, .agg #[.int .i64 x, .int .i64 y]] w (LawTrue w) := by
  have gc1 := hl.2.1
  have Hl := Lib.hid hl
  have g1 : decide ((room : Int) < 1) = false := by rw [decide_eq_false_iff_not]; omega
  have g2 : decide ((room : Int) > 40) = false := by rw [decide_eq_false_iff_not]; omega
  obtain ⟨E, hE⟩ : ∃ E, (if y < x then y else x) = E := ⟨_, rfl⟩
  obtain ⟨M, hM⟩ : ∃ M, (if x < y then y else x) = M := ⟨_, rfl⟩
  have hEM : E ≤ M := by
    rw [← hE, ← hM]
    split <;> split <;> omega
  have h0 := (Holds.start w).alloc noneR_stable (.cells #[.int .i64 x, .int .i64 y] 55)
  have H0 := Lib.hid h0
  clear hl h0
  go_enter Try.func8, Try.ntmps8
  go_wp2_with fail
  refine (few_le _ a1 n1 c1 h3).mono ?_
  rintro e w2 ⟨rfl, rfl⟩
  go_wp2_with fail
  refine (new_goes noneR_stable H0.out room h1 (by omega)).mono ?_
  rintro e w1 ⟨rfl, h4⟩
  obtain ⟨A, hA⟩ : ∃ A, (w.alloc (.cells #[.int .i64 x, .int .i64 y] 55)).heap.size = A := ⟨_, rfl⟩
  obtain ⟨C, hC⟩ : ∃ C, w1.heap.size = C := ⟨_, rfl⟩
  rw [hA] at h4 ⊢
  have h5 := (h4.newRef (sepR_stable (ringR_stable _ _ _) noneR_stable) room).conv Conv.exch
  rw [hC] at h5
  have hloop : BoundsRel w A C room n1 x y (.int .i64 0) (w1.alloc (.cells #[.int .i64 (room : Int), .slice none 0 0] 32)) := ⟨0, [], Nat.zero_le _, rfl, Nat.le_refl _, h5⟩
  have Hloop := Lib.hid hloop
  have HC := Lib.hid hC
  clear hloop h4 h5 hA hC H0
  go_wp2_with fail
  rw [HC.out]
  go_loopw [10] (fun iv wr => BoundsRel w A C room n1 x y iv wr) (fun iv _ => n1 - (intOf iv).toNat)
  case atStart => exact Hloop.out
  case round =>
    obtain ⟨i, S, hi, rfl, hSl, hH⟩ := hrel
    have HH := Lib.hid hH
    clear hH Hloop
    by_cases hlt : i < n1
    · have hm := Hl.out.frm (Frm.of_below HH.out.below (Nat.le_refl _))
      obtain ⟨b1, o1, o, rfl, hb1, ho, hcell⟩ := hm.at_ hlt
      have p0 := hcell 0 _ rfl
      have p1 := hcell 1 _ rfl
      have p2 := hcell 2 _ rfl
      simp only [Nat.add_zero] at p0
      have hwf : IntKind.i64.wrap ((i : Int) + 1) = (i : Int) + 1 := IntWalk.i64_in _ (by omega)
      have i0 : (0 : Int) ≤ (i : Int) := by omega
      have i1 : (i : Int) < (n1 : Int) := by omega
      clear hm hcell ho
      go_wp2_with fail
      refine (does_goes noneR_stable HH.out h1 (by omega) o).mono ?_
      rintro e w3 ⟨rfl, h5⟩
      have hdl := doS_len room o S
      have H3 := Lib.hid h5
      clear h5 HH p0 p1 p2
      go_wp2_with fail
      go_roundw
      case rel => exact ⟨i + 1, doS room o S, by omega, by go_num, by omega, H3.out⟩
      case measure => simp [intOf]; omega
    · obtain rfl : i = n1 := by omega
      have hsB := bothR_stable noneR_stable A C room S
      have hAt := HH.out.ringAt
      have hRise := HH.out.bothFits.1
      have hbx := HH.out.box (k := w.heap.size) (o := .cells #[.int .i64 x, .int .i64 y] 55) (by simp)
      have hu1 := fun w' (hf : Frm [] wr w') => upto_says (hAt.frm hf) hRise E
      have hu2 := fun w' (hf : Frm [] wr w') => upto_says (hAt.frm hf) hRise M
      have hln := fun w' (hf : Frm [] wr w') => len_says (hAt.frm hf)
      have hft := first_says hAt
      have hla := fun w' (hf : Frm [] wr w') => last_says (hAt.frm hf)
      have HBx := Lib.hid hbx
      rcases Nat.eq_zero_or_pos S.length with hS0 | hp
      · have hSe : S = [] := List.eq_nil_of_length_eq_zero hS0
        subst hSe
        have hln' : ∀ w', Frm [] wr w' → Calls Try.prog 19 #[.pointer (some ⟨A, 0, none⟩)] w' fun e w'' => e = .returned (.int .i64 0) ∧ w'' = w' := hln
        have hu1' : ∀ w', Frm [] wr w' → Calls Try.prog 21 #[.pointer (some ⟨A, 0, none⟩), .int .i64 E] w' (Says (.tuple #[.int .i64 0, .int .i64 0, .int .i64 14]) w') := hu1
        have hu2' : ∀ w', Frm [] wr w' → Calls Try.prog 21 #[.pointer (some ⟨A, 0, none⟩), .int .i64 M] w' (Says (.tuple #[.int .i64 0, .int .i64 0, .int .i64 14]) w') := hu2
        have hft' : Calls Try.prog 23 #[.pointer (some ⟨A, 0, none⟩)] wr (Says (.tuple #[.int .i64 0, .int .i64 0, .int .i64 14]) wr) := hft
        have hla' : ∀ w', Frm [] wr w' → Calls Try.prog 24 #[.pointer (some ⟨A, 0, none⟩)] w' (Says (.tuple #[.int .i64 0, .int .i64 0, .int .i64 14]) w') := hla
        have Hu1 := Lib.hid hu1'
        have Hu2 := Lib.hid hu2'
        have Hln := Lib.hid hln'
        have Hft := Lib.hid hft'
        have Hla := Lib.hid hla'
        clear hu1 hu2 hln hft hla hu1' hu2' hln' hft' hla' hbx hAt hRise hS0
        go_wp2_with fail
        refine Hft.out.mono ?_
        rintro e w1 ⟨rfl, hf1⟩
        have HF1 := Lib.hid hf1
        clear hf1
        go_wp2_with fail
        refine (Hla.out _ HF1.out).mono ?_
        rintro e w2 ⟨rfl, hf2⟩
        have HF2 := Lib.hid (HF1.out.trans hf2 (by simp))
        clear hf2
        go_wp2_with fail
        refine (Hln.out _ HF2.out).mono ?_
        rintro e w3 ⟨rfl, rfl⟩
        obtain ⟨q0, q1⟩ := cells2 (HF2.out.obj HBx.out (by simp))
        have qz := lt_of_obj (HF2.out.obj HBx.out (by simp))
        go_wp2_with fail
        refine (Hu1.out _ HF2.out).mono ?_
        rintro e w4 ⟨rfl, hf4⟩
        have HF4 := Lib.hid (HF2.out.trans hf4 (by simp))
        clear hf4 q0 q1 qz
        go_wp2_with fail
        refine (Hu2.out _ HF4.out).mono ?_
        rintro e w5 ⟨rfl, hf5⟩
        have HF5 := Lib.hid (HF4.out.trans hf5 (by simp))
        clear hf5
        go_wp2_with fail
        refine (awake_any _).mono ?_
        rintro e v9 ⟨rfl, hf⟩
        have H9 := Lib.hid (HH.out.made hsB (HF5.out.trans (Frm.of_below (S := []) hf (Nat.le_refl _)) (by simp)))
        clear hf
        go_wp2_with fail
        go_ret
        exact ⟨rfl, H9.out.below⟩
      · obtain ⟨a, av, b, bv, s, sv, t, tv, h, j, e1, e2, e3, e4, f1, f2, f3, f4⟩ := tell_facts hRise hp hEM
        rw [e1] at hft
        rw [e2] at hla
        rw [e3] at hu1
        rw [e4] at hu2
        have Hu1 := Lib.hid hu1
        have Hu2 := Lib.hid hu2
        have Hln := Lib.hid hln
        have Hft := Lib.hid hft
        have Hla := Lib.hid hla
        have hgl : decide ((S.length : Int) > 0) = true := by rw [decide_eq_true_eq]; omega
        have hgn : decide (0 < S.length) = true := by rw [decide_eq_true_eq]; omega
        have hgn' : 0 < S.length := hp
        have hgl' : (0 : Int) < (S.length : Int) := by omega
        clear hu1 hu2 hln hft hla hbx hAt e1 e2 e3 e4 hRise hp
        go_wp2_with fail
        refine Hft.out.mono ?_
        rintro e w1 ⟨rfl, hf1⟩
        have HF1 := Lib.hid hf1
        clear hf1
        go_wp2_with fail
        refine (Hla.out _ HF1.out).mono ?_
        rintro e w2 ⟨rfl, hf2⟩
        have HF2 := Lib.hid (HF1.out.trans hf2 (by simp))
        clear hf2
        go_wp2_with fail
        refine (Hln.out _ HF2.out).mono ?_
        rintro e w3 ⟨rfl, rfl⟩
        obtain ⟨q0, q1⟩ := cells2 (HF2.out.obj HBx.out (by simp))
        have qz := lt_of_obj (HF2.out.obj HBx.out (by simp))
        go_wp2_with fail
        refine (Hu1.out _ HF2.out).mono ?_
        rintro e w4 ⟨rfl, hf4⟩
        have HF4 := Lib.hid (HF2.out.trans hf4 (by simp))
        clear hf4 q0 q1 qz
        go_wp2_with fail
        refine (Hu2.out _ HF4.out).mono ?_
        rintro e w5 ⟨rfl, hf5⟩
        have HF5 := Lib.hid (HF4.out.trans hf5 (by simp))
        clear hf5 hE hM Hu1 Hu2 Hln Hft Hla HF1 HF2 HF4
        have fA : ¬ b < a := by omega
        rcases f2 with ⟨rfl, u1, u2, u3, u4⟩ | ⟨rfl, u1⟩
        · have v1 : ¬ s < a := by omega
          have v2 : ¬ E < s := by omega
          have v3 : ¬ t < s := by omega
          rcases f3 with ⟨rfl, u5, u6, u7⟩ | ⟨rfl, u5⟩
          · have v4 : ¬ M < t := by omega
            have v5 : ¬ b < t := by omega
            rcases f4 with f4 | ⟨f4, rfl, rfl⟩
            · go_wp2_with fail
              refine (awake_any _).mono ?_
              rintro e v9 ⟨rfl, hf⟩
              have H9 := Lib.hid (HH.out.made hsB (HF5.out.trans (Frm.of_below (S := []) hf (Nat.le_refl _)) (by simp)))
              clear hf
              go_wp2_with fail
              go_ret
              exact ⟨rfl, H9.out.below⟩
            · have v6 : ¬ M < t := by omega
              go_wp2_with fail
              refine (awake_any _).mono ?_
              rintro e v9 ⟨rfl, hf⟩
              have H9 := Lib.hid (HH.out.made hsB (HF5.out.trans (Frm.of_below (S := []) hf (Nat.le_refl _)) (by simp)))
              clear hf
              go_wp2_with fail
              go_ret
              exact ⟨rfl, H9.out.below⟩
          · omega
        · have v1 : ¬ a ≤ E := by omega
          rcases f3 with ⟨rfl, u5, u6, u7⟩ | ⟨rfl, u5⟩
          · have v4 : ¬ M < t := by omega
            have v5 : ¬ b < t := by omega
            rcases f4 with f4 | ⟨f4, rfl, rfl⟩
            · go_wp2_with fail
              refine (awake_any _).mono ?_
              rintro e v9 ⟨rfl, hf⟩
              have H9 := Lib.hid (HH.out.made hsB (HF5.out.trans (Frm.of_below (S := []) hf (Nat.le_refl _)) (by simp)))
              clear hf
              go_wp2_with fail
              go_ret
              exact ⟨rfl, H9.out.below⟩
            · have v6 : ¬ M < t := by omega
              go_wp2_with fail
              refine (awake_any _).mono ?_
              rintro e v9 ⟨rfl, hf⟩
              have H9 := Lib.hid (HH.out.made hsB (HF5.out.trans (Frm.of_below (S := []) hf (Nat.le_refl _)) (by simp)))
              clear hf
              go_wp2_with fail
              go_ret
              exact ⟨rfl, H9.out.below⟩
          · have v4 : ¬ a ≤ M := by omega
            have f5 : M < b := by omega
            clear f4
            go_wp2_with fail
            refine (awake_any _).mono ?_
            rintro e v9 ⟨rfl, hf⟩
            have H9 := Lib.hid (HH.out.made hsB (HF5.out.trans (Frm.of_below (S := []) hf (Nat.le_refl _)) (by simp)))
            clear hf
            go_wp2_with fail
            go_ret
            exact ⟨rfl, H9.out.below⟩
theorem plain_two : Plain Try.prog 55 [.int .i64, .int .i64] := plain_array (n := 2) (ks := [.int .i64]) Try.underlying55 (by kernel_rfl) (by kernel_rfl) plain_Int
theorem open_two {H : Type} {enc : TypeId × Value → H} {w : World} {d : DataW H} {ps : List MemPlace} {base : Nat} {spare : Nat → Bool} {held : Bool} {r : Reach} {b0 : Nat} {v : Value} (hv : Value.okWide Try.prog w r b0 55 v) (h : DataW.Trod enc Try.prog w base spare held 55 v d ps) : ∃ x y : Int, v = .agg #[.int .i64 x, .int .i64 y] := by
  obtain ⟨cs, rfl, hc⟩ := okWide_array Try.underlying55 hv
  obtain ⟨fuel, hf⟩ := h
  obtain ⟨hl, hk⟩ := plain_two H enc w base spare held fuel _ _ hf
  simp only [Value.cells] at hl hk
  obtain ⟨ns, hx, hn, _⟩ := fits_ints (n := 2) ⟨hl, hk⟩
  match ns, hn with
  | [x, y], _ =>
    refine ⟨x, y, ?_⟩
    have : cs = (cs.toList).toArray := by simp
    rw [this, hx]
    rfl
theorem bounds_any (w : World) (room : Int) (a1 : Option Addr) (n1 c1 : Nat) (l : List OpV) (hl : SlAt opEnc 3 w a1 n1 c1 l) (x y : Int) : Calls Try.prog 8 #[.int .i64 room, .slice a1 n1 c1, .agg #[.int .i64 x, .int .i64 y]] w (LawTrue w) := by
  by_cases h : room < 1 ∨ room > 40 ∨ 60 < n1
  · exact bounds_out w room x y a1 n1 c1 h
  · obtain ⟨r, hr⟩ : ∃ r : Nat, room = (r : Int) := ⟨room.toNat, by omega⟩
    subst hr
    exact bounds_in w r (by omega) (by omega) x y a1 n1 c1 l hl (by omega)
end Go.Proofs.Ythamnalpkjjnlaa
