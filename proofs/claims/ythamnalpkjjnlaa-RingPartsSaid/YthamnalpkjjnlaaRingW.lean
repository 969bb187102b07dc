/- A ring's calls: Push, Copy, All. -/
import Derived.Test.YthamnalpkjjnlaaRingV
namespace Go.Proofs.Ythamnalpkjjnlaa
open Go.RowKit Go.Maps

section
variable {B : Nat} {w0 w : World} {Q : World → List Nat → Prop} {L : List (Nat × Obj)}

/-- Is a time too early? -/
def early (S : List It) (t : Int) : Prop := ∃ x, S[S.length - 1]? = some x ∧ t < x.at_
instance (S : List It) (t : Int) : Decidable (early S t) := by
  unfold early
  cases h : S[S.length - 1]? with
  | none => exact .isFalse (by rintro ⟨x, h1, _⟩; cases h1)
  | some y => exact if h2 : t < y.at_ then .isTrue ⟨y, rfl, h2⟩ else .isFalse (by rintro ⟨x, h1, h3⟩; cases h1; exact h2 h3)
def pushE (room : Nat) (S : List It) (t : Int) : Int := if early S t then 18 else if S.length = room then 11 else 0
def pushS (room : Nat) (S : List It) (x : It) : List It := if early S x.at_ then S else if S.length = room then S else S ++ [x]

set_option maxHeartbeats 1000000 in
theorem push_early (hQ : Stable Q) {b room : Nat} {S : List It} (h : Holds B w0 (sepR (ringR b room S) Q) w L) {t v : Int} (he : early S t) :
    Calls Try.prog 22 #[.pointer (some ⟨b, 0, none⟩), .int .i64 t, .int .i64 v] w (Goes (.int .i64 18) B w0 (sepR (ringR b room S) Q) L) := by
  have hs := sepR_stable (ringR_stable b room S) hQ
  obtain ⟨x, hx, hlt⟩ := he
  have hSl := (List.getElem?_eq_some_iff.1 hx).1
  have hm := h.ringAt.many
  have hg := get_says h.ringAt hx
  obtain ⟨a, c, f, P, hf, h1⟩ := h.ringOpen
  obtain ⟨c0, c1, c2, c3⟩ := cells4 h1.rBox.theBox
  have hbl := lt_of_obj h1.rBox.theBox
  have g1 : decide ((S.length : Int) > 0) = true := by rw [decide_eq_true_eq]; omega
  have g1' : (0 : Int) < (S.length : Int) := by omega
  have e1 : IntKind.i64.wrap ((S.length : Int) - 1) = ((S.length - 1 : Nat) : Int) := by rw [IntWalk.i64_in _ (by omega)]; omega
  have hfd := it_field x
  have g2 : decide (t < x.at_) = true := by rw [decide_eq_true_eq]; exact hlt
  have H0 := Lib.hid h
  have Hg := Lib.hid hg
  clear h h1 hf hg hx c0 c1 c2
  go_enter Try.func22, Try.ntmps22
  go_wp2_with fail
  refine Hg.out.mono ?_
  rintro e w1 ⟨rfl, hF⟩
  have h2 := H0.out.made hs hF
  have H2 := Lib.hid h2
  clear hF h2 H0 c3
  go_wp2_with fail
  go_ret
  exact ⟨rfl, H2.out⟩

/-- A push that is early enough, up to the question whether it is full: nothing has turned. -/
theorem notEarly {S : List It} {t : Int} (he : ¬ early S t) : S.length = 0 ∨ ∃ x, S[S.length - 1]? = some x ∧ ¬ t < x.at_ ∧ 0 < S.length := by
  rcases Nat.eq_zero_or_pos S.length with h | h
  · exact .inl h
  · refine .inr ⟨_, List.getElem?_eq_getElem (show S.length - 1 < S.length by omega), fun h2 => he ⟨_, List.getElem?_eq_getElem (show S.length - 1 < S.length by omega), h2⟩, h⟩

set_option maxHeartbeats 2000000 in
theorem push_full (hQ : Stable Q) {b room : Nat} {S : List It} (h : Holds B w0 (sepR (ringR b room S) Q) w L) {t v : Int} (he : ¬ early S t) (hr : S.length = room) (hr1 : 1 ≤ room) :
    Calls Try.prog 22 #[.pointer (some ⟨b, 0, none⟩), .int .i64 t, .int .i64 v] w (Goes (.int .i64 11) B w0 (sepR (ringR b room S) Q) L) := by
  have hs := sepR_stable (ringR_stable b room S) hQ
  rcases notEarly he with h0 | ⟨x, hx, hlt, hpos⟩
  · omega
  have hm := h.ringAt.many
  have hg := get_says h.ringAt hx
  obtain ⟨a, c, f, P, hf, h1⟩ := h.ringOpen
  have hb := h1.rBox.theBox
  obtain ⟨c0, c1, c2, c3⟩ := cells4 hb
  have hbl := lt_of_obj hb
  have g1 : decide ((S.length : Int) > 0) = true := by rw [decide_eq_true_eq]; omega
  have g1' : (0 : Int) < (S.length : Int) := by omega
  have e1 : IntKind.i64.wrap ((S.length : Int) - 1) = ((S.length - 1 : Nat) : Int) := by rw [IntWalk.i64_in _ (by omega)]; omega
  have hfd := it_field x
  have g2 : decide (t < x.at_) = false := by rw [decide_eq_false_iff_not]; exact hlt
  have g3 : ((S.length : Int) == (room : Int)) = true := by rw [beq_iff_eq]; omega
  have H0 := Lib.hid h
  have Hg := Lib.hid hg
  have Hb := Lib.hid hb
  clear h h1 hf hg hx c0 c1 c2 hb he hr hlt hpos
  go_enter Try.func22, Try.ntmps22
  go_wp2_with fail
  refine Hg.out.mono ?_
  rintro e w1 ⟨rfl, hF⟩
  have h2 := H0.out.made hs hF
  have H2 := Lib.hid h2
  obtain ⟨c0, c1, c2, c3⟩ := cells4 (hF.obj Hb.out (by simp))
  have hbl1 := lt_of_obj (hF.obj Hb.out (by simp))
  clear hF h2 H0 c1 c2
  go_wp2_with fail
  go_quiet (fail)
  go_wp2_with fail
  go_ret
  exact ⟨rfl, H2.out.drewN hs _⟩

set_option maxHeartbeats 4000000 in
set_option maxRecDepth 100000 in
theorem push_ok (hQ : Stable Q) {b room : Nat} {S : List It} (h : Holds B w0 (sepR (ringR b room S) Q) w L) {t v : Int} (he : ¬ early S t) (hr : S.length < room) :
    Calls Try.prog 22 #[.pointer (some ⟨b, 0, none⟩), .int .i64 t, .int .i64 v] w (Goes (.int .i64 0) B w0 (sepR (ringR b room (S ++ [⟨t, v⟩])) Q) L) := by
  have hs := sepR_stable (ringR_stable b room S) hQ
  have hm := h.ringAt.many
  have hrise : Rise (S ++ [⟨t, v⟩]) := by
    refine List.pairwise_append.2 ⟨?_, List.pairwise_singleton _ _, fun x hx y hy => ?_⟩
    · obtain ⟨a, c, f, P, hf, h1⟩ := h.ringOpen
      exact hf.rise
    · simp only [List.mem_singleton] at hy
      subst hy
      obtain ⟨a, c, f, P, hf, h1⟩ := h.ringOpen
      obtain ⟨i, hi⟩ := List.mem_iff_getElem?.1 hx
      have hil := (List.getElem?_eq_some_iff.1 hi).1
      rcases notEarly he with h0 | ⟨z, hz, hlt, hpos⟩
      · omega
      · have := hf.rise.get hi hz (by omega)
        show x.at_ ≤ t
        omega
  have hgs := fun x (hx : S[S.length - 1]? = some x) => get_says h.ringAt hx
  obtain ⟨a, c, f, P, hf, h1⟩ := h.ringOpen
  have hs1 : Stable (sepR (ring0 b room a c f S.length P) Q) := sepR_stable (ring0_stable _ _ _ _ _ _ _) hQ
  have hb := h1.rBox.theBox
  have hbl := lt_of_obj hb
  have hfr := hf.room
  have hfl := hf.list
  have e1 : 0 < S.length → IntKind.i64.wrap ((S.length : Int) - 1) = ((S.length - 1 : Nat) : Int) := fun h0 => by rw [IntWalk.i64_in _ (by omega)]; omega
  have g3 : ((S.length : Int) == (room : Int)) = false := by rw [beq_eq_false_iff_ne]; omega
  have Hf := Lib.hid hf
  have Hrise := Lib.hid hrise
  have Hr := Lib.hid hr
  have Hb := Lib.hid hb
  have H1 := Lib.hid h1
  clear h hf hrise hb h1 hr
  by_cases hgr : S.length = P.length
  · have g4 : ((S.length : Int) == (P.length : Int)) = true := by rw [beq_iff_eq]; omega
    have Hgr := Lib.hid hgr
    clear hgr
    rcases notEarly he with h0 | ⟨x, hx, hlt, hpos⟩
    · have g1 : decide ((S.length : Int) > 0) = false := by rw [decide_eq_false_iff_not]; omega
      have g1' : ¬ (0 : Int) < (S.length : Int) := by omega
      have g2 : True := trivial
      have e2 : True := trivial
      have h2 := H1.out
      obtain ⟨c0, c1, c2, c3⟩ := cells4 Hb.out
      have hbl1 := hbl
      have hX := fun n => grow_goes hQ ((h2.drewN hs1 n)) Hf.out.win Hr.out hfr
      have HX := Lib.hid hX
      clear h2 H1 c2 hX he e1 hgs h0
      go_enter Try.func22, Try.ntmps22
      go_wp2_with fail
      go_quiet (fail)
      go_wp2_with fail
      go_quiet (fail)
      go_wp2_with fail
      refine (HX.out _).mono ?_
      rintro e wx ⟨a5, c5, P5, rfl, hw5, hlt5, hPr, h5⟩
      obtain ⟨f5, hf5⟩ : ∃ f5 : Nat, f5 = 0 := ⟨_, rfl⟩
      rw [← hf5] at hw5 h5
      clear c0 c1 c3 hbl1 g1 g1' g2 g4 e2 HX
      go_wp2_with fail
      have hs5 : Stable (sepR (ring0 b room a5 c5 f5 S.length P5) Q) := sepR_stable (ring0_stable _ _ _ _ _ _ _) hQ
      obtain ⟨g, cap, hv, hg, hcap, _⟩ := row_some h5.rRow.row (by omega)
      simp only [Value.slice.injEq] at hv
      obtain ⟨rfl, _, rfl⟩ := hv
      have hb := h5.rBox.theBox
      have hw5f := hw5.first
      have hw5r := hw5.room
      have hw5l := hw5.f_lt
      have hjl : pl f5 P5.length S.length < P5.length := pl_bound (by omega) hlt5
      have hpc := place_any (w := wx.drew) hb S.length (by omega) (by omega) (by omega)
      have hrr := h5.rRow
      have hput := hrr.putFlat it_len (sepR_stable (boxR_stable _ _ _) hQ) hjl ⟨t, v⟩
      obtain ⟨y, hy⟩ : ∃ y, P5[pl f5 P5.length S.length]? = some y := ⟨_, List.getElem?_eq_getElem hjl⟩
      have p0 := hrr.cellOf it_len hy (j := 0) rfl
      have p1 := hrr.cellOf it_len hy (j := 1) rfl
      rw [Nat.add_zero] at p0
      have fz : ∀ k, wx.frozen? ⟨g, k, none⟩ = false := fun k => hrr.row.frozenAt k
      have hwin : Win f5 (P5.set (pl f5 P5.length S.length) ⟨t, v⟩) (S ++ [⟨t, v⟩]) := by
        refine ⟨by rw [List.length_set]; exact hw5.first, by rw [List.length_set, List.length_append]; exact hlt5, by rw [List.length_set]; exact hw5.room, fun i x hx => ?_⟩
        rw [List.length_set]
        by_cases hi : i = S.length
        · subst hi
          rw [List.getElem?_append_right (Nat.le_refl _), Nat.sub_self] at hx
          rw [List.getElem?_set_self hjl]
          exact hx
        · have hil := (List.getElem?_eq_some_iff.1 hx).1
          rw [List.length_append] at hil
          have hil' : i < S.length := by simp at hil; omega
          rw [List.getElem?_append_left hil'] at hx
          rw [List.getElem?_set_ne (fun e => hi (pl_inj (by omega) (by omega) hlt5 e.symm))]
          exact hw5.at_ i x hx
      have hPl : (P5.set (pl f5 P5.length S.length) ⟨t, v⟩).length = P5.length := List.length_set
      generalize pl f5 P5.length S.length = j at hpc hput p0 p1 hjl hwin hPl
      generalize P5.set j ⟨t, v⟩ = P6 at hput hwin hPl
      have j0 : (0 : Int) ≤ (j : Int) := by omega
      have j1 : (j : Int) < (P5.length : Int) := by omega
      obtain ⟨c0, c1, c2, c3⟩ := cells4 hb
      have hbl := lt_of_obj hb
      have hbput := hput.conv Conv.exch
      have hb6 := hbput.theBox
      have z3 := (cells4 hb6).2.2.2
      have fz6 : ∀ k, (storeAll wx g (j * 2) (It.cells ⟨t, v⟩)).frozen? ⟨b, k, none⟩ = false := fun k => frozen_of_obj hb6 k
      have hbl6 := lt_of_obj hb6
      have h6 := hbput.boxPut (sepR_stable (rowR_stable _ _ _ _ _) hQ) 3 (.int .i64 ((S.length + 1 : Nat) : Int))
      have e6 : IntKind.i64.wrap ((S.length : Int) + 1) = ((S.length + 1 : Nat) : Int) := by rw [IntWalk.i64_in _ (by omega)]; omega
      dsimp only [storeAll, It.cells] at h6 z3 fz6 hbl6
      have H6 := Lib.hid h6
      have Hpc := Lib.hid hpc
      have Hwin := Lib.hid hwin
      have HPl := Lib.hid hPl
      clear h5 hb hpc hrr hput hy hwin hPl hbput hb6 h6 c0 c2 hw5 hw5f
      refine wp_region_still_tail 14 (by kernel_rfl) (by kernel_rfl) ?_
      simp only [List.take_succ_cons, List.take_zero, List.drop_succ_cons, List.drop_zero]
      repeat still_step
      still_call Hpc.out
      repeat still_step
      try refine wpStill_nil ?_
      go_wp2_with fail
      go_ret
      refine ⟨rfl, ?_⟩
      have hs6 : Stable (sepR (boxR b #[.int .i64 (room : Int), .slice (some ⟨g, 0, none⟩) P5.length c5, .int .i64 (f5 : Int), .int .i64 ((S.length + 1 : Nat) : Int)] 59) (sepR (rowR 66 2 (.slice (some ⟨g, 0, none⟩) P5.length c5) P5.length (flat It.cells P6)) Q)) := sepR_stable (boxR_stable _ _ _) (sepR_stable (rowR_stable _ _ _ _ _) hQ)
      have h7 := Holds.drew hs6 H6.out
      rw [← HPl.out] at h7
      refine Holds.ringShut (a := some ⟨g, 0, none⟩) (c := c5) (f := f5) ⟨Hwin.out, Hrise.out, by rw [List.length_append]; have := Hr.out; exact this, by rw [HPl.out]; exact hPr, hfr⟩ ?_
      rw [show (S ++ [(⟨t, v⟩ : It)]).length = S.length + 1 by simp]
      exact h7.rBox'
    · have hg := hgs x hx
      have e2 := e1 hpos
      have g1 : decide ((S.length : Int) > 0) = true := by rw [decide_eq_true_eq]; omega
      have g1' : (0 : Int) < (S.length : Int) := by omega
      have hfd := it_field x
      have g2 : decide (t < x.at_) = false := by rw [decide_eq_false_iff_not]; exact hlt
      have Hg := Lib.hid hg
      obtain ⟨c0, c1, c2, c3⟩ := cells4 Hb.out
      clear he e1 hg hgs hx hlt hpos c0 c1 c2
      go_enter Try.func22, Try.ntmps22
      go_wp2_with fail
      refine Hg.out.mono ?_
      rintro e w1 ⟨rfl, hF⟩
      have h2 := H1.out.made hs1 hF
      obtain ⟨c0, c1, c2, c3⟩ := cells4 (hF.obj Hb.out (by simp))
      have hbl1 := lt_of_obj (hF.obj Hb.out (by simp))
      have hX := fun n => grow_goes hQ ((h2.drewN hs1 n)) Hf.out.win Hr.out hfr
      have HX := Lib.hid hX
      clear hF h2 H1 c2 hX
      go_wp2_with fail
      go_quiet (fail)
      go_wp2_with fail
      go_quiet (fail)
      go_wp2_with fail
      refine (HX.out _).mono ?_
      rintro e wx ⟨a5, c5, P5, rfl, hw5, hlt5, hPr, h5⟩
      obtain ⟨f5, hf5⟩ : ∃ f5 : Nat, f5 = 0 := ⟨_, rfl⟩
      rw [← hf5] at hw5 h5
      clear c0 c1 c3 hbl1 g1 g1' g2 g4 e2 HX
      go_wp2_with fail
      have hs5 : Stable (sepR (ring0 b room a5 c5 f5 S.length P5) Q) := sepR_stable (ring0_stable _ _ _ _ _ _ _) hQ
      obtain ⟨g, cap, hv, hg, hcap, _⟩ := row_some h5.rRow.row (by omega)
      simp only [Value.slice.injEq] at hv
      obtain ⟨rfl, _, rfl⟩ := hv
      have hb := h5.rBox.theBox
      have hw5f := hw5.first
      have hw5r := hw5.room
      have hw5l := hw5.f_lt
      have hjl : pl f5 P5.length S.length < P5.length := pl_bound (by omega) hlt5
      have hpc := place_any (w := wx.drew) hb S.length (by omega) (by omega) (by omega)
      have hrr := h5.rRow
      have hput := hrr.putFlat it_len (sepR_stable (boxR_stable _ _ _) hQ) hjl ⟨t, v⟩
      obtain ⟨y, hy⟩ : ∃ y, P5[pl f5 P5.length S.length]? = some y := ⟨_, List.getElem?_eq_getElem hjl⟩
      have p0 := hrr.cellOf it_len hy (j := 0) rfl
      have p1 := hrr.cellOf it_len hy (j := 1) rfl
      rw [Nat.add_zero] at p0
      have fz : ∀ k, wx.frozen? ⟨g, k, none⟩ = false := fun k => hrr.row.frozenAt k
      have hwin : Win f5 (P5.set (pl f5 P5.length S.length) ⟨t, v⟩) (S ++ [⟨t, v⟩]) := by
        refine ⟨by rw [List.length_set]; exact hw5.first, by rw [List.length_set, List.length_append]; exact hlt5, by rw [List.length_set]; exact hw5.room, fun i x hx => ?_⟩
        rw [List.length_set]
        by_cases hi : i = S.length
        · subst hi
          rw [List.getElem?_append_right (Nat.le_refl _), Nat.sub_self] at hx
          rw [List.getElem?_set_self hjl]
          exact hx
        · have hil := (List.getElem?_eq_some_iff.1 hx).1
          rw [List.length_append] at hil
          have hil' : i < S.length := by simp at hil; omega
          rw [List.getElem?_append_left hil'] at hx
          rw [List.getElem?_set_ne (fun e => hi (pl_inj (by omega) (by omega) hlt5 e.symm))]
          exact hw5.at_ i x hx
      have hPl : (P5.set (pl f5 P5.length S.length) ⟨t, v⟩).length = P5.length := List.length_set
      generalize pl f5 P5.length S.length = j at hpc hput p0 p1 hjl hwin hPl
      generalize P5.set j ⟨t, v⟩ = P6 at hput hwin hPl
      have j0 : (0 : Int) ≤ (j : Int) := by omega
      have j1 : (j : Int) < (P5.length : Int) := by omega
      obtain ⟨c0, c1, c2, c3⟩ := cells4 hb
      have hbl := lt_of_obj hb
      have hbput := hput.conv Conv.exch
      have hb6 := hbput.theBox
      have z3 := (cells4 hb6).2.2.2
      have fz6 : ∀ k, (storeAll wx g (j * 2) (It.cells ⟨t, v⟩)).frozen? ⟨b, k, none⟩ = false := fun k => frozen_of_obj hb6 k
      have hbl6 := lt_of_obj hb6
      have h6 := hbput.boxPut (sepR_stable (rowR_stable _ _ _ _ _) hQ) 3 (.int .i64 ((S.length + 1 : Nat) : Int))
      have e6 : IntKind.i64.wrap ((S.length : Int) + 1) = ((S.length + 1 : Nat) : Int) := by rw [IntWalk.i64_in _ (by omega)]; omega
      dsimp only [storeAll, It.cells] at h6 z3 fz6 hbl6
      have H6 := Lib.hid h6
      have Hpc := Lib.hid hpc
      have Hwin := Lib.hid hwin
      have HPl := Lib.hid hPl
      clear h5 hb hpc hrr hput hy hwin hPl hbput hb6 h6 c0 c2 hw5 hw5f
      refine wp_region_still_tail 14 (by kernel_rfl) (by kernel_rfl) ?_
      simp only [List.take_succ_cons, List.take_zero, List.drop_succ_cons, List.drop_zero]
      repeat still_step
      still_call Hpc.out
      repeat still_step
      try refine wpStill_nil ?_
      go_wp2_with fail
      go_ret
      refine ⟨rfl, ?_⟩
      have hs6 : Stable (sepR (boxR b #[.int .i64 (room : Int), .slice (some ⟨g, 0, none⟩) P5.length c5, .int .i64 (f5 : Int), .int .i64 ((S.length + 1 : Nat) : Int)] 59) (sepR (rowR 66 2 (.slice (some ⟨g, 0, none⟩) P5.length c5) P5.length (flat It.cells P6)) Q)) := sepR_stable (boxR_stable _ _ _) (sepR_stable (rowR_stable _ _ _ _ _) hQ)
      have h7 := Holds.drew hs6 H6.out
      rw [← HPl.out] at h7
      refine Holds.ringShut (a := some ⟨g, 0, none⟩) (c := c5) (f := f5) ⟨Hwin.out, Hrise.out, by rw [List.length_append]; have := Hr.out; exact this, by rw [HPl.out]; exact hPr, hfr⟩ ?_
      rw [show (S ++ [(⟨t, v⟩ : It)]).length = S.length + 1 by simp]
      exact h7.rBox'
  · have hgl : S.length < P.length := by have := Hf.out.win.many; omega
    have g4 : ((S.length : Int) == (P.length : Int)) = false := by rw [beq_eq_false_iff_ne]; omega
    have Hgr := Lib.hid hgl
    clear hgr hgl
    rcases notEarly he with h0 | ⟨x, hx, hlt, hpos⟩
    · have g1 : decide ((S.length : Int) > 0) = false := by rw [decide_eq_false_iff_not]; omega
      have g1' : ¬ (0 : Int) < (S.length : Int) := by omega
      have g2 : True := trivial
      have e2 : True := trivial
      have h2 := H1.out
      obtain ⟨c0, c1, c2, c3⟩ := cells4 Hb.out
      have hbl1 := hbl
      have hX := fun n => h2.drewN hs1 n
      have HX := Lib.hid hX
      clear h2 H1 c2 hX he e1 hgs h0
      go_enter Try.func22, Try.ntmps22
      go_wp2_with fail
      go_quiet (fail)
      go_wp2_with fail
      go_quiet (fail)
      go_wp2_with fail
      refine wp_world (fun W => Holds B w0 (sepR (ring0 b room a c f S.length P) Q) W L) (by first | exact HX.out _ | (rw [World.drewN_drewN]; exact HX.out _)) fun wx h5 => ?_
      obtain ⟨a5, ha5⟩ : ∃ a5, a5 = a := ⟨_, rfl⟩
      obtain ⟨c5, hc5⟩ : ∃ c5, c5 = c := ⟨_, rfl⟩
      obtain ⟨f5, hf5⟩ : ∃ f5, f5 = f := ⟨_, rfl⟩
      obtain ⟨P5, hP5⟩ : ∃ P5, P5 = P := ⟨_, rfl⟩
      have hw5 := Hf.out.win
      have hlt5 := Hgr.out
      have hPr := hfl
      rw [← ha5, ← hc5, ← hf5, ← hP5] at h5
      rw [← hf5, ← hP5] at hw5
      rw [← hP5] at hlt5 hPr
      clear c0 c1 c3 hbl1 g1 g1' g2 g4 e2 HX ha5 hc5 hf5 hP5
      have hs5 : Stable (sepR (ring0 b room a5 c5 f5 S.length P5) Q) := sepR_stable (ring0_stable _ _ _ _ _ _ _) hQ
      obtain ⟨g, cap, hv, hg, hcap, _⟩ := row_some h5.rRow.row (by omega)
      simp only [Value.slice.injEq] at hv
      obtain ⟨rfl, _, rfl⟩ := hv
      have hb := h5.rBox.theBox
      have hw5f := hw5.first
      have hw5r := hw5.room
      have hw5l := hw5.f_lt
      have hjl : pl f5 P5.length S.length < P5.length := pl_bound (by omega) hlt5
      have hpc := place_any (w := wx.drew) hb S.length (by omega) (by omega) (by omega)
      have hrr := h5.rRow
      have hput := hrr.putFlat it_len (sepR_stable (boxR_stable _ _ _) hQ) hjl ⟨t, v⟩
      obtain ⟨y, hy⟩ : ∃ y, P5[pl f5 P5.length S.length]? = some y := ⟨_, List.getElem?_eq_getElem hjl⟩
      have p0 := hrr.cellOf it_len hy (j := 0) rfl
      have p1 := hrr.cellOf it_len hy (j := 1) rfl
      rw [Nat.add_zero] at p0
      have fz : ∀ k, wx.frozen? ⟨g, k, none⟩ = false := fun k => hrr.row.frozenAt k
      have hwin : Win f5 (P5.set (pl f5 P5.length S.length) ⟨t, v⟩) (S ++ [⟨t, v⟩]) := by
        refine ⟨by rw [List.length_set]; exact hw5.first, by rw [List.length_set, List.length_append]; exact hlt5, by rw [List.length_set]; exact hw5.room, fun i x hx => ?_⟩
        rw [List.length_set]
        by_cases hi : i = S.length
        · subst hi
          rw [List.getElem?_append_right (Nat.le_refl _), Nat.sub_self] at hx
          rw [List.getElem?_set_self hjl]
          exact hx
        · have hil := (List.getElem?_eq_some_iff.1 hx).1
          rw [List.length_append] at hil
          have hil' : i < S.length := by simp at hil; omega
          rw [List.getElem?_append_left hil'] at hx
          rw [List.getElem?_set_ne (fun e => hi (pl_inj (by omega) (by omega) hlt5 e.symm))]
          exact hw5.at_ i x hx
      have hPl : (P5.set (pl f5 P5.length S.length) ⟨t, v⟩).length = P5.length := List.length_set
      generalize pl f5 P5.length S.length = j at hpc hput p0 p1 hjl hwin hPl
      generalize P5.set j ⟨t, v⟩ = P6 at hput hwin hPl
      have j0 : (0 : Int) ≤ (j : Int) := by omega
      have j1 : (j : Int) < (P5.length : Int) := by omega
      obtain ⟨c0, c1, c2, c3⟩ := cells4 hb
      have hbl := lt_of_obj hb
      have hbput := hput.conv Conv.exch
      have hb6 := hbput.theBox
      have z3 := (cells4 hb6).2.2.2
      have fz6 : ∀ k, (storeAll wx g (j * 2) (It.cells ⟨t, v⟩)).frozen? ⟨b, k, none⟩ = false := fun k => frozen_of_obj hb6 k
      have hbl6 := lt_of_obj hb6
      have h6 := hbput.boxPut (sepR_stable (rowR_stable _ _ _ _ _) hQ) 3 (.int .i64 ((S.length + 1 : Nat) : Int))
      have e6 : IntKind.i64.wrap ((S.length : Int) + 1) = ((S.length + 1 : Nat) : Int) := by rw [IntWalk.i64_in _ (by omega)]; omega
      dsimp only [storeAll, It.cells] at h6 z3 fz6 hbl6
      have H6 := Lib.hid h6
      have Hpc := Lib.hid hpc
      have Hwin := Lib.hid hwin
      have HPl := Lib.hid hPl
      clear h5 hb hpc hrr hput hy hwin hPl hbput hb6 h6 c0 c2 hw5 hw5f
      refine wp_region_still_tail 14 (by kernel_rfl) (by kernel_rfl) ?_
      simp only [List.take_succ_cons, List.take_zero, List.drop_succ_cons, List.drop_zero]
      repeat still_step
      still_call Hpc.out
      repeat still_step
      try refine wpStill_nil ?_
      go_wp2_with fail
      go_ret
      refine ⟨rfl, ?_⟩
      have hs6 : Stable (sepR (boxR b #[.int .i64 (room : Int), .slice (some ⟨g, 0, none⟩) P5.length c5, .int .i64 (f5 : Int), .int .i64 ((S.length + 1 : Nat) : Int)] 59) (sepR (rowR 66 2 (.slice (some ⟨g, 0, none⟩) P5.length c5) P5.length (flat It.cells P6)) Q)) := sepR_stable (boxR_stable _ _ _) (sepR_stable (rowR_stable _ _ _ _ _) hQ)
      have h7 := Holds.drew hs6 H6.out
      rw [← HPl.out] at h7
      refine Holds.ringShut (a := some ⟨g, 0, none⟩) (c := c5) (f := f5) ⟨Hwin.out, Hrise.out, by rw [List.length_append]; have := Hr.out; exact this, by rw [HPl.out]; exact hPr, hfr⟩ ?_
      rw [show (S ++ [(⟨t, v⟩ : It)]).length = S.length + 1 by simp]
      exact h7.rBox'
    · have hg := hgs x hx
      have e2 := e1 hpos
      have g1 : decide ((S.length : Int) > 0) = true := by rw [decide_eq_true_eq]; omega
      have g1' : (0 : Int) < (S.length : Int) := by omega
      have hfd := it_field x
      have g2 : decide (t < x.at_) = false := by rw [decide_eq_false_iff_not]; exact hlt
      have Hg := Lib.hid hg
      obtain ⟨c0, c1, c2, c3⟩ := cells4 Hb.out
      clear he e1 hg hgs hx hlt hpos c0 c1 c2
      go_enter Try.func22, Try.ntmps22
      go_wp2_with fail
      refine Hg.out.mono ?_
      rintro e w1 ⟨rfl, hF⟩
      have h2 := H1.out.made hs1 hF
      obtain ⟨c0, c1, c2, c3⟩ := cells4 (hF.obj Hb.out (by simp))
      have hbl1 := lt_of_obj (hF.obj Hb.out (by simp))
      have hX := fun n => h2.drewN hs1 n
      have HX := Lib.hid hX
      clear hF h2 H1 c2 hX
      go_wp2_with fail
      go_quiet (fail)
      go_wp2_with fail
      go_quiet (fail)
      go_wp2_with fail
      refine wp_world (fun W => Holds B w0 (sepR (ring0 b room a c f S.length P) Q) W L) (by first | exact HX.out _ | (rw [World.drewN_drewN]; exact HX.out _)) fun wx h5 => ?_
      obtain ⟨a5, ha5⟩ : ∃ a5, a5 = a := ⟨_, rfl⟩
      obtain ⟨c5, hc5⟩ : ∃ c5, c5 = c := ⟨_, rfl⟩
      obtain ⟨f5, hf5⟩ : ∃ f5, f5 = f := ⟨_, rfl⟩
      obtain ⟨P5, hP5⟩ : ∃ P5, P5 = P := ⟨_, rfl⟩
      have hw5 := Hf.out.win
      have hlt5 := Hgr.out
      have hPr := hfl
      rw [← ha5, ← hc5, ← hf5, ← hP5] at h5
      rw [← hf5, ← hP5] at hw5
      rw [← hP5] at hlt5 hPr
      clear c0 c1 c3 hbl1 g1 g1' g2 g4 e2 HX ha5 hc5 hf5 hP5
      have hs5 : Stable (sepR (ring0 b room a5 c5 f5 S.length P5) Q) := sepR_stable (ring0_stable _ _ _ _ _ _ _) hQ
      obtain ⟨g, cap, hv, hg, hcap, _⟩ := row_some h5.rRow.row (by omega)
      simp only [Value.slice.injEq] at hv
      obtain ⟨rfl, _, rfl⟩ := hv
      have hb := h5.rBox.theBox
      have hw5f := hw5.first
      have hw5r := hw5.room
      have hw5l := hw5.f_lt
      have hjl : pl f5 P5.length S.length < P5.length := pl_bound (by omega) hlt5
      have hpc := place_any (w := wx.drew) hb S.length (by omega) (by omega) (by omega)
      have hrr := h5.rRow
      have hput := hrr.putFlat it_len (sepR_stable (boxR_stable _ _ _) hQ) hjl ⟨t, v⟩
      obtain ⟨y, hy⟩ : ∃ y, P5[pl f5 P5.length S.length]? = some y := ⟨_, List.getElem?_eq_getElem hjl⟩
      have p0 := hrr.cellOf it_len hy (j := 0) rfl
      have p1 := hrr.cellOf it_len hy (j := 1) rfl
      rw [Nat.add_zero] at p0
      have fz : ∀ k, wx.frozen? ⟨g, k, none⟩ = false := fun k => hrr.row.frozenAt k
      have hwin : Win f5 (P5.set (pl f5 P5.length S.length) ⟨t, v⟩) (S ++ [⟨t, v⟩]) := by
        refine ⟨by rw [List.length_set]; exact hw5.first, by rw [List.length_set, List.length_append]; exact hlt5, by rw [List.length_set]; exact hw5.room, fun i x hx => ?_⟩
        rw [List.length_set]
        by_cases hi : i = S.length
        · subst hi
          rw [List.getElem?_append_right (Nat.le_refl _), Nat.sub_self] at hx
          rw [List.getElem?_set_self hjl]
          exact hx
        · have hil := (List.getElem?_eq_some_iff.1 hx).1
          rw [List.length_append] at hil
          have hil' : i < S.length := by simp at hil; omega
          rw [List.getElem?_append_left hil'] at hx
          rw [List.getElem?_set_ne (fun e => hi (pl_inj (by omega) (by omega) hlt5 e.symm))]
          exact hw5.at_ i x hx
      have hPl : (P5.set (pl f5 P5.length S.length) ⟨t, v⟩).length = P5.length := List.length_set
      generalize pl f5 P5.length S.length = j at hpc hput p0 p1 hjl hwin hPl
      generalize P5.set j ⟨t, v⟩ = P6 at hput hwin hPl
      have j0 : (0 : Int) ≤ (j : Int) := by omega
      have j1 : (j : Int) < (P5.length : Int) := by omega
      obtain ⟨c0, c1, c2, c3⟩ := cells4 hb
      have hbl := lt_of_obj hb
      have hbput := hput.conv Conv.exch
      have hb6 := hbput.theBox
      have z3 := (cells4 hb6).2.2.2
      have fz6 : ∀ k, (storeAll wx g (j * 2) (It.cells ⟨t, v⟩)).frozen? ⟨b, k, none⟩ = false := fun k => frozen_of_obj hb6 k
      have hbl6 := lt_of_obj hb6
      have h6 := hbput.boxPut (sepR_stable (rowR_stable _ _ _ _ _) hQ) 3 (.int .i64 ((S.length + 1 : Nat) : Int))
      have e6 : IntKind.i64.wrap ((S.length : Int) + 1) = ((S.length + 1 : Nat) : Int) := by rw [IntWalk.i64_in _ (by omega)]; omega
      dsimp only [storeAll, It.cells] at h6 z3 fz6 hbl6
      have H6 := Lib.hid h6
      have Hpc := Lib.hid hpc
      have Hwin := Lib.hid hwin
      have HPl := Lib.hid hPl
      clear h5 hb hpc hrr hput hy hwin hPl hbput hb6 h6 c0 c2 hw5 hw5f
      refine wp_region_still_tail 14 (by kernel_rfl) (by kernel_rfl) ?_
      simp only [List.take_succ_cons, List.take_zero, List.drop_succ_cons, List.drop_zero]
      repeat still_step
      still_call Hpc.out
      repeat still_step
      try refine wpStill_nil ?_
      go_wp2_with fail
      go_ret
      refine ⟨rfl, ?_⟩
      have hs6 : Stable (sepR (boxR b #[.int .i64 (room : Int), .slice (some ⟨g, 0, none⟩) P5.length c5, .int .i64 (f5 : Int), .int .i64 ((S.length + 1 : Nat) : Int)] 59) (sepR (rowR 66 2 (.slice (some ⟨g, 0, none⟩) P5.length c5) P5.length (flat It.cells P6)) Q)) := sepR_stable (boxR_stable _ _ _) (sepR_stable (rowR_stable _ _ _ _ _) hQ)
      have h7 := Holds.drew hs6 H6.out
      rw [← HPl.out] at h7
      refine Holds.ringShut (a := some ⟨g, 0, none⟩) (c := c5) (f := f5) ⟨Hwin.out, Hrise.out, by rw [List.length_append]; have := Hr.out; exact this, by rw [HPl.out]; exact hPr, hfr⟩ ?_
      rw [show (S ++ [(⟨t, v⟩ : It)]).length = S.length + 1 by simp]
      exact h7.rBox'
end
end Go.Proofs.Ythamnalpkjjnlaa
