/- KeysOrder, walked. -/
import Derived.Test.YtagldjlaagphlaaKeysAwake
namespace Go.Proofs.Ytagldjlaagphlaa
open Go.RowKit Go.Maps

theorem lt_iff (a b : Kv) : a.lt b = true ↔ a.at_ < b.at_ ∨ (a.at_ = b.at_ ∧ (a.src < b.src ∨ (a.src = b.src ∧ (a.sent < b.sent ∨ (a.sent = b.sent ∧ a.no < b.no))))) := by
  unfold Kv.lt
  by_cases h0 : a.at_ = b.at_
  · by_cases h1 : a.src = b.src
    · by_cases h2 : a.sent = b.sent
      · simp [h0, h1, h2]
      · simp [h0, h1, h2]
    · simp [h0, h1]
  · simp [h0]
theorem lt_irrefl (a : Kv) : a.lt a = false := by
  cases h : a.lt a
  · rfl
  · rw [lt_iff] at h; omega
theorem lt_asymm {a b : Kv} (h : a.lt b = true) : b.lt a = false := by
  cases h' : b.lt a
  · rfl
  · rw [lt_iff] at h h'; omega
theorem lt_trans {a b c : Kv} (h : a.lt b = true) (h' : b.lt c = true) : a.lt c = true := by
  rw [lt_iff] at *; omega
theorem lt_total {a b : Kv} (h : a.lt b = false) (h' : b.lt a = false) : a = b := by
  have h1 : ¬ (a.lt b = true) := by rw [h]; simp
  have h2 : ¬ (b.lt a = true) := by rw [h']; simp
  rw [lt_iff] at h1 h2
  obtain ⟨x0, x1, x2, x3⟩ := a
  obtain ⟨y0, y1, y2, y3⟩ := b
  simp only at h1 h2
  simp only [Kv.mk.injEq]
  omega
theorem cmp_cases (a b : Kv) : (a.cmp b = -1 ∧ a.lt b = true) ∨ (a.cmp b = 0 ∧ a = b) ∨ (a.cmp b = 1 ∧ b.lt a = true) := by
  unfold Kv.cmp
  cases h : a.lt b
  · cases h' : b.lt a
    · exact .inr (.inl ⟨by simp, lt_total h h'⟩)
    · exact .inr (.inr ⟨by simp, rfl⟩)
  · exact .inl ⟨by simp, rfl⟩
theorem cmp_lt {a b : Kv} (h : a.lt b = true) : a.cmp b = -1 := by simp [Kv.cmp, h]
theorem cmp_gt {a b : Kv} (h : b.lt a = true) : a.cmp b = 1 := by simp [Kv.cmp, h, lt_asymm h]
theorem cmp_self (a : Kv) : a.cmp a = 0 := by simp [Kv.cmp, lt_irrefl]
theorem lt_ne {a b : Kv} (h : a.lt b = true) : decide (a = b) = false := by
  rw [decide_eq_false_iff_not]
  intro e
  subst e
  rw [lt_irrefl] at h
  cases h

/-- The three keys are boxed, and compared four times. -/
def oK (a : Kv) : Obj := .cells #[.int .i64 a.at_, .int .i64 a.src, .int .i64 a.sent, .int .i64 a.no] 23

attribute [local go_sem high] key_guard in
set_option maxHeartbeats 2000000 in
set_option maxRecDepth 100000 in
theorem order_walk (a b c : Kv) (w : World) : Calls Try.prog 6 #[.agg #[.int .i64 a.at_, .int .i64 a.src, .int .i64 a.sent, .int .i64 a.no], .agg #[.int .i64 b.at_, .int .i64 b.src, .int .i64 b.sent, .int .i64 b.no],
    .agg #[.int .i64 c.at_, .int .i64 c.src, .int .i64 c.sent, .int .i64 c.no]] w fun e w' => e = .returned (.bool true) ∧ Below w.heap.size w w' := by
  have H0 := Lib.hid ((((Holds.start w).alloc noneR_stable (oK a)).alloc noneR_stable (oK b)).alloc noneR_stable (oK c))
  have h1 := compare_any a b
  have h2 := compare_any b a
  have h3 := compare_any b c
  have h4 := compare_any a c
  have h5 := compare_any a a
  have hk := key_eql a b
  rw [cmp_self] at h5
  have hcase : (a.cmp b = 1 ∧ b.cmp a = -1 ∧ decide (a = b) = false) ∨ (a.cmp b = -1 ∧ b.cmp a = 1 ∧ decide (a = b) = false ∧ b.cmp c = 1) ∨ (a.cmp b = 0 ∧ b.cmp a = 0 ∧ decide (a = b) = true ∧ b.cmp c = 1) ∨
      (a.cmp b = -1 ∧ b.cmp a = 1 ∧ decide (a = b) = false ∧ b.cmp c = -1 ∧ a.cmp c = -1) ∨ (a.cmp b = -1 ∧ b.cmp a = 1 ∧ decide (a = b) = false ∧ b.cmp c = 0 ∧ a.cmp c = -1) ∨
      (a.cmp b = 0 ∧ b.cmp a = 0 ∧ decide (a = b) = true ∧ b.cmp c = -1 ∧ a.cmp c = -1) ∨ (a.cmp b = 0 ∧ b.cmp a = 0 ∧ decide (a = b) = true ∧ b.cmp c = 0 ∧ a.cmp c = 0) := by
    rcases cmp_cases a b with ⟨e, hl⟩ | ⟨e, rfl⟩ | ⟨e, hl⟩
    · have e2 := cmp_gt hl
      have e3 := lt_ne hl
      rcases cmp_cases b c with ⟨f, hm⟩ | ⟨f, rfl⟩ | ⟨f, hm⟩
      · have := cmp_lt (lt_trans hl hm); simp [*]
      · simp [*]
      · simp [*]
    · rcases cmp_cases a c with ⟨f, hm⟩ | ⟨f, rfl⟩ | ⟨f, hm⟩ <;> simp [*]
    · have e2 := cmp_lt hl
      have e3 : decide (a = b) = false := by
        have := lt_ne hl
        rw [decide_eq_false_iff_not] at this ⊢
        exact fun e => this e.symm
      simp [*]
  rcases hcase with ⟨e1, e2, e3⟩ | ⟨e1, e2, e3, e4⟩ | ⟨e1, e2, e3, e4⟩ | ⟨e1, e2, e3, e4, e5⟩ | ⟨e1, e2, e3, e4, e5⟩ | ⟨e1, e2, e3, e4, e5⟩ | ⟨e1, e2, e3, e4, e5⟩
  all_goals
    rw [e1] at h1
    rw [e2] at h2
    rw [e3] at hk
    try rw [e4] at h3
    try rw [e5] at h4
    clear e1 e2 e3
    try clear e4
    try clear e5
    have G1 := Lib.hid h1
    have G2 := Lib.hid h2
    have G3 := Lib.hid h3
    have G4 := Lib.hid h4
    have G5 := Lib.hid h5
    clear h1 h2 h3 h4 h5
    go_enter Try.func6, Try.ntmps6
    go_wp2_with fail
    refine (G1.out _).mono ?_
    rintro e w1 ⟨rfl, hf⟩
    have H1 := Lib.hid (H0.out.made noneR_stable hf)
    clear hf
    obtain ⟨p0, p1, p2, p3⟩ := cells4 (H1.out.box (k := w.heap.size) (o := oK a) (by simp))
    obtain ⟨q0, q1, q2, q3⟩ := cells4 (H1.out.box (k := w.heap.size + 1) (o := oK b) (by simp))
    go_wp2_with fail
    refine (G2.out _).mono ?_
    rintro e w2 ⟨rfl, hf⟩
    have H2 := Lib.hid (H1.out.made noneR_stable hf)
    clear hf p0 p1 p2 p3 q0 q1 q2 q3
    obtain ⟨p0, p1, p2, p3⟩ := cells4 (H2.out.box (k := w.heap.size + 1) (o := oK b) (by simp))
    obtain ⟨q0, q1, q2, q3⟩ := cells4 (H2.out.box (k := w.heap.size + 1 + 1) (o := oK c) (by simp))
    go_wp2_with fail
    refine (G3.out _).mono ?_
    rintro e w3 ⟨rfl, hf⟩
    have H3 := Lib.hid (H2.out.made noneR_stable hf)
    clear hf p0 p1 p2 p3 q0 q1 q2 q3
    obtain ⟨p0, p1, p2, p3⟩ := cells4 (H3.out.box (k := w.heap.size) (o := oK a) (by simp))
    obtain ⟨q0, q1, q2, q3⟩ := cells4 (H3.out.box (k := w.heap.size + 1 + 1) (o := oK c) (by simp))
    go_wp2_with fail
    refine (G4.out _).mono ?_
    rintro e w4 ⟨rfl, hf⟩
    have H4 := Lib.hid (H3.out.made noneR_stable hf)
    clear hf p0 p1 p2 p3 q0 q1 q2 q3
    obtain ⟨p0, p1, p2, p3⟩ := cells4 (H4.out.box (k := w.heap.size) (o := oK a) (by simp))
    obtain ⟨q0, q1, q2, q3⟩ := cells4 (H4.out.box (k := w.heap.size + 1) (o := oK b) (by simp))
    go_wp2_with fail
    refine (G5.out _).mono ?_
    rintro e w5 ⟨rfl, hf⟩
    have H5 := Lib.hid (H4.out.made noneR_stable hf)
    clear hf p0 p1 p2 p3 q0 q1 q2 q3
    go_wp2_with fail
    refine (awake_any _).mono ?_
    rintro e w6 ⟨rfl, hf⟩
    have H6 := Lib.hid (H5.out.made noneR_stable hf)
    clear hf
    go_wp2_with fail
    go_ret
    exact ⟨rfl, H6.out.below⟩
end Go.Proofs.Ytagldjlaagphlaa
