/- KeysCheck, walked. -/
import Derived.Test.YtgokppifnjeedaaKeysOrder
namespace Go.Proofs.Ytgokppifnjeedaa
open Go.RowKit Go.Maps

def oE (e : Ev) : Obj := .cells #[.int .i64 e.k.at_, .int .i64 e.k.src, .int .i64 e.k.sent, .int .i64 e.k.no, .int .i64 e.dst, .int .i64 e.kind, .int .i64 e.data] 25

attribute [local go_sem high] id_guard in
attribute [local go_sem ↓] Go.wp_at_zero Go.wp_at_succ in
set_option maxHeartbeats 4000000 in
set_option maxRecDepth 100000 in
theorem check_walk (a b : Ev) (w : World) : Calls Try.prog 3 #[.agg #[.int .i64 a.k.at_, .int .i64 a.k.src, .int .i64 a.k.sent, .int .i64 a.k.no, .int .i64 a.dst, .int .i64 a.kind, .int .i64 a.data],
    .agg #[.int .i64 b.k.at_, .int .i64 b.k.src, .int .i64 b.k.sent, .int .i64 b.k.no, .int .i64 b.dst, .int .i64 b.kind, .int .i64 b.data]] w fun e w' => e = .returned (.bool true) ∧ Below w.heap.size w w' := by
  have H0 := Lib.hid (((Holds.start w).alloc noneR_stable (oE a)).alloc noneR_stable (oE b))
  have h1 := less_any a.k b.k
  have h2 := less_any b.k a.k
  have h3 := compare_any a.k b.k
  have hid := id_eql ⟨a.k.src, a.k.sent, a.k.no⟩ ⟨a.k.src, a.k.sent, a.k.no⟩
  have hid1 : decide ((⟨a.k.src, a.k.sent, a.k.no⟩ : Iv) = ⟨a.k.src, a.k.sent, a.k.no⟩) = true := by simp
  rw [hid1] at hid
  have hck : (a.check == a.check) = true := by simp
  have h4 := check_any a
  have h5 := rcheck_any a
  generalize hcv : a.check = cv at hck h4 h5
  have G4 := Lib.hid h4
  have G5 := Lib.hid h5
  clear h4 h5
  have hcase : (a.k.lt b.k = true ∧ a.k.cmp b.k = -1) ∨ (a.k.lt b.k = false ∧ b.k.lt a.k = true ∧ a.k.cmp b.k = 1) ∨ (a.k.lt b.k = false ∧ b.k.lt a.k = false ∧ a.k.cmp b.k = 0) := by
    rcases cmp_cases a.k b.k with ⟨e, hl⟩ | ⟨e, f⟩ | ⟨e, hl⟩
    · exact .inl ⟨hl, e⟩
    · rw [f] at e ⊢; exact .inr (.inr ⟨lt_irrefl _, lt_irrefl _, e⟩)
    · exact .inr (.inl ⟨lt_asymm hl, hl, e⟩)
  clear hid1 hcv
  rcases hcase with ⟨e1, e3⟩ | ⟨e1, e2, e3⟩ | ⟨e1, e2, e3⟩
  · rw [e1] at h1
    rw [e3] at h3
    clear e1 e3
    have G1 := Lib.hid h1
    have G3 := Lib.hid h3
    clear h1 h2 h3
    go_enter Try.func3, Try.ntmps3
    go_wp2_with fail
    refine (G1.out _).mono ?_
    rintro e w2 ⟨rfl, hf⟩
    have H2 := Lib.hid (H0.out.made noneR_stable hf)
    have H2d := Lib.hid (H2.out.drew noneR_stable)
    clear hf
    obtain ⟨p0, p1, p2, p3, p4, p5, p6⟩ := cells7 (H2.out.box (k := w.heap.size) (o := oE a) (by simp))
    obtain ⟨q0, q1, q2, q3, q4, q5, q6⟩ := cells7 (H2.out.box (k := w.heap.size + 1) (o := oE b) (by simp))
    go_wp2_with fail
    go_region_held3 (fun w' => w'.cell? ⟨w.heap.size, 0, none⟩ = some (.int .i64 a.k.at_) ∧ w'.cell? ⟨w.heap.size, 1, none⟩ = some (.int .i64 a.k.src) ∧ w'.cell? ⟨w.heap.size, 2, none⟩ = some (.int .i64 a.k.sent) ∧ w'.cell? ⟨w.heap.size, 3, none⟩ = some (.int .i64 a.k.no) ∧
        w'.cell? ⟨w.heap.size, 4, none⟩ = some (.int .i64 a.dst) ∧ w'.cell? ⟨w.heap.size, 5, none⟩ = some (.int .i64 a.kind) ∧ w'.cell? ⟨w.heap.size, 6, none⟩ = some (.int .i64 a.data) ∧
        w'.cell? ⟨w.heap.size + 1, 0, none⟩ = some (.int .i64 b.k.at_) ∧ w'.cell? ⟨w.heap.size + 1, 1, none⟩ = some (.int .i64 b.k.src) ∧ w'.cell? ⟨w.heap.size + 1, 2, none⟩ = some (.int .i64 b.k.sent) ∧ w'.cell? ⟨w.heap.size + 1, 3, none⟩ = some (.int .i64 b.k.no))
      (first | go_keep)
      ((first
        | (go_at_call 16; refine (awake_any _).mono ?_; rintro e w7 ⟨rfl, hf7⟩; obtain ⟨p0, p1, p2, p3, p4, p5, p6⟩ := cells7 ((H6.out.made noneR_stable hf7).box (k := w.heap.size) (o := oE a) (by simp)); obtain ⟨q0, q1, q2, q3, q4, q5, q6⟩ := cells7 ((H6.out.made noneR_stable hf7).box (k := w.heap.size + 1) (o := oE b) (by simp)); have H7 := Lib.hid (H6.out.made noneR_stable hf7); clear hf7)
        | (go_at_call 15; refine (G3.out _).mono ?_; rintro e w6 ⟨rfl, hf6⟩; obtain ⟨p0, p1, p2, p3, p4, p5, p6⟩ := cells7 ((H5.out.made noneR_stable hf6).box (k := w.heap.size) (o := oE a) (by simp)); obtain ⟨q0, q1, q2, q3, q4, q5, q6⟩ := cells7 ((H5.out.made noneR_stable hf6).box (k := w.heap.size + 1) (o := oE b) (by simp)); have H6 := Lib.hid (H5.out.made noneR_stable hf6); clear hf6)
        | (go_at_call 14; refine (of_any a _).mono ?_; rintro e w5 ⟨rfl, hf5⟩; obtain ⟨p0, p1, p2, p3, p4, p5, p6⟩ := cells7 ((H4.out.made noneR_stable hf5).box (k := w.heap.size) (o := oE a) (by simp)); obtain ⟨q0, q1, q2, q3, q4, q5, q6⟩ := cells7 ((H4.out.made noneR_stable hf5).box (k := w.heap.size + 1) (o := oE b) (by simp)); have H5 := Lib.hid (H4.out.made noneR_stable hf5); clear hf5)
        | (go_at_call 13; refine (G5.out _).mono ?_; rintro e w4 ⟨rfl, hf4⟩; obtain ⟨p0, p1, p2, p3, p4, p5, p6⟩ := cells7 ((H3.out.made noneR_stable hf4).box (k := w.heap.size) (o := oE a) (by simp)); obtain ⟨q0, q1, q2, q3, q4, q5, q6⟩ := cells7 ((H3.out.made noneR_stable hf4).box (k := w.heap.size + 1) (o := oE b) (by simp)); have H4 := Lib.hid (H3.out.made noneR_stable hf4); clear hf4)
        | (go_at_call 12; refine (G4.out _).mono ?_; rintro e w3 ⟨rfl, hf3⟩; have h3 : Holds w.heap.size w _ w3 _ := (by first | exact H2d.out.made noneR_stable hf3 | exact H2.out.made noneR_stable hf3); obtain ⟨p0, p1, p2, p3, p4, p5, p6⟩ := cells7 (h3.box (k := w.heap.size) (o := oE a) (by simp)); obtain ⟨q0, q1, q2, q3, q4, q5, q6⟩ := cells7 (h3.box (k := w.heap.size + 1) (o := oE b) (by simp)); have H3 := Lib.hid h3; clear hf3 h3)))
    go_wp2_with fail
    go_ret
    exact ⟨rfl, H7.out.below⟩
  all_goals
    rw [e1] at h1
    rw [e2] at h2
    rw [e3] at h3
    clear e1 e2 e3
    have G1 := Lib.hid h1
    have G2 := Lib.hid h2
    have G3 := Lib.hid h3
    clear h1 h2 h3
    go_enter Try.func3, Try.ntmps3
    go_wp2_with fail
    refine (G1.out _).mono ?_
    rintro e w1 ⟨rfl, hf⟩
    have H1 := Lib.hid (H0.out.made noneR_stable hf)
    clear hf
    obtain ⟨p0, p1, p2, p3, p4, p5, p6⟩ := cells7 (H1.out.box (k := w.heap.size) (o := oE a) (by simp))
    obtain ⟨q0, q1, q2, q3, q4, q5, q6⟩ := cells7 (H1.out.box (k := w.heap.size + 1) (o := oE b) (by simp))
    go_wp2_with fail
    refine (G2.out _).mono ?_
    rintro e w2 ⟨rfl, hf⟩
    have H2 := Lib.hid (H1.out.made noneR_stable hf)
    have H2d := Lib.hid (H2.out.drew noneR_stable)
    clear hf p0 p1 p2 p3 p4 p5 p6 q0 q1 q2 q3 q4 q5 q6
    obtain ⟨p0, p1, p2, p3, p4, p5, p6⟩ := cells7 (H2.out.box (k := w.heap.size) (o := oE a) (by simp))
    obtain ⟨q0, q1, q2, q3, q4, q5, q6⟩ := cells7 (H2.out.box (k := w.heap.size + 1) (o := oE b) (by simp))
    go_wp2_with fail
    go_region_held3 (fun w' => w'.cell? ⟨w.heap.size, 0, none⟩ = some (.int .i64 a.k.at_) ∧ w'.cell? ⟨w.heap.size, 1, none⟩ = some (.int .i64 a.k.src) ∧ w'.cell? ⟨w.heap.size, 2, none⟩ = some (.int .i64 a.k.sent) ∧ w'.cell? ⟨w.heap.size, 3, none⟩ = some (.int .i64 a.k.no) ∧
        w'.cell? ⟨w.heap.size, 4, none⟩ = some (.int .i64 a.dst) ∧ w'.cell? ⟨w.heap.size, 5, none⟩ = some (.int .i64 a.kind) ∧ w'.cell? ⟨w.heap.size, 6, none⟩ = some (.int .i64 a.data) ∧
        w'.cell? ⟨w.heap.size + 1, 0, none⟩ = some (.int .i64 b.k.at_) ∧ w'.cell? ⟨w.heap.size + 1, 1, none⟩ = some (.int .i64 b.k.src) ∧ w'.cell? ⟨w.heap.size + 1, 2, none⟩ = some (.int .i64 b.k.sent) ∧ w'.cell? ⟨w.heap.size + 1, 3, none⟩ = some (.int .i64 b.k.no))
      (first | go_keep)
      ((first
        | (go_at_call 16; refine (awake_any _).mono ?_; rintro e w7 ⟨rfl, hf7⟩; obtain ⟨p0, p1, p2, p3, p4, p5, p6⟩ := cells7 ((H6.out.made noneR_stable hf7).box (k := w.heap.size) (o := oE a) (by simp)); obtain ⟨q0, q1, q2, q3, q4, q5, q6⟩ := cells7 ((H6.out.made noneR_stable hf7).box (k := w.heap.size + 1) (o := oE b) (by simp)); have H7 := Lib.hid (H6.out.made noneR_stable hf7); clear hf7)
        | (go_at_call 15; refine (G3.out _).mono ?_; rintro e w6 ⟨rfl, hf6⟩; obtain ⟨p0, p1, p2, p3, p4, p5, p6⟩ := cells7 ((H5.out.made noneR_stable hf6).box (k := w.heap.size) (o := oE a) (by simp)); obtain ⟨q0, q1, q2, q3, q4, q5, q6⟩ := cells7 ((H5.out.made noneR_stable hf6).box (k := w.heap.size + 1) (o := oE b) (by simp)); have H6 := Lib.hid (H5.out.made noneR_stable hf6); clear hf6)
        | (go_at_call 14; refine (of_any a _).mono ?_; rintro e w5 ⟨rfl, hf5⟩; obtain ⟨p0, p1, p2, p3, p4, p5, p6⟩ := cells7 ((H4.out.made noneR_stable hf5).box (k := w.heap.size) (o := oE a) (by simp)); obtain ⟨q0, q1, q2, q3, q4, q5, q6⟩ := cells7 ((H4.out.made noneR_stable hf5).box (k := w.heap.size + 1) (o := oE b) (by simp)); have H5 := Lib.hid (H4.out.made noneR_stable hf5); clear hf5)
        | (go_at_call 13; refine (G5.out _).mono ?_; rintro e w4 ⟨rfl, hf4⟩; obtain ⟨p0, p1, p2, p3, p4, p5, p6⟩ := cells7 ((H3.out.made noneR_stable hf4).box (k := w.heap.size) (o := oE a) (by simp)); obtain ⟨q0, q1, q2, q3, q4, q5, q6⟩ := cells7 ((H3.out.made noneR_stable hf4).box (k := w.heap.size + 1) (o := oE b) (by simp)); have H4 := Lib.hid (H3.out.made noneR_stable hf4); clear hf4)
        | (go_at_call 12; refine (G4.out _).mono ?_; rintro e w3 ⟨rfl, hf3⟩; have h3 : Holds w.heap.size w _ w3 _ := (by first | exact H2d.out.made noneR_stable hf3 | exact H2.out.made noneR_stable hf3); obtain ⟨p0, p1, p2, p3, p4, p5, p6⟩ := cells7 (h3.box (k := w.heap.size) (o := oE a) (by simp)); obtain ⟨q0, q1, q2, q3, q4, q5, q6⟩ := cells7 (h3.box (k := w.heap.size + 1) (o := oE b) (by simp)); have H3 := Lib.hid h3; clear hf3 h3)))
    go_wp2_with fail
    go_ret
    exact ⟨rfl, H7.out.below⟩
end Go.Proofs.Ytgokppifnjeedaa
