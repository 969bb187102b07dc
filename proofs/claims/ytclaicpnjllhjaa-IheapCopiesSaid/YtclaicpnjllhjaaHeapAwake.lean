/- The chapter's example, walked. -/
import Derived.Test.YtclaicpnjllhjaaHeapB
import Derived.Test.YtclaicpnjllhjaaInts
namespace Go.Proofs.Ytclaicpnjllhjaa
open Go.RowKit

theorem valCells_flat (l : List Ent) : valCells l = flat intEnc (l.map Ent.v) := by
  induction l with
  | nil => rfl
  | cons x l ih => simp only [valCells, List.map_cons, flat, intEnc] at ih ⊢; rw [ih]; rfl
theorem slAt_made (w : World) (x y : Int) (t : TypeId) : SlAt intEnc 1 (w.alloc (.cells #[.int .i64 x, .int .i64 y] t)) (some ⟨w.heap.size, 0, none⟩) 2 2 [x, y] := by
  refine ⟨rfl, Nat.le_refl _, by unfold maxLen; omega, .inr ⟨_, _, rfl, by simp, fun i z hi j u hj => ?_⟩⟩
  obtain ⟨c0, c1⟩ := cells2 (obj_new w (.cells #[.int .i64 x, .int .i64 y] t))
  have hj' := (List.getElem?_eq_some_iff.1 hj).1
  simp only [intEnc, List.length_cons, List.length_nil] at hj'
  obtain rfl : j = 0 := by omega
  simp only [intEnc, List.getElem?_cons_zero, Option.some.injEq] at hj
  subst hj
  match i, hi with
  | 0, hi => simp at hi; subst hi; exact c0
  | 1, hi => simp at hi; subst hi; exact c1
  | i + 2, hi => simp at hi

abbrev aw1 : Ent := ⟨⟨5, 0, 1, 0⟩, 1⟩
abbrev aw2 : Ent := ⟨⟨3, 0, 1, 1⟩, 2⟩
abbrev aw3 : Ent := ⟨⟨3, -1, -1, 0⟩, 3⟩
theorem aw_wf (a b c d : Int) (ha : (Lit.int .i64 a).wf = true) (hb : (Lit.int .i64 b).wf = true) (hc : (Lit.int .i64 c).wf = true) (hd : (Lit.int .i64 d).wf = true) : Kv.Wf ⟨a, b, c, d⟩ := ⟨ha, hb, hc, hd⟩

set_option maxHeartbeats 2000000 in
set_option maxRecDepth 100000 in
theorem awake_any (w : World) : Calls Try.prog 11 #[] w fun e w' => e = .returned (.bool true) ∧ Below w.heap.size w w' := by
  have E1 := Lib.hid (show pushS aw1 [] = [aw1] from rfl)
  have E2 := Lib.hid (show pushS aw2 [aw1] = [aw2, aw1] from rfl)
  have E3 := Lib.hid (show pushS aw3 [aw2, aw1] = [aw3, aw2, aw1] from rfl)
  have F1 := Lib.hid (show timeOf [aw3, aw2, aw1] = 3 from rfl)
  have F2 := Lib.hid (show batchP [aw3, aw2, aw1] = [aw3, aw2] from rfl)
  have F3 := Lib.hid (show batchR [aw3, aw2, aw1] = [aw1] from rfl)
  have F4 := Lib.hid (show firstErr [aw3, aw2, aw1] = 0 from rfl)
  go_enter Try.func11, Try.ntmps11
  go_wp2_with fail
  refine (new_goes noneR_stable (Holds.start w)).mono ?_
  rintro e w1 ⟨rfl, h1⟩
  have H1 := Lib.hid h1
  clear h1
  go_wp2_with fail
  refine (push_goes noneR_stable H1.out (by simp) ⟨5, 0, 1, 0⟩ 1 (aw_wf _ _ _ _ (by decide) (by decide) (by decide) (by decide))).mono ?_
  rintro e w2 ⟨rfl, h2⟩
  rw [E1.out] at h2
  have H2 := Lib.hid h2
  clear h2
  go_wp2_with fail
  refine (push_goes noneR_stable H2.out (by simp) ⟨3, 0, 1, 1⟩ 2 (aw_wf _ _ _ _ (by decide) (by decide) (by decide) (by decide))).mono ?_
  rintro e w3 ⟨rfl, h3⟩
  rw [E2.out] at h3
  have H3 := Lib.hid h3
  clear h3
  go_wp2_with fail
  refine (push_goes noneR_stable H3.out (by simp) ⟨3, -1, -1, 0⟩ 3 (aw_wf _ _ _ _ (by decide) (by decide) (by decide) (by decide))).mono ?_
  rintro e w4 ⟨rfl, h4⟩
  rw [E3.out] at h4
  have H4 := Lib.hid h4
  clear h4
  go_wp2_with fail
  refine (batch_goes noneR_stable H4.out (by simp)).mono ?_
  rintro e w5 ⟨a, c, he, h5⟩
  rw [F1.out, F2.out, F4.out] at he
  rw [F2.out, F3.out] at h5
  subst he
  have hs5 : Stable (sepR (rowR 3 1 (.slice a [aw3, aw2].length c) [aw3, aw2].length (valCells [aw3, aw2])) (sepR (heapR (w.heap.size + 1) [aw1]) noneR)) := sepR_stable (rowR_stable _ _ _ _ _) (sepR_stable (heapR_stable _ _) noneR_stable)
  have h6 := h5.made hs5 ((Frm.refl _ _).alloc (.cells #[.int .i64 3, .int .i64 2] 3))
  have hr := h6.row
  rw [valCells_flat] at hr
  have hc := ints_any _ _ _ _ [3, 2] _ _ _ [3, 2] (SlAt.of_row intEnc_len hr rfl) (slAt_made w5 3 2 3) (by simp)
  rw [show decide (([3, 2] : List Int) = [3, 2]) = true by decide] at hc
  have Hc := Lib.hid hc
  have H6 := Lib.hid h6
  clear h5 h6 hr hc
  go_wp2_with fail
  refine Hc.out.mono ?_
  rintro e w6 ⟨rfl, hf⟩
  have h7 := (H6.out.made hs5 hf).drop
  have H7 := Lib.hid h7
  clear h7 hf Hc H6 hs5
  go_wp2_with fail
  refine (len_goes noneR_stable H7.out).mono ?_
  rintro e w7 ⟨rfl, h8⟩
  have H8 := Lib.hid h8
  clear h8 H7
  go_wp2_with fail
  go_ret
  exact ⟨rfl, H8.out.below⟩
end Go.Proofs.Ytclaicpnjllhjaa
