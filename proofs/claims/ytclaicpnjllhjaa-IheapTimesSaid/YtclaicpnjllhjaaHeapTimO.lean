/- IheapTimes, where there are too many keys, or none. -/
import Derived.Test.YtclaicpnjllhjaaHeapOrd
namespace Go.Proofs.Ytclaicpnjllhjaa
open Go.RowKit Go.Maps

set_option maxHeartbeats 1000000 in
set_option maxRecDepth 100000 in
theorem times_out (w : World) (a1 : Option Addr) (n1 c1 : Nat) (h : 40 < n1) : Calls Try.prog 8 #[.slice a1 n1 c1] w (LawTrue w) := by
  have H0 := Lib.hid ((Holds.start w).alloc noneR_stable (.cells #[.bool false] 4))
  go_enter Try.func8, Try.ntmps8
  go_wp2_with fail
  refine (new_goes noneR_stable H0.out).mono ?_
  rintro e w1 ⟨rfl, h1⟩
  have H1 := Lib.hid h1
  clear h1
  go_wp2_with fail
  refine (awake_any _).mono ?_
  rintro e w2 ⟨rfl, hF⟩
  have h2 := H1.out.made (sepR_stable (heapR_stable _ _) noneR_stable) (Frm.of_below hF (Nat.le_refl _))
  have ob := h2.box (k := w.heap.size) (o := .cells #[.bool false] 4) (by simp)
  have u1 := cells1 ob
  have u0 : w2.frozen? ⟨w.heap.size, 0, none⟩ = false := frozen_of_obj ob 0
  have zu := lt_of_obj ob
  have H2 := Lib.hid h2
  have g3 := cells1 (obj_setCell ob 0 (.bool true))
  clear hF h2 ob
  go_wp2_with fail
  exact bodyPost_ret (v := .bool true) (by simp [results, Try.results8, go_sem, g3]) rfl ⟨rfl, H2.out.below.setCell (p := ⟨w.heap.size, 0, none⟩) (Nat.le_refl _) _⟩

set_option maxHeartbeats 1000000 in
set_option maxRecDepth 100000 in
theorem times_nil (w : World) (a1 : Option Addr) (c1 : Nat) : Calls Try.prog 8 #[.slice a1 0 c1] w (LawTrue w) := by
  have H0 := Lib.hid ((Holds.start w).alloc noneR_stable (.cells #[.bool false] 4))
  go_enter Try.func8, Try.ntmps8
  go_wp2_with fail
  refine (new_goes noneR_stable H0.out).mono ?_
  rintro e w1 ⟨rfl, h1⟩
  obtain ⟨A, hA⟩ : ∃ A, (w.alloc (.cells #[.bool false] 4)).heap.size + 1 = A := ⟨_, rfl⟩
  rw [hA] at h1 ⊢
  have hs := sepR_stable (heapR_stable A []) noneR_stable
  have H1 := Lib.hid (h1.made hs ((Frm.refl _ _).alloc (.cells #[.slice none 0 0] 30)))
  clear h1 hA
  go_wp2_with fail
  go_loopw [5] (fun iv wr => iv = .int .i64 0 ∧ Holds w.heap.size w (sepR (heapR A []) noneR) wr [(w.heap.size, .cells #[.bool false] 4)]) (fun _ _ => 0)
  case atStart => exact ⟨rfl, H1.out⟩
  case round =>
    obtain ⟨rfl, hH⟩ := hrel
    have HH := Lib.hid hH
    clear hH H1
    go_wp2_with fail
    refine (batch_goes noneR_stable HH.out (by simp)).mono ?_
    rintro e w5 ⟨a5, c5, rfl, h5⟩
    have H5 := Lib.hid h5.drop
    dsimp only [firstErr]
    clear h5
    go_wp2_with fail
    refine (awake_any _).mono ?_
    rintro e w6 ⟨rfl, hF⟩
    have h6 := (H5.out.made (sepR_stable (heapR_stable _ _) noneR_stable) ((Frm.refl _ _).alloc _)).made (sepR_stable (heapR_stable _ _) noneR_stable) (Frm.of_below hF (Nat.le_refl _))
    have ob := h6.box (k := w.heap.size) (o := .cells #[.bool false] 4) (by simp)
    have u1 := cells1 ob
    have u0 : w6.frozen? ⟨w.heap.size, 0, none⟩ = false := frozen_of_obj ob 0
    have zu := lt_of_obj ob
    have H6 := Lib.hid h6
    have g3 := cells1 (obj_setCell ob 0 (.bool true))
    clear hF h6 ob H5 HH
    go_wp2_with fail
    exact bodyPost_ret (v := .bool true) (by simp [results, Try.results8, go_sem, g3]) rfl ⟨rfl, H6.out.below.setCell (p := ⟨w.heap.size, 0, none⟩) (Nat.le_refl _) _⟩
end Go.Proofs.Ytclaicpnjllhjaa
