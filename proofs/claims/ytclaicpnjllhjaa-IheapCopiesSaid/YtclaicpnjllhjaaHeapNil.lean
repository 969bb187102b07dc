/- A nil heap has nothing: the calls, one by one. -/
import Derived.Test.YtclaicpnjllhjaaHeapAwake
namespace Go.Proofs.Ytclaicpnjllhjaa
open Go.RowKit

/-- What a call answers, and that it only makes memory. -/
abbrev Made (r : Value) (w : World) (e : Ending) (w' : World) : Prop := e = .returned r ∧ Frm [] w w'

set_option maxHeartbeats 400000 in
theorem find_nil (w : World) (k : Kv) : Calls Try.prog 39 #[.pointer none, k.val] w (Says (.tuple #[.int .i64 0, .int .i64 2]) w) := by
  go_enter Try.func39, Try.ntmps39
  go_wp2
  go_ret2
  exact ⟨rfl, (Frm.refl _ _).alloc _⟩
set_option maxHeartbeats 400000 in
theorem get_nil (w : World) (k : Kv) : Calls Try.prog 23 #[.pointer none, k.val] w (Says (.tuple #[.int .i64 0, .int .i64 2]) w) := by
  go_enter Try.func23, Try.ntmps23
  go_wp2_with fail
  refine (find_nil _ k).mono ?_
  rintro e w1 ⟨rfl, hF⟩
  have HF := Lib.hid hF
  clear hF
  go_wp2_with fail
  go_ret2
  exact ⟨rfl, ((Frm.refl _ _).alloc _).trans HF.out (by simp)⟩
set_option maxHeartbeats 400000 in
theorem pull_nil (w : World) (k : Kv) : Calls Try.prog 24 #[.pointer none, k.val] w (Says (.tuple #[.int .i64 0, .int .i64 2]) w) := by
  go_enter Try.func24, Try.ntmps24
  go_wp2_with fail
  refine (find_nil _ k).mono ?_
  rintro e w1 ⟨rfl, hF⟩
  have HF := Lib.hid hF
  clear hF
  go_wp2_with fail
  go_ret2
  exact ⟨rfl, ((Frm.refl _ _).alloc _).trans HF.out (by simp)⟩
set_option maxHeartbeats 400000 in
theorem first_nil (w : World) : Calls Try.prog 25 #[.pointer none] w (Says (.tuple #[.agg #[.int .i64 0, .int .i64 0, .int .i64 0, .int .i64 0], .int .i64 0, .int .i64 2]) w) := by
  go_enter Try.func25, Try.ntmps25
  go_wp2_with fail
  exact bodyPost_ret (v := .tuple #[.agg #[.int .i64 0, .int .i64 0, .int .i64 0, .int .i64 0], .int .i64 0, .int .i64 2]) (by simp [results, Try.results25, go_sem]) rfl ⟨rfl, (Frm.refl _ _).alloc _⟩
set_option maxHeartbeats 400000 in
theorem pop_nil (w : World) : Calls Try.prog 18 #[.pointer none] w (Says (.tuple #[.agg #[.int .i64 0, .int .i64 0, .int .i64 0, .int .i64 0], .int .i64 0, .int .i64 2]) w) := by
  go_enter Try.func18, Try.ntmps18
  go_wp2_with fail
  refine (first_nil _).mono ?_
  rintro e w1 ⟨rfl, hF⟩
  have hbz : w1.heap[w.heap.size]? = some (.cells #[.int .i64 0, .int .i64 0, .int .i64 0, .int .i64 0] 33) := hF.obj (obj_new w _) (by simp)
  obtain ⟨r0, r1, r2, r3⟩ := cells4 hbz
  have fz : ∀ j, w1.frozen? ⟨w.heap.size, j, none⟩ = false := fun j => frozen_of_obj hbz j
  have z1 := World.block_lt_of_cell? _ _ r0
  dsimp only at z1
  have H1 := Lib.hid ((((Holds.start w).alloc noneR_stable (.cells #[.int .i64 0, .int .i64 0, .int .i64 0, .int .i64 0] 33)).made noneR_stable hF))
  have HF := Lib.hid (((Frm.refl [] w).alloc (.cells #[.int .i64 0, .int .i64 0, .int .i64 0, .int .i64 0] 33)).trans hF (by simp))
  clear hF hbz
  go_wp2_with fail
  refine bodyPost_world (fun W => (∃ L, Holds w.heap.size w noneR W ((w.heap.size, .cells #[.int .i64 0, .int .i64 0, .int .i64 0, .int .i64 0] 33) :: L)) ∧ Frm [] w W) ⟨⟨[], ((H1.out.refill4 noneR_stable (Nat.le_refl _) (by simp) (.int .i64 0) (.int .i64 0) (.int .i64 0) (.int .i64 0)).refill4 noneR_stable (Nat.le_refl _) (by simp) (.int .i64 0) (.int .i64 0) (.int .i64 0) (.int .i64 0))⟩, ?_⟩ fun W h7 => ?_
  · exact (((((((HF.out.setCell (a := ⟨w.heap.size, 0, none⟩) (.inr (Nat.le_refl _)) _).setCell (a := ⟨w.heap.size, 1, none⟩) (.inr (Nat.le_refl _)) _).setCell (a := ⟨w.heap.size, 2, none⟩) (.inr (Nat.le_refl _)) _).setCell (a := ⟨w.heap.size, 3, none⟩) (.inr (Nat.le_refl _)) _).setCell (a := ⟨w.heap.size, 0, none⟩) (.inr (Nat.le_refl _)) _).setCell (a := ⟨w.heap.size, 1, none⟩) (.inr (Nat.le_refl _)) _).setCell (a := ⟨w.heap.size, 2, none⟩) (.inr (Nat.le_refl _)) _).setCell (a := ⟨w.heap.size, 3, none⟩) (.inr (Nat.le_refl _)) _
  obtain ⟨⟨L, h7⟩, h8⟩ := h7
  obtain ⟨s0, s1, s2, s3⟩ := cells4 (h7.box (k := w.heap.size) (o := .cells #[.int .i64 0, .int .i64 0, .int .i64 0, .int .i64 0] 33) (by simp))
  exact bodyPost_ret (v := .tuple #[.agg #[.int .i64 0, .int .i64 0, .int .i64 0, .int .i64 0], .int .i64 0, .int .i64 2]) (by simp [results, Try.results18, go_sem, s0, s1, s2, s3]) rfl ⟨rfl, h8⟩
set_option maxHeartbeats 400000 in
theorem batch_nil (w : World) : Calls Try.prog 21 #[.pointer none] w (Says (.tuple #[.int .i64 0, .slice none 0 0, .int .i64 2]) w) := by
  go_enter Try.func21, Try.ntmps21
  go_wp2_with fail
  refine (first_nil _).mono ?_
  rintro e w1 ⟨rfl, hF⟩
  have HF := Lib.hid hF
  clear hF
  go_wp2_with fail
  exact bodyPost_ret (v := .tuple #[.int .i64 0, .slice none 0 0, .int .i64 2]) (by simp [results, Try.results21, go_sem]) rfl ⟨rfl, HF.out.alloc _⟩
set_option maxHeartbeats 400000 in
theorem push_nil (w : World) (k : Kv) (v : Int) : Calls Try.prog 17 #[.pointer none, k.val, .int .i64 v] w (Says (.int .i64 2) w) := by
  go_enter Try.func17, Try.ntmps17
  go_wp2
  go_ret
  exact ⟨rfl, (Frm.refl _ _).alloc _⟩
set_option maxHeartbeats 400000 in
theorem len_nil (w : World) : Calls Try.prog 20 #[.pointer none] w (Says (.int .i64 0) w) := by
  go_enter Try.func20, Try.ntmps20
  go_wp2
  go_ret
  exact ⟨rfl, Frm.refl _ _⟩
set_option maxHeartbeats 400000 in
theorem copy_nil (w : World) : Calls Try.prog 14 #[.pointer none] w (Says (.pointer none) w) := by
  go_enter Try.func14, Try.ntmps14
  go_wp2
  go_ret
  exact ⟨rfl, Frm.refl _ _⟩
set_option maxHeartbeats 400000 in
theorem all_nil (w : World) : Calls Try.prog 15 #[.pointer none] w (Says (.func (.func 32) #[] #[]) w) := by
  go_enter Try.func15, Try.ntmps15
  go_wp2
  go_ret
  exact ⟨rfl, Frm.refl _ _⟩
end Go.Proofs.Ytclaicpnjllhjaa
