/- A nil slab has nothing: the calls, one by one. -/
import Derived.Test.YtdnjmpmgghpeoaaSlabAwake
namespace Go.Proofs.Ytdnjmpmgghpeoaa
open Go.RowKit

set_option maxHeartbeats 400000 in
theorem take_nil (w : World) (c v : Int) (u : Bool) :
    Calls Try.prog 21 #[.pointer none, .int .i64 c, .bool u, .int .i64 v] w (Made (.tuple #[.agg #[.int .i64 0, .int .i64 0], .int .i64 2]) w) := by
  go_enter Try.func21, Try.ntmps21
  go_wp2
  exact bodyPost_ret (v := .tuple #[.agg #[.int .i64 0, .int .i64 0], .int .i64 2]) (by simp [results, Try.results21, go_sem]) rfl ⟨rfl, (Frm.refl _ _).alloc _⟩

set_option maxHeartbeats 400000 in
theorem get_nil (w : World) (x t : Int) : Calls Try.prog 24 #[.pointer none, .agg #[.int .i64 x, .int .i64 t]] w (Made (.tuple #[.int .i64 0, .int .i64 2]) w) := by
  go_enter Try.func24, Try.ntmps24
  go_wp2_with fail
  refine (find_nil x t _).mono ?_
  rintro e w1 ⟨rfl, hF⟩
  go_wp2
  go_ret2
  exact ⟨rfl, ((Frm.refl _ _).alloc _).trans hF (by simp)⟩
set_option maxHeartbeats 400000 in
theorem free_nil (w : World) (x t : Int) : Calls Try.prog 22 #[.pointer none, .agg #[.int .i64 x, .int .i64 t]] w (Made (.tuple #[.int .i64 0, .int .i64 2]) w) := by
  go_enter Try.func22, Try.ntmps22
  go_wp2_with fail
  refine (find_nil x t _).mono ?_
  rintro e w1 ⟨rfl, hF⟩
  go_wp2
  go_ret2
  exact ⟨rfl, ((Frm.refl _ _).alloc _).trans hF (by simp)⟩
set_option maxHeartbeats 400000 in
theorem class_nil (w : World) (x t : Int) : Calls Try.prog 26 #[.pointer none, .agg #[.int .i64 x, .int .i64 t]] w (Made (.tuple #[.int .i64 0, .int .i64 2]) w) := by
  go_enter Try.func26, Try.ntmps26
  go_wp2_with fail
  refine (find_nil x t _).mono ?_
  rintro e w1 ⟨rfl, hF⟩
  go_wp2
  go_ret2
  exact ⟨rfl, ((Frm.refl _ _).alloc _).trans hF (by simp)⟩
set_option maxHeartbeats 400000 in
theorem set_nil (w : World) (x t v : Int) : Calls Try.prog 25 #[.pointer none, .agg #[.int .i64 x, .int .i64 t], .int .i64 v] w (Made (.int .i64 2) w) := by
  go_enter Try.func25, Try.ntmps25
  go_wp2_with fail
  refine (find_nil x t _).mono ?_
  rintro e w1 ⟨rfl, hF⟩
  go_wp2
  go_ret
  exact ⟨rfl, ((Frm.refl _ _).alloc _).trans hF (by simp)⟩
set_option maxHeartbeats 400000 in
theorem live_nil (w : World) (a : Option Addr) (n c : Nat) : Calls Try.prog 23 #[.pointer none, .slice a n c] w (Made (.int .i64 0) w) := by
  go_enter Try.func23, Try.ntmps23
  go_wp2
  go_ret
  exact ⟨rfl, Frm.refl _ _⟩
set_option maxHeartbeats 400000 in
theorem left_nil (w : World) : Calls Try.prog 20 #[.pointer none] w (Made (.int .i64 0) w) := by
  go_enter Try.func20, Try.ntmps20
  go_wp2
  go_ret
  exact ⟨rfl, Frm.refl _ _⟩
set_option maxHeartbeats 400000 in
theorem copy_nil (w : World) : Calls Try.prog 15 #[.pointer none] w (Made (.pointer none) w) := by
  go_enter Try.func15, Try.ntmps15
  go_wp2
  go_ret
  exact ⟨rfl, Frm.refl _ _⟩
set_option maxHeartbeats 400000 in
theorem all_nil (w : World) : Calls Try.prog 16 #[.pointer none] w (Made (.func (.func 32) #[] #[]) w) := by
  go_enter Try.func16, Try.ntmps16
  go_wp2
  go_ret
  exact ⟨rfl, Frm.refl _ _⟩
end Go.Proofs.Ytdnjmpmgghpeoaa
