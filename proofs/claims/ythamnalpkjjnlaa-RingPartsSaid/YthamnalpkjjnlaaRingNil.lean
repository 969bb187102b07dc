/- A nil ring has nothing: the calls, one by one. -/
import Derived.Test.YthamnalpkjjnlaaRingAwake
namespace Go.Proofs.Ythamnalpkjjnlaa
open Go.RowKit

set_option maxHeartbeats 400000 in
theorem len_nil (w : World) : Calls Try.prog 19 #[.pointer none] w fun e w' => e = .returned (.int .i64 0) ∧ w' = w := by
  go_enter Try.func19, Try.ntmps19
  go_wp2
  go_ret
  exact ⟨rfl, rfl⟩
set_option maxHeartbeats 400000 in
theorem room_nil (w : World) : Calls Try.prog 20 #[.pointer none] w (Says (.int .i64 0) w) := by
  go_enter Try.func20, Try.ntmps20
  go_wp2
  go_ret
  exact ⟨rfl, Frm.refl _ _⟩
abbrev nilT : Value := .tuple #[.int .i64 0, .int .i64 0, .int .i64 2]
set_option maxHeartbeats 400000 in
theorem tell_nil (w : World) (n : Int) : Calls Try.prog 40 #[.pointer none, .int .i64 n] w (Says nilT w) := by
  go_enter Try.func40, Try.ntmps40
  go_wp2_with fail
  exact bodyPost_ret (v := nilT) (by simp [results, Try.results40, go_sem]) rfl ⟨rfl, Frm.refl _ _⟩
set_option maxHeartbeats 400000 in
theorem first_nil (w : World) : Calls Try.prog 23 #[.pointer none] w (Says nilT w) := by
  go_enter Try.func23, Try.ntmps23
  go_wp2_with fail
  refine (len_nil _).mono ?_
  rintro e w1 ⟨rfl, rfl⟩
  go_wp2_with fail
  refine (tell_nil _ _).mono ?_
  rintro e w2 ⟨rfl, hF⟩
  have HF := Lib.hid hF
  clear hF
  dsimp only [nilT]
  go_wp2_with fail
  exact bodyPost_ret (v := nilT) (by simp [results, Try.results23, go_sem]) rfl ⟨rfl, HF.out⟩
set_option maxHeartbeats 400000 in
theorem last_nil (w : World) : Calls Try.prog 24 #[.pointer none] w (Says nilT w) := by
  go_enter Try.func24, Try.ntmps24
  go_wp2_with fail
  refine (len_nil _).mono ?_
  rintro e w1 ⟨rfl, rfl⟩
  go_wp2_with fail
  refine (tell_nil _ _).mono ?_
  rintro e w2 ⟨rfl, hF⟩
  have HF := Lib.hid hF
  clear hF
  dsimp only [nilT]
  go_wp2_with fail
  exact bodyPost_ret (v := nilT) (by simp [results, Try.results24, go_sem]) rfl ⟨rfl, HF.out⟩
set_option maxHeartbeats 1000000 in
theorem ahead_nil (w : World) (g : FuncId) (bx : Nat) : Calls Try.prog 35 #[.pointer none, .func (.func g) #[] #[.pointer (some ⟨bx, 0, none⟩)]] w (Says (.int .i64 0) w) := by
  have HF := Lib.hid (((Frm.refl [] w).alloc (.cells #[.pointer none] 23)).alloc (.cells #[.func (.func g) #[] #[.pointer (some ⟨bx, 0, none⟩)]] 69))
  have hs := fun (W : World) (lb rb : Nat) => search_says (w := W) (n := 0) (by omega) (lb := lb) (rb := rb) (fun _ => false) (fun w' hf i hi => by omega) (fun i j _ hj => by omega)
  have Hs := Lib.hid hs
  clear hs
  go_enter Try.func35, Try.ntmps35
  go_wp2_with fail
  refine (len_nil _).mono ?_
  rintro e w1 ⟨rfl, rfl⟩
  go_wp2_with fail
  refine (Hs.out _ _ _).mono ?_
  rintro e w2 ⟨⟨k, rfl, hk, _⟩, hF⟩
  obtain rfl : k = 0 := by omega
  have HF2 := Lib.hid (HF.out.trans hF (by simp))
  clear hF hk
  go_wp2_with fail
  go_ret
  exact ⟨rfl, HF2.out⟩
set_option maxHeartbeats 400000 in
theorem upto_nil (w : World) (t : Int) : Calls Try.prog 21 #[.pointer none, .int .i64 t] w (Says nilT w) := by
  have HF := Lib.hid ((Frm.refl [] w).alloc (.cells #[.int .i64 t] 3))
  go_enter Try.func21, Try.ntmps21
  go_wp2_with fail
  refine (ahead_nil _ _ _).mono ?_
  rintro e w1 ⟨rfl, hF⟩
  have HF1 := Lib.hid (HF.out.trans hF (by simp))
  clear hF HF
  go_wp2_with fail
  refine (tell_nil _ _).mono ?_
  rintro e w2 ⟨rfl, hF⟩
  have HF2 := Lib.hid (HF1.out.trans hF (by simp))
  clear hF HF1
  dsimp only [nilT]
  go_wp2_with fail
  exact bodyPost_ret (v := nilT) (by simp [results, Try.results21, go_sem]) rfl ⟨rfl, HF2.out⟩
set_option maxHeartbeats 400000 in
theorem push_nil (w : World) (t v : Int) : Calls Try.prog 22 #[.pointer none, .int .i64 t, .int .i64 v] w (Says (.int .i64 2) w) := by
  go_enter Try.func22, Try.ntmps22
  go_wp2
  go_ret
  exact ⟨rfl, Frm.refl _ _⟩
set_option maxHeartbeats 400000 in
theorem back_nil (w : World) (t : Int) : Calls Try.prog 17 #[.pointer none, .int .i64 t] w (Says (.slice none 0 0) w) := by
  go_enter Try.func17, Try.ntmps17
  go_wp2
  go_ret
  exact ⟨rfl, (Frm.refl _ _).alloc _⟩
set_option maxHeartbeats 400000 in
theorem front_nil (w : World) (t : Int) : Calls Try.prog 18 #[.pointer none, .int .i64 t] w (Says (.slice none 0 0) w) := by
  go_enter Try.func18, Try.ntmps18
  go_wp2
  go_ret
  exact ⟨rfl, (Frm.refl _ _).alloc _⟩
set_option maxHeartbeats 400000 in
theorem copy_nil (w : World) : Calls Try.prog 14 #[.pointer none] w (Says (.pointer none) w) := by
  go_enter Try.func14, Try.ntmps14
  go_wp2
  go_ret
  exact ⟨rfl, Frm.refl _ _⟩
set_option maxHeartbeats 400000 in
theorem all_nil (w : World) : Calls Try.prog 15 #[.pointer none] w (Says (.func (.func 32) #[] #[]) w) := by
  go_enter Try.func15, Try.ntmps15
  go_wp2
  go_ret
  exact ⟨rfl, Frm.refl _ _⟩
end Go.Proofs.Ythamnalpkjjnlaa
