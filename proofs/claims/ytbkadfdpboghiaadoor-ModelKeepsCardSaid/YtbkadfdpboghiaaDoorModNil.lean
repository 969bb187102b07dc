/- ModelNil: a nil model has nothing. -/
import Derived.Test.YtbkadfdpboghiaaDoorModQ
namespace Go.Proofs.YtbkadfdpboghiaaDoor
open Go.RowKit Go.Maps

/-- A law holds, and what came in is as it was. -/
abbrev LawTrue (w : World) (e : Ending) (w' : World) : Prop := e = .returned (.bool true) ∧ Below w.heap.size w w'
set_option maxHeartbeats 4000000 in
set_option maxRecDepth 100000 in
theorem nil_any {w : World} (hO : Ops w) (lp : Int) : Calls Tryd.prog 6 #[.int .i64 lp] w (LawTrue w) := by
  have HO := Lib.hid hO
  have gs : ∀ W, (binOp BinOp.eql 47 (.agg #[.int .i64 0, .int .i64 0, .int .i64 0, .int .i64 0]) (.agg #[.int .i64 0, .int .i64 0, .int .i64 0, .int .i64 0])).run Tryd.prog W = .ok (.bool true) W := fun W => st_eql ⟨0, 0, 0, 0, 0⟩ W
  have g2 := st_guard
  clear hO
  go_enter Tryd.func6, Tryd.ntmps6
  go_wp2_with fail
  refine (lps_nil _).mono ?_
  rintro e w1 ⟨rfl, h1⟩
  obtain rfl := h1
  go_wp2_with fail
  refine (first_nil lp _).mono ?_
  rintro e w2 ⟨rfl, hF⟩
  have HF := Lib.hid hF
  clear hF
  go_wp2_with fail
  refine (program_nil lp _).mono ?_
  rintro e w3 ⟨rfl, h1⟩
  obtain rfl := h1
  go_wp2_with fail
  refine (events_nil _).mono ?_
  rintro e w3 ⟨rfl, h1⟩
  obtain rfl := h1
  go_wp2_with fail
  refine (end_nil _).mono ?_
  rintro e w3 ⟨rfl, h1⟩
  obtain rfl := h1
  go_wp2_with fail
  refine (fuel_nil _).mono ?_
  rintro e w3 ⟨rfl, h1⟩
  obtain rfl := h1
  go_wp2_with fail
  refine (fan_nil _).mono ?_
  rintro e w3 ⟨rfl, h1⟩
  obtain rfl := h1
  go_wp2_with fail
  refine (awake_any (HO.out.frm HF.out)).mono ?_
  rintro e w4 ⟨rfl, hF⟩
  have HF2 := Lib.hid (HF.out.trans (T := []) hF (by simp))
  clear hF
  go_wp2_with fail
  go_ret
  exact ⟨rfl, HF2.out.below (Nat.le_refl _) (by simp)⟩
end Go.Proofs.YtbkadfdpboghiaaDoor
