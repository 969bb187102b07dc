/- What comes in to a law of rings: calls, numbers. -/
import Derived.Test.YthamnalpkjjnlaaRingNilW
import Derived.Test.YthamnalpkjjnlaaOpen2
namespace Go.Proofs.Ythamnalpkjjnlaa
open Go.RowKit Go.ChangeShapes Go.WideShapes Go.ChangeAt

theorem own : ownKnob Try.prog.godebug = none := by kernel_rfl
theorem laidOut : laidOutB Try.prog = true := by kernel_rfl

theorem plain_Int : Plain Try.prog 3 [.int .i64] := plain_int Try.underlying3
theorem plain_Op : Plain Try.prog 35 [.int .i64, .int .i64, .int .i64] := by
  refine plain_struct [[.int .i64], [.int .i64], [.int .i64]] Try.underlying35 (by kernel_rfl) rfl ?_
  intro i f ks h1 h2
  match i with
  | 0 => cases h1; cases h2; exact ⟨plain_Int, rfl, by kernel_rfl⟩
  | 1 => cases h1; cases h2; exact ⟨plain_Int, rfl, by kernel_rfl⟩
  | 2 => cases h1; cases h2; exact ⟨plain_Int, rfl, by kernel_rfl⟩
  | i + 3 => simp at h2
def opEnc (o : OpV) : List Value := o.cells
theorem opEnc_len (o : OpV) : (opEnc o).length = 3 := rfl
/-- Its time is a number of the machine's. -/
def OpV.Wf (o : OpV) : Prop := (Lit.int .i64 o.at_).wf = true
theorem makes_Op : Makes [.int .i64, .int .i64, .int .i64] opEnc OpV.Wf := fun vs h => by
  obtain ⟨ns, rfl, hl, hw⟩ := fits_ints (n := 3) h
  match ns, hl with
  | [x, a, y], _ => exact ⟨⟨x, a, y⟩, rfl, hw a (by simp)⟩
section
variable {H : Type} {enc : TypeId × Value → H} {w : World} {d : DataW H} {ps : List MemPlace} {base : Nat} {spare : Nat → Bool} {held : Bool}
theorem open_ops {a : Option Addr} {n cap : Nat} (h : DataW.Trod enc Try.prog w base spare held 22 (.slice a n cap) d ps) : ∃ l, SlAt opEnc 3 w a n cap l ∧ ∀ o ∈ l, o.Wf :=
  open_slAt (ks := [.int .i64, .int .i64, .int .i64]) Try.underlying22 (by kernel_rfl) plain_Op (by decide) makes_Op h
theorem open_op {r : Reach} {b0 : Nat} {v : Value} (hv : Value.okWide Try.prog w r b0 35 v) (h : DataW.Trod enc Try.prog w base spare held 35 v d ps) : ∃ o : OpV, v = o.val ∧ o.Wf := by
  obtain ⟨o, rfl, ho⟩ := open_agg Try.underlying35 plain_Op makes_Op hv h
  exact ⟨o, rfl, ho⟩
end
end Go.Proofs.Ythamnalpkjjnlaa
