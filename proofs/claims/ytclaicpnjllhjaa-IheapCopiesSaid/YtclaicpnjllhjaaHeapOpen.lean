/- What comes in to a law of heaps: keys, calls. -/
import Derived.Test.YtclaicpnjllhjaaHeapNilW
import Derived.Test.YtclaicpnjllhjaaOpen2
namespace Go.Proofs.Ytclaicpnjllhjaa
open Go.RowKit Go.ChangeShapes Go.WideShapes Go.ChangeAt

theorem own : ownKnob Try.prog.godebug = none := by kernel_rfl

theorem plain_Int : Plain Try.prog 3 [.int .i64] := plain_int Try.underlying3
theorem plain_Key : Plain Try.prog 33 [.int .i64, .int .i64, .int .i64, .int .i64] := by
  refine plain_struct [[.int .i64], [.int .i64], [.int .i64], [.int .i64]] Try.underlying33 (by kernel_rfl) rfl ?_
  intro i f ks h1 h2
  match i with
  | 0 => cases h1; cases h2; exact ⟨plain_Int, rfl, by kernel_rfl⟩
  | 1 => cases h1; cases h2; exact ⟨plain_Int, rfl, by kernel_rfl⟩
  | 2 => cases h1; cases h2; exact ⟨plain_Int, rfl, by kernel_rfl⟩
  | 3 => cases h1; cases h2; exact ⟨plain_Int, rfl, by kernel_rfl⟩
  | i + 4 => simp at h2
theorem plain_Op : Plain Try.prog 35 [.int .i64, .int .i64, .int .i64, .int .i64, .int .i64, .int .i64] := by
  refine plain_struct [[.int .i64], [.int .i64, .int .i64, .int .i64, .int .i64], [.int .i64]] Try.underlying35 (by kernel_rfl) rfl ?_
  intro i f ks h1 h2
  match i with
  | 0 => cases h1; cases h2; exact ⟨plain_Int, rfl, by kernel_rfl⟩
  | 1 => cases h1; cases h2; exact ⟨plain_Key, rfl, by kernel_rfl⟩
  | 2 => cases h1; cases h2; exact ⟨plain_Int, rfl, by kernel_rfl⟩
  | i + 3 => simp at h2
def keyEnc (k : Kv) : List Value := [.int .i64 k.at_, .int .i64 k.src, .int .i64 k.sent, .int .i64 k.no]
theorem keyEnc_len (k : Kv) : (keyEnc k).length = 4 := rfl
def opEnc (o : OpV) : List Value := o.cells
theorem opEnc_len (o : OpV) : (opEnc o).length = 6 := rfl
theorem makes_Key : Makes [.int .i64, .int .i64, .int .i64, .int .i64] keyEnc Kv.Wf := fun vs h => by
  obtain ⟨ns, rfl, hl, hw⟩ := fits_ints (n := 4) h
  match ns, hl with
  | [a, b, c, d], _ => exact ⟨⟨a, b, c, d⟩, rfl, ⟨hw a (by simp), hw b (by simp), hw c (by simp), hw d (by simp)⟩⟩
theorem makes_Op : Makes [.int .i64, .int .i64, .int .i64, .int .i64, .int .i64, .int .i64] opEnc (fun o => o.k.Wf) := fun vs h => by
  obtain ⟨ns, rfl, hl, hw⟩ := fits_ints (n := 6) h
  match ns, hl with
  | [x, a, b, c, d, y], _ => exact ⟨⟨x, ⟨a, b, c, d⟩, y⟩, rfl, ⟨hw a (by simp), hw b (by simp), hw c (by simp), hw d (by simp)⟩⟩
section
variable {H : Type} {enc : TypeId × Value → H} {w : World} {d : DataW H} {ps : List MemPlace} {base : Nat} {spare : Nat → Bool} {held : Bool}
theorem open_keys {a : Option Addr} {n cap : Nat} (h : DataW.Trod enc Try.prog w base spare held 44 (.slice a n cap) d ps) : ∃ l, SlAt keyEnc 4 w a n cap l ∧ ∀ k ∈ l, k.Wf :=
  open_slAt (ks := [.int .i64, .int .i64, .int .i64, .int .i64]) Try.underlying44 (by kernel_rfl) plain_Key (by decide) makes_Key h
theorem open_ops {a : Option Addr} {n cap : Nat} (h : DataW.Trod enc Try.prog w base spare held 22 (.slice a n cap) d ps) : ∃ l, SlAt opEnc 6 w a n cap l ∧ ∀ o ∈ l, o.k.Wf :=
  open_slAt (ks := [.int .i64, .int .i64, .int .i64, .int .i64, .int .i64, .int .i64]) Try.underlying22 (by kernel_rfl) plain_Op (by decide) makes_Op h
theorem open_op {r : Reach} {b0 : Nat} {v : Value} (hv : Value.okWide Try.prog w r b0 35 v) (h : DataW.Trod enc Try.prog w base spare held 35 v d ps) : ∃ o : OpV, v = o.val ∧ o.k.Wf := by
  obtain ⟨o, rfl, ho⟩ := open_agg Try.underlying35 plain_Op makes_Op hv h
  exact ⟨o, rfl, ho⟩
theorem open_key {r : Reach} {b0 : Nat} {v : Value} (hv : Value.okWide Try.prog w r b0 33 v) (h : DataW.Trod enc Try.prog w base spare held 33 v d ps) : ∃ k : Kv, v = k.val ∧ k.Wf := by
  obtain ⟨o, rfl, ho⟩ := open_agg Try.underlying33 plain_Key makes_Key hv h
  exact ⟨o, rfl, ho⟩
end
end Go.Proofs.Ytclaicpnjllhjaa
