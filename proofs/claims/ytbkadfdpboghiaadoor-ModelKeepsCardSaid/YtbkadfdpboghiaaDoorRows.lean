/-
  NARROWER THAN 'FOR EVERY INPUT', by the rows' own cells (each row's printed sentence says how): ModelChecks: laid · ModelKeeps: laid · ModelEvents: laid · ModelNil: laid · ModelSame: laid.
  DERIVED. THE GIVEN ROWS OF THIS SEAT. 5 by the template 'for every input the law returns true; each argument reads behind the call as it read before'; 0 by the template 'total and deterministic' (their statements: YtbkadfdpboghiaaDoorTotals.lean).
  GIVEN WITH THE SEED: the statements are not yours to turn. If you find one false, say at which input.
  Laid BY PROGRAM, IN A SANDBOX (cutbox-rows.mjs): the forced cells as the released guide's own fill.sh prints them over the translation ac5c9c8be372d621… (all of the seat's roots in one cut). By AI agents, Wed Nov 11 2026. No macro, syntax, notation, axiom, sorry.
-/
import Derived.Test.YtbkadfdpboghiaaDoorChecked
import GoSem.Claim
import GoSem.ClaimJoined
import GoSem.ClaimMapViews
import Derived.JoinedTies
import Derived.KernelRfl
namespace Go.Proofs.YtbkadfdpboghiaaDoor
/- THE CELL 'sum', in the pinned program and in every row, IS THE sha256 OF THE DUMP (.gsa) THAT YtbkadfdpboghiaaDoorProg.lean LOADS. Nothing in Lean hashes anything: it is a label: what it is worth is what the hold of that sum in a sandbox is worth. -/
noncomputable def Tryd.pinned : Pinned := { name := "ytbkadfdpboghiaadoor", sum := "ac5c9c8be372d6212258d39a98bc01c1111c9878a1f6d4a82a171a56d1c4525d", checked := Tryd.checked }
namespace Rows
def none {H : Type} : Left H := { results := [], args := [] }

/- WHAT THE LISTED PACKAGE-LEVEL VARIABLES READ AS WHEN THE CALL BEGINS. Each datum BY PROGRAM (the guide's laid-datum.mjs) off the statement by which the dump's own 'gosem.cut.vars' lays the variable. In a bare row this is a premise. The card (YtbkadfdpboghiaaDoorCards.lean) ties it to the program's text. -/
def laid_boomerang_code_ops {H : Type} : DataW H := .agg [.agg [.agg [.lit (.string []), .lit (.int .i64 0)], .lit (.int .i64 0)], .agg [.agg [.lit (.string [115, 101, 116]), .lit (.int .i64 2)], .lit (.int .i64 4)], .agg [.agg [.lit (.string [109, 111, 118, 101]), .lit (.int .i64 2)], .lit (.int .i64 1)], .agg [.agg [.lit (.string [97, 100, 100]), .lit (.int .i64 3)], .lit (.int .i64 1)], .agg [.agg [.lit (.string [115, 117, 98]), .lit (.int .i64 3)], .lit (.int .i64 1)], .agg [.agg [.lit (.string [109, 117, 108]), .lit (.int .i64 3)], .lit (.int .i64 1)], .agg [.agg [.lit (.string [109, 111, 100]), .lit (.int .i64 3)], .lit (.int .i64 1)], .agg [.agg [.lit (.string [108, 101, 115, 115]), .lit (.int .i64 3)], .lit (.int .i64 1)], .agg [.agg [.lit (.string [106, 117, 109, 112]), .lit (.int .i64 1)], .lit (.int .i64 2)], .agg [.agg [.lit (.string [122, 101, 114, 111]), .lit (.int .i64 2)], .lit (.int .i64 2)], .agg [.agg [.lit (.string [110, 111, 119]), .lit (.int .i64 1)], .lit (.int .i64 1)], .agg [.agg [.lit (.string [107, 105, 110, 100]), .lit (.int .i64 1)], .lit (.int .i64 1)], .agg [.agg [.lit (.string [100, 97, 116, 97]), .lit (.int .i64 1)], .lit (.int .i64 1)], .agg [.agg [.lit (.string [115, 101, 108, 102]), .lit (.int .i64 1)], .lit (.int .i64 1)], .agg [.agg [.lit (.string [115, 101, 110, 100]), .lit (.int .i64 4)], .lit (.int .i64 3)], .agg [.agg [.lit (.string [115, 116, 111, 112]), .lit (.int .i64 0)], .lit (.int .i64 0)]]

/-- 'boomeranglaw07.ModelChecks': WHATEVER THE INPUT: true; the input reads as it did. -/
def modelChecksSpec : ChangeSpec := { name := "modelChecks", fn := fun _ => fun
  | [d1, d2] => { results := [.lit (.bool true)], args := [d1, d2] }
  | _ => none }
def modelChecksRow : OpenClaim := { program := "ytbkadfdpboghiaadoor", sum := "ac5c9c8be372d6212258d39a98bc01c1111c9878a1f6d4a82a171a56d1c4525d", func := "boomerang/boomeranglaw07.ModelChecks", spec := "modelChecks", unfollowed := true, recurses := true, named := ["boomerang/code.ops"], apart := false, laid := [("boomerang/code.ops", laid_boomerang_code_ops)] }
def ModelChecksSaid : Prop := modelChecksRow.holds Tryd.pinned (OpenSpec.ofChange modelChecksSpec)

/-- ITS FALSE NEIGHBOUR: 'it returns false'. Refute it at one input. -/
def modelChecksWrong : ChangeSpec := { name := "modelChecks", fn := fun _ => fun
  | [d1, d2] => { results := [.lit (.bool false)], args := [d1, d2] }
  | _ => none }
def ModelChecksWrongFalsely : Prop := modelChecksRow.holds Tryd.pinned (OpenSpec.ofChange modelChecksWrong)

/-- 'boomeranglaw07.ModelKeeps': WHATEVER THE INPUT: true; the input reads as it did. -/
def modelKeepsSpec : ChangeSpec := { name := "modelKeeps", fn := fun _ => fun
  | [d] => { results := [.lit (.bool true)], args := [d] }
  | _ => none }
def modelKeepsRow : OpenClaim := { program := "ytbkadfdpboghiaadoor", sum := "ac5c9c8be372d6212258d39a98bc01c1111c9878a1f6d4a82a171a56d1c4525d", func := "boomerang/boomeranglaw07.ModelKeeps", spec := "modelKeeps", unfollowed := true, recurses := true, named := ["boomerang/code.ops"], apart := false, laid := [("boomerang/code.ops", laid_boomerang_code_ops)] }
def ModelKeepsSaid : Prop := modelKeepsRow.holds Tryd.pinned (OpenSpec.ofChange modelKeepsSpec)

/-- ITS FALSE NEIGHBOUR: 'it returns false'. Refute it at one input. -/
def modelKeepsWrong : ChangeSpec := { name := "modelKeeps", fn := fun _ => fun
  | [d] => { results := [.lit (.bool false)], args := [d] }
  | _ => none }
def ModelKeepsWrongFalsely : Prop := modelKeepsRow.holds Tryd.pinned (OpenSpec.ofChange modelKeepsWrong)

/-- 'boomeranglaw07.ModelEvents': WHATEVER THE INPUT: true; the input reads as it did. -/
def modelEventsSpec : ChangeSpec := { name := "modelEvents", fn := fun _ => fun
  | [d] => { results := [.lit (.bool true)], args := [d] }
  | _ => none }
def modelEventsRow : OpenClaim := { program := "ytbkadfdpboghiaadoor", sum := "ac5c9c8be372d6212258d39a98bc01c1111c9878a1f6d4a82a171a56d1c4525d", func := "boomerang/boomeranglaw07.ModelEvents", spec := "modelEvents", unfollowed := true, recurses := true, named := ["boomerang/code.ops"], apart := false, laid := [("boomerang/code.ops", laid_boomerang_code_ops)] }
def ModelEventsSaid : Prop := modelEventsRow.holds Tryd.pinned (OpenSpec.ofChange modelEventsSpec)

/-- ITS FALSE NEIGHBOUR: 'it returns false'. Refute it at one input. -/
def modelEventsWrong : ChangeSpec := { name := "modelEvents", fn := fun _ => fun
  | [d] => { results := [.lit (.bool false)], args := [d] }
  | _ => none }
def ModelEventsWrongFalsely : Prop := modelEventsRow.holds Tryd.pinned (OpenSpec.ofChange modelEventsWrong)

/-- 'boomeranglaw07.ModelNil': WHATEVER THE INPUT: true; the input reads as it did. -/
def modelNilSpec : ChangeSpec := { name := "modelNil", fn := fun _ => fun
  | [d] => { results := [.lit (.bool true)], args := [d] }
  | _ => none }
def modelNilRow : OpenClaim := { program := "ytbkadfdpboghiaadoor", sum := "ac5c9c8be372d6212258d39a98bc01c1111c9878a1f6d4a82a171a56d1c4525d", func := "boomerang/boomeranglaw07.ModelNil", spec := "modelNil", unfollowed := true, recurses := true, named := ["boomerang/code.ops"], apart := false, laid := [("boomerang/code.ops", laid_boomerang_code_ops)] }
def ModelNilSaid : Prop := modelNilRow.holds Tryd.pinned (OpenSpec.ofChange modelNilSpec)

/-- ITS FALSE NEIGHBOUR: 'it returns false'. Refute it at one input. -/
def modelNilWrong : ChangeSpec := { name := "modelNil", fn := fun _ => fun
  | [d] => { results := [.lit (.bool false)], args := [d] }
  | _ => none }
def ModelNilWrongFalsely : Prop := modelNilRow.holds Tryd.pinned (OpenSpec.ofChange modelNilWrong)

/-- 'boomeranglaw07.ModelSame': WHATEVER THE INPUT: true; the input reads as it did. -/
def modelSameSpec : ChangeSpec := { name := "modelSame", fn := fun _ => fun
  | [d1, d2] => { results := [.lit (.bool true)], args := [d1, d2] }
  | _ => none }
def modelSameRow : OpenClaim := { program := "ytbkadfdpboghiaadoor", sum := "ac5c9c8be372d6212258d39a98bc01c1111c9878a1f6d4a82a171a56d1c4525d", func := "boomerang/boomeranglaw07.ModelSame", spec := "modelSame", unfollowed := true, recurses := true, named := ["boomerang/code.ops"], apart := false, laid := [("boomerang/code.ops", laid_boomerang_code_ops)] }
def ModelSameSaid : Prop := modelSameRow.holds Tryd.pinned (OpenSpec.ofChange modelSameSpec)

/-- ITS FALSE NEIGHBOUR: 'it returns false'. Refute it at one input. -/
def modelSameWrong : ChangeSpec := { name := "modelSame", fn := fun _ => fun
  | [d1, d2] => { results := [.lit (.bool false)], args := [d1, d2] }
  | _ => none }
def ModelSameWrongFalsely : Prop := modelSameRow.holds Tryd.pinned (OpenSpec.ofChange modelSameWrong)

/- THE SECOND FORM. 'bulk': how many values and letters a reading holds, each counted each time it is reached (what is shared counts as often as it is met; a slice's spare places count too). A statement '..UptoSaid' is the law's where the arguments, and the package variables that the reading takes, are together of bulk at most 1048576: NARROWER than '..Said'. Prove '..Said' where nothing that the law and all that it calls make is longer than what came in: it says more and counts as full. Else prove '..UptoSaid'. A law counts once. -/
mutual
def uptoBulk {H : Type} : DataW H → Nat
  | .lit (.string bytes) => bytes.length + 1
  | .lit _ => 1
  | .nil => 1
  | .ptr d => uptoBulk d + 1
  | .slice elems spare => uptoBulkAll elems + uptoBulkAll spare + 1
  | .agg parts => uptoBulkAll parts + 1
  | .iface _ d => uptoBulk d + 1
  | .map entries => uptoBulkEntries entries + 1
  | .held _ => 1
def uptoBulkAll {H : Type} : List (DataW H) → Nat
  | [] => 0
  | d :: r => uptoBulk d + uptoBulkAll r
def uptoBulkEntries {H : Type} : List (Lit × DataW H) → Nat
  | [] => 0
  | x :: r => uptoBulkEntry x + uptoBulkEntries r
def uptoBulkEntry {H : Type} : Lit × DataW H → Nat
  | (.string bytes, d) => bytes.length + uptoBulk d + 1
  | (_, d) => uptoBulk d + 1
 end
def uptoSmall : (H : Type) → List (DataW H) → Bool := fun _ ds => decide (uptoBulkAll ds ≤ 1048576)
def OpenSpec.upto (s : _root_.Go.ChangeSpec) : _root_.Go.OpenSpec := { _root_.Go.OpenSpec.ofChange s with cond := some uptoSmall }

/-- 'boomeranglaw07.ModelChecks', WHERE WHAT IT READS IS OF BULK AT MOST 1048576: true; the input reads as it did. -/
def modelChecksUptoRow : OpenClaim := { program := "ytbkadfdpboghiaadoor", sum := "ac5c9c8be372d6212258d39a98bc01c1111c9878a1f6d4a82a171a56d1c4525d", func := "boomerang/boomeranglaw07.ModelChecks", spec := "modelChecks", unfollowed := true, recurses := true, named := ["boomerang/code.ops"], apart := false, laid := [("boomerang/code.ops", laid_boomerang_code_ops)], narrowed := true }
def ModelChecksUptoSaid : Prop := modelChecksUptoRow.holds Tryd.pinned (OpenSpec.upto modelChecksSpec)

/-- 'boomeranglaw07.ModelKeeps', WHERE WHAT IT READS IS OF BULK AT MOST 1048576: true; the input reads as it did. -/
def modelKeepsUptoRow : OpenClaim := { program := "ytbkadfdpboghiaadoor", sum := "ac5c9c8be372d6212258d39a98bc01c1111c9878a1f6d4a82a171a56d1c4525d", func := "boomerang/boomeranglaw07.ModelKeeps", spec := "modelKeeps", unfollowed := true, recurses := true, named := ["boomerang/code.ops"], apart := false, laid := [("boomerang/code.ops", laid_boomerang_code_ops)], narrowed := true }
def ModelKeepsUptoSaid : Prop := modelKeepsUptoRow.holds Tryd.pinned (OpenSpec.upto modelKeepsSpec)

/-- 'boomeranglaw07.ModelEvents', WHERE WHAT IT READS IS OF BULK AT MOST 1048576: true; the input reads as it did. -/
def modelEventsUptoRow : OpenClaim := { program := "ytbkadfdpboghiaadoor", sum := "ac5c9c8be372d6212258d39a98bc01c1111c9878a1f6d4a82a171a56d1c4525d", func := "boomerang/boomeranglaw07.ModelEvents", spec := "modelEvents", unfollowed := true, recurses := true, named := ["boomerang/code.ops"], apart := false, laid := [("boomerang/code.ops", laid_boomerang_code_ops)], narrowed := true }
def ModelEventsUptoSaid : Prop := modelEventsUptoRow.holds Tryd.pinned (OpenSpec.upto modelEventsSpec)

/-- 'boomeranglaw07.ModelNil', WHERE WHAT IT READS IS OF BULK AT MOST 1048576: true; the input reads as it did. -/
def modelNilUptoRow : OpenClaim := { program := "ytbkadfdpboghiaadoor", sum := "ac5c9c8be372d6212258d39a98bc01c1111c9878a1f6d4a82a171a56d1c4525d", func := "boomerang/boomeranglaw07.ModelNil", spec := "modelNil", unfollowed := true, recurses := true, named := ["boomerang/code.ops"], apart := false, laid := [("boomerang/code.ops", laid_boomerang_code_ops)], narrowed := true }
def ModelNilUptoSaid : Prop := modelNilUptoRow.holds Tryd.pinned (OpenSpec.upto modelNilSpec)

/-- 'boomeranglaw07.ModelSame', WHERE WHAT IT READS IS OF BULK AT MOST 1048576: true; the input reads as it did. -/
def modelSameUptoRow : OpenClaim := { program := "ytbkadfdpboghiaadoor", sum := "ac5c9c8be372d6212258d39a98bc01c1111c9878a1f6d4a82a171a56d1c4525d", func := "boomerang/boomeranglaw07.ModelSame", spec := "modelSame", unfollowed := true, recurses := true, named := ["boomerang/code.ops"], apart := false, laid := [("boomerang/code.ops", laid_boomerang_code_ops)], narrowed := true }
def ModelSameUptoSaid : Prop := modelSameUptoRow.holds Tryd.pinned (OpenSpec.upto modelSameSpec)

end Rows
end Go.Proofs.YtbkadfdpboghiaaDoor
