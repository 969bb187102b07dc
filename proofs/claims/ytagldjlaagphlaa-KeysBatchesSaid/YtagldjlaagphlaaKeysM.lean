/- IDs as keys of a map. -/
import Derived.Test.YtagldjlaagphlaaKeysB
import Derived.Maps.OwnSet
import Derived.Maps.OwnOps
import Derived.DeepKeys5
import Derived.ChangeShapes
namespace Go.Proofs.Ytagldjlaagphlaa
open Go.RowKit Go.Maps

theorem laidOut : laidOutB Try.prog = true := by kernel_rfl
theorem rowID : (30 : TypeId) < (Try.prog).types.size := of_decide_eq_true (by kernel_rfl)
theorem wideID : (match (Try.prog).underlying 30 with | some (.array _ _) | some (.struct _) => true | _ => false) = true := by kernel_rfl
theorem lawID : WideMaps.KeyLaw Try.prog 30 := deep_law_laid laidOut (m := 2) (by omega) rowID (by kernel_rfl) wideID
theorem keyedID : Keyed Try.prog 30 := Keyed.of_law lawID

structure Iv.Wf (i : Iv) : Prop where
  src : (Lit.int .i64 i.src).wf = true
  sent : (Lit.int .i64 i.sent).wf = true
  no : (Lit.int .i64 i.no).wf = true
def Iv.lit (i : Iv) : Lit := .string (keyBytes [.int .i64 i.src, .int .i64 i.sent, .int .i64 i.no])

theorem keyLits_id (d : Nat) (i : Iv) (h : i.Wf) : (Try.prog).keyLits (d + 2) 30 [.int .i64 i.src, .int .i64 i.sent, .int .i64 i.no] = some [.int .i64 i.src, .int .i64 i.sent, .int .i64 i.no] := by
  have hc : (Try.prog).cellsOf 30 = 3 := by kernel_rfl
  have hc1 : (Try.prog).cellsOf 3 = 1 := by kernel_rfl
  have hi : ∀ n : Int, (Lit.int .i64 n).wf = true → (Try.prog).keyLits (d + 1) 3 [.int .i64 n] = some [.int .i64 n] := fun n hn => by
    simp [Program.keyLits, Try.underlying3, hn]
  obtain ⟨h0, h1, h2⟩ := h
  simp [Program.keyLits, Try.underlying30, hc, hc1, Try.underlying3, h0, h1, h2]
theorem keyOf_id (i : Iv) (h : i.Wf) : keyOf Try.prog 30 (.agg #[.int .i64 i.src, .int .i64 i.sent, .int .i64 i.no]) = some i.lit := by
  have hk : (Try.prog).keyType 30 = true := by kernel_rfl
  have hf : (Value.agg #[.int .i64 i.src, .int .i64 i.sent, .int .i64 i.no]).formed Try.prog 30 = true := by
    have hc : (Try.prog).cellsOf 30 = 3 := by kernel_rfl
    simp [Value.formed, Try.underlying30, hc]
  have hn : ∃ d, (Try.prog).types.size + 1 = d + 2 := ⟨(Try.prog).types.size - 1, by have hr : (30 : Nat) < (Try.prog).types.size := rowID; omega⟩
  obtain ⟨d, hd⟩ := hn
  have hl := keyLits_id d i h
  unfold keyOf
  rw [hd]
  simp only [Try.underlying30, hk, hf, Bool.and_self, if_true]
  show ((Try.prog).keyLits (d + 2) 30 [.int .i64 i.src, .int .i64 i.sent, .int .i64 i.no]).map _ = _
  rw [hl]
  rfl
theorem lit_inj {i j : Iv} (hi : i.Wf) (hj : j.Wf) (h : i.lit = j.lit) : i = j := by
  have h1 := keyOf_id i hi
  rw [h] at h1
  have h2 := keyedID.inj h1 (keyOf_id j hj)
  obtain ⟨a, b, c⟩ := i
  obtain ⟨x, y, z⟩ := j
  simpa using h2
theorem lit_key (i : Iv) (h : i.Wf) : WideAt.IsKeyLit i.lit := keyedID.key (keyOf_id i h)
theorem zeroInt (w : World) : (zeroValue 3).run Try.prog w = .ok (.int .i64 0) w := by kernel_rfl
end Go.Proofs.Ytagldjlaagphlaa
