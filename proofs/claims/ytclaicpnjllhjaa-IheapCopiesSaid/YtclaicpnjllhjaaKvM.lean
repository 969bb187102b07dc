/- Keys as keys of a map. -/
import Derived.Test.YtclaicpnjllhjaaKvA
import Derived.Maps.OwnSet
import Derived.Maps.OwnOps
import Derived.DeepKeys5
import Derived.ChangeShapes
namespace Go.Proofs.Ytclaicpnjllhjaa
open Go.RowKit Go.Maps

theorem laidOut : laidOutB Try.prog = true := by kernel_rfl
theorem rowKey : (33 : TypeId) < (Try.prog).types.size := of_decide_eq_true (by kernel_rfl)
theorem wideKey : (match (Try.prog).underlying 33 with | some (.array _ _) | some (.struct _) => true | _ => false) = true := by kernel_rfl
theorem lawKey : WideMaps.KeyLaw Try.prog 33 := deep_law_laid laidOut (m := 3) (by omega) rowKey (by kernel_rfl) wideKey
theorem keyedKey : Keyed Try.prog 33 := Keyed.of_law lawKey

structure Kv.Wf (i : Kv) : Prop where
  at_ : (Lit.int .i64 i.at_).wf = true
  src : (Lit.int .i64 i.src).wf = true
  sent : (Lit.int .i64 i.sent).wf = true
  no : (Lit.int .i64 i.no).wf = true
def Kv.lit (i : Kv) : Lit := .string (keyBytes [.int .i64 i.at_, .int .i64 i.src, .int .i64 i.sent, .int .i64 i.no])
abbrev Kv.val (i : Kv) : Value := .agg #[.int .i64 i.at_, .int .i64 i.src, .int .i64 i.sent, .int .i64 i.no]

theorem keyLits_key (d : Nat) (i : Kv) (h : i.Wf) : (Try.prog).keyLits (d + 2) 33 [.int .i64 i.at_, .int .i64 i.src, .int .i64 i.sent, .int .i64 i.no] = some [.int .i64 i.at_, .int .i64 i.src, .int .i64 i.sent, .int .i64 i.no] := by
  have hc : (Try.prog).cellsOf 33 = 4 := by kernel_rfl
  have hc1 : (Try.prog).cellsOf 3 = 1 := by kernel_rfl
  have hi : ∀ n : Int, (Lit.int .i64 n).wf = true → (Try.prog).keyLits (d + 1) 3 [.int .i64 n] = some [.int .i64 n] := fun n hn => by
    simp [Program.keyLits, Try.underlying3, hn]
  obtain ⟨h0, h1, h2, h3⟩ := h
  simp [Program.keyLits, Try.underlying33, hc, hc1, Try.underlying3, h0, h1, h2, h3]
theorem keyOf_key (i : Kv) (h : i.Wf) : keyOf Try.prog 33 i.val = some i.lit := by
  have hk : (Try.prog).keyType 33 = true := by kernel_rfl
  have hf : (Value.agg #[.int .i64 i.at_, .int .i64 i.src, .int .i64 i.sent, .int .i64 i.no]).formed Try.prog 33 = true := by
    have hc : (Try.prog).cellsOf 33 = 4 := by kernel_rfl
    simp [Value.formed, Try.underlying33, hc]
  have hn : ∃ d, (Try.prog).types.size + 1 = d + 2 := ⟨(Try.prog).types.size - 1, by have hr : (33 : Nat) < (Try.prog).types.size := rowKey; omega⟩
  obtain ⟨d, hd⟩ := hn
  have hl := keyLits_key d i h
  unfold keyOf
  rw [hd]
  simp only [Try.underlying33, hk, hf, Bool.and_self, if_true]
  show ((Try.prog).keyLits (d + 2) 33 [.int .i64 i.at_, .int .i64 i.src, .int .i64 i.sent, .int .i64 i.no]).map _ = _
  rw [hl]
  rfl
theorem lit_inj {i j : Kv} (hi : i.Wf) (hj : j.Wf) (h : i.lit = j.lit) : i = j := by
  have h1 := keyOf_key i hi
  rw [h] at h1
  have h2 := keyedKey.inj h1 (keyOf_key j hj)
  obtain ⟨a, b, c, d⟩ := i
  obtain ⟨x, y, z, u⟩ := j
  simpa [Kv.val] using h2
theorem lit_key (i : Kv) (h : i.Wf) : WideAt.IsKeyLit i.lit := keyedKey.key (keyOf_key i h)
theorem zeroInt (w : World) : (zeroValue 3).run Try.prog w = .ok (.int .i64 0) w := by kernel_rfl
end Go.Proofs.Ytclaicpnjllhjaa
