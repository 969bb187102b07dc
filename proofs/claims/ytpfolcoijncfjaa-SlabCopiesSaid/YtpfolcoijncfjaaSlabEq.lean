/- Two handles are compared. -/
import Derived.Test.YtpfolcoijncfjaaSlabOps
import Derived.Laws.StructEq
namespace Go.Proofs.Ytpfolcoijncfjaa
open Go.RowKit

theorem handle_fields : ((Try.prog).fieldsOf 38).toList.map (fun f => (f.type, f.offset, decide (f.name ≠ "_"))) = [(3, 0, true), (3, 1, true)] := by kernel_rfl
theorem handle_eq (x t p u : Int) (w : World) : (binOp BinOp.eql 38 (.agg #[.int .i64 x, .int .i64 t]) (.agg #[.int .i64 p, .int .i64 u])).run Try.prog w = .ok (.bool (x == p && t == u)) w := by
  have hf := handle_fields
  rw [run_eql_struct, run_equalIn_agg (P := Try.prog) w 9999 38 _ _ (by kernel_rfl) (by kernel_rfl)]
  generalize ((Try.prog).fieldsOf 38).toList = fs at hf ⊢
  match fs, hf with
  | [f, g], hf =>
    simp only [List.map_cons, List.map_nil, List.cons.injEq, Prod.mk.injEq, and_true, decide_eq_true_eq] at hf
    obtain ⟨⟨h1, h2, h3⟩, h4, h5, h6⟩ := hf
    have e1 : ∀ (x p : Int), (Op.equalIn 9999 3 (.int .i64 x) (.int .i64 p)).run Try.prog w = .ok (x == p) w := fun x p => run_equalIn_int (P := Try.prog) w 9998 3 .i64 .i64 x p Try.underlying3
    have q0 : ∀ a b : Int, (part 3 #[.int .i64 a, .int .i64 b] 0).run Try.prog w = .ok (.int .i64 a) w := fun a b => by kernel_rfl
    have q1 : ∀ a b : Int, (part 3 #[.int .i64 a, .int .i64 b] 1).run Try.prog w = .ok (.int .i64 b) w := fun a b => by kernel_rfl
    simp only [Op.eqFields, if_pos h3, if_pos h6, h1, h2, h4, h5, Sem.run_bind, q0, e1, Result.andThen_ok]
    cases x == p
    · rfl
    · simp only [Bool.not_true, Bool.false_eq_true, if_false, Sem.run_bind, q1, e1, Result.andThen_ok, Bool.true_and]
      cases t == u <;> rfl
  | [], hf => simp at hf
  | [_], hf => simp at hf
  | _ :: _ :: _ :: _, hf => simp at hf
theorem handle_guard : (Try.prog).eqGuardType (Try.prog).depth 38 = false := by kernel_rfl
end Go.Proofs.Ytpfolcoijncfjaa
