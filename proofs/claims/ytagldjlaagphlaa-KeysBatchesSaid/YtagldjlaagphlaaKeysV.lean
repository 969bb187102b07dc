/- Keys, events and messages as they lie in memory, and how two of them are compared by '=='. -/
import Derived.Test.YtagldjlaagphlaaLib
import Derived.Laws.StructEq
import Derived.Test.YtagldjlaagphlaaRows
namespace Go.Proofs.Ytagldjlaagphlaa
open Go.RowKit

theorem cells4 {w : World} {b : Nat} {x y z u : Value} {t : TypeId} {f : Nat × Nat} (h : w.heap[b]? = some (.cells #[x, y, z, u] t f)) : w.cell? ⟨b, 0, none⟩ = some x ∧ w.cell? ⟨b, 1, none⟩ = some y ∧ w.cell? ⟨b, 2, none⟩ = some z ∧ w.cell? ⟨b, 3, none⟩ = some u := by
  refine ⟨?_, ?_, ?_, ?_⟩ <;> (rw [cell_of_obj h]; rfl)

structure Kv where
  at_ : Int
  src : Int
  sent : Int
  no : Int
deriving DecidableEq
structure Ev where
  k : Kv
  dst : Int
  kind : Int
  data : Int
deriving DecidableEq
structure Mv where
  e : Ev
  anti : Bool
deriving DecidableEq
structure Iv where
  src : Int
  sent : Int
  no : Int
deriving DecidableEq
def Mv.id (m : Mv) : Iv := ⟨m.e.k.src, m.e.k.sent, m.e.k.no⟩
def Mv.meets (a b : Mv) : Bool := a.anti != b.anti && decide (a.e = b.e)

theorem eqFields_cons {P : Program} {w : World} {d : Nat} {xs ys : Array Value} {f : Field} {fs : List Field} {a b : Value} {r s : Bool} (hn : f.name ≠ "_") (ha : (part f.type xs f.offset).run P w = .ok a w)
    (hb : (part f.type ys f.offset).run P w = .ok b w) (hr : (Op.equalIn d f.type a b).run P w = .ok r w) (hs : (Op.eqFields d xs ys fs).run P w = .ok s w) : (Op.eqFields d xs ys (f :: fs)).run P w = .ok (r && s) w := by
  simp only [Op.eqFields, if_pos hn, Sem.run_bind, ha, hb, hr, Result.andThen_ok]
  cases r
  · rfl
  · simp only [Bool.not_true, Bool.false_eq_true, if_false, hs, Bool.true_and]
theorem eqFields_nil {P : Program} {w : World} {d : Nat} {xs ys : Array Value} : (Op.eqFields d xs ys []).run P w = .ok true w := rfl

theorem key_fields : ((Try.prog).fieldsOf 23).toList.map (fun f => (f.type, f.offset, decide (f.name ≠ "_"))) = [(3, 0, true), (3, 1, true), (3, 2, true), (3, 3, true)] := by kernel_rfl
theorem event_fields : ((Try.prog).fieldsOf 25).toList.map (fun f => (f.type, f.offset, decide (f.name ≠ "_"))) = [(23, 0, true), (3, 4, true), (3, 5, true), (3, 6, true)] := by kernel_rfl
theorem message_fields : ((Try.prog).fieldsOf 51).toList.map (fun f => (f.type, f.offset, decide (f.name ≠ "_"))) = [(25, 0, true), (4, 7, true)] := by kernel_rfl
theorem id_fields : ((Try.prog).fieldsOf 30).toList.map (fun f => (f.type, f.offset, decide (f.name ≠ "_"))) = [(3, 0, true), (3, 1, true), (3, 2, true)] := by kernel_rfl

theorem int_eqIn (d : Nat) (a b : Int) (w : World) : (Op.equalIn (d + 1) 3 (.int .i64 a) (.int .i64 b)).run Try.prog w = .ok (a == b) w := run_equalIn_int (P := Try.prog) w d 3 .i64 .i64 a b Try.underlying3
theorem bool_eqIn (d : Nat) (a b : Bool) (w : World) : (Op.equalIn (d + 1) 4 (.bool a) (.bool b)).run Try.prog w = .ok (a == b) w := run_equalIn_bool' (P := Try.prog) w d 4 a b Try.underlying4

theorem id_eqIn (d : Nat) (a b : Iv) (w : World) : (Op.equalIn (d + 2) 30 (.agg #[.int .i64 a.src, .int .i64 a.sent, .int .i64 a.no]) (.agg #[.int .i64 b.src, .int .i64 b.sent, .int .i64 b.no])).run Try.prog w = .ok (decide (a = b)) w := by
  have hf := id_fields
  rw [run_equalIn_agg (P := Try.prog) w (d + 1) 30 _ _ (by kernel_rfl) (by kernel_rfl)]
  generalize ((Try.prog).fieldsOf 30).toList = fs at hf ⊢
  obtain ⟨x0, x1, x2⟩ := a
  obtain ⟨y0, y1, y2⟩ := b
  match fs, hf with
  | [f0, f1, f2], hf =>
    simp only [List.map_cons, List.map_nil, List.cons.injEq, Prod.mk.injEq, and_true, decide_eq_true_eq] at hf
    obtain ⟨⟨t0, o0, n0⟩, ⟨t1, o1, n1⟩, t2, o2, n2⟩ := hf
    refine (eqFields_cons n0 (a := .int .i64 x0) (b := .int .i64 y0) (by rw [t0, o0]; kernel_rfl) (by rw [t0, o0]; kernel_rfl) (by rw [t0]; exact int_eqIn d _ _ w)
      (eqFields_cons n1 (a := .int .i64 x1) (b := .int .i64 y1) (by rw [t1, o1]; kernel_rfl) (by rw [t1, o1]; kernel_rfl) (by rw [t1]; exact int_eqIn d _ _ w)
      (eqFields_cons n2 (a := .int .i64 x2) (b := .int .i64 y2) (by rw [t2, o2]; kernel_rfl) (by rw [t2, o2]; kernel_rfl) (by rw [t2]; exact int_eqIn d _ _ w) eqFields_nil))).trans ?_
    congr 1
    rw [Bool.eq_iff_iff]
    simp
  | [], hf => simp at hf
  | [_], hf => simp at hf
  | [_, _], hf => simp at hf
  | _ :: _ :: _ :: _ :: _, hf => simp at hf
theorem key_eqIn (d : Nat) (a b : Kv) (w : World) : (Op.equalIn (d + 2) 23 (.agg #[.int .i64 a.at_, .int .i64 a.src, .int .i64 a.sent, .int .i64 a.no]) (.agg #[.int .i64 b.at_, .int .i64 b.src, .int .i64 b.sent, .int .i64 b.no])).run Try.prog w = .ok (decide (a = b)) w := by
  have hf := key_fields
  rw [run_equalIn_agg (P := Try.prog) w (d + 1) 23 _ _ (by kernel_rfl) (by kernel_rfl)]
  generalize ((Try.prog).fieldsOf 23).toList = fs at hf ⊢
  obtain ⟨x0, x1, x2, x3⟩ := a
  obtain ⟨y0, y1, y2, y3⟩ := b
  match fs, hf with
  | [f0, f1, f2, f3], hf =>
    simp only [List.map_cons, List.map_nil, List.cons.injEq, Prod.mk.injEq, and_true, decide_eq_true_eq] at hf
    obtain ⟨⟨t0, o0, n0⟩, ⟨t1, o1, n1⟩, ⟨t2, o2, n2⟩, t3, o3, n3⟩ := hf
    refine (eqFields_cons n0 (a := .int .i64 x0) (b := .int .i64 y0) (by rw [t0, o0]; kernel_rfl) (by rw [t0, o0]; kernel_rfl) (by rw [t0]; exact int_eqIn d _ _ w)
      (eqFields_cons n1 (a := .int .i64 x1) (b := .int .i64 y1) (by rw [t1, o1]; kernel_rfl) (by rw [t1, o1]; kernel_rfl) (by rw [t1]; exact int_eqIn d _ _ w)
      (eqFields_cons n2 (a := .int .i64 x2) (b := .int .i64 y2) (by rw [t2, o2]; kernel_rfl) (by rw [t2, o2]; kernel_rfl) (by rw [t2]; exact int_eqIn d _ _ w)
      (eqFields_cons n3 (a := .int .i64 x3) (b := .int .i64 y3) (by rw [t3, o3]; kernel_rfl) (by rw [t3, o3]; kernel_rfl) (by rw [t3]; exact int_eqIn d _ _ w) eqFields_nil)))).trans ?_
    congr 1
    rw [Bool.eq_iff_iff]
    simp
  | [], hf => simp at hf
  | [_], hf => simp at hf
  | [_, _], hf => simp at hf
  | [_, _, _], hf => simp at hf
  | _ :: _ :: _ :: _ :: _ :: _, hf => simp at hf
theorem event_eqIn (d : Nat) (a b : Ev) (w : World) : (Op.equalIn (d + 3) 25 (.agg #[.int .i64 a.k.at_, .int .i64 a.k.src, .int .i64 a.k.sent, .int .i64 a.k.no, .int .i64 a.dst, .int .i64 a.kind, .int .i64 a.data])
    (.agg #[.int .i64 b.k.at_, .int .i64 b.k.src, .int .i64 b.k.sent, .int .i64 b.k.no, .int .i64 b.dst, .int .i64 b.kind, .int .i64 b.data])).run Try.prog w = .ok (decide (a = b)) w := by
  have hf := event_fields
  rw [run_equalIn_agg (P := Try.prog) w (d + 2) 25 _ _ (by kernel_rfl) (by kernel_rfl)]
  generalize ((Try.prog).fieldsOf 25).toList = fs at hf ⊢
  obtain ⟨⟨x0, x1, x2, x3⟩, x4, x5, x6⟩ := a
  obtain ⟨⟨y0, y1, y2, y3⟩, y4, y5, y6⟩ := b
  match fs, hf with
  | [f0, f1, f2, f3], hf =>
    simp only [List.map_cons, List.map_nil, List.cons.injEq, Prod.mk.injEq, and_true, decide_eq_true_eq] at hf
    obtain ⟨⟨t0, o0, n0⟩, ⟨t1, o1, n1⟩, ⟨t2, o2, n2⟩, t3, o3, n3⟩ := hf
    refine (eqFields_cons n0 (a := .agg #[.int .i64 x0, .int .i64 x1, .int .i64 x2, .int .i64 x3]) (b := .agg #[.int .i64 y0, .int .i64 y1, .int .i64 y2, .int .i64 y3]) (by rw [t0, o0]; kernel_rfl) (by rw [t0, o0]; kernel_rfl) (by rw [t0]; exact key_eqIn d ⟨x0, x1, x2, x3⟩ ⟨y0, y1, y2, y3⟩ w)
      (eqFields_cons n1 (a := .int .i64 x4) (b := .int .i64 y4) (by rw [t1, o1]; kernel_rfl) (by rw [t1, o1]; kernel_rfl) (by rw [t1]; exact int_eqIn (d + 1) _ _ w)
      (eqFields_cons n2 (a := .int .i64 x5) (b := .int .i64 y5) (by rw [t2, o2]; kernel_rfl) (by rw [t2, o2]; kernel_rfl) (by rw [t2]; exact int_eqIn (d + 1) _ _ w)
      (eqFields_cons n3 (a := .int .i64 x6) (b := .int .i64 y6) (by rw [t3, o3]; kernel_rfl) (by rw [t3, o3]; kernel_rfl) (by rw [t3]; exact int_eqIn (d + 1) _ _ w) eqFields_nil)))).trans ?_
    congr 1
    rw [Bool.eq_iff_iff]
    simp
  | [], hf => simp at hf
  | [_], hf => simp at hf
  | [_, _], hf => simp at hf
  | [_, _, _], hf => simp at hf
  | _ :: _ :: _ :: _ :: _ :: _, hf => simp at hf
theorem message_eqIn (d : Nat) (a b : Mv) (w : World) : (Op.equalIn (d + 4) 51 (.agg #[.int .i64 a.e.k.at_, .int .i64 a.e.k.src, .int .i64 a.e.k.sent, .int .i64 a.e.k.no, .int .i64 a.e.dst, .int .i64 a.e.kind, .int .i64 a.e.data, .bool a.anti])
    (.agg #[.int .i64 b.e.k.at_, .int .i64 b.e.k.src, .int .i64 b.e.k.sent, .int .i64 b.e.k.no, .int .i64 b.e.dst, .int .i64 b.e.kind, .int .i64 b.e.data, .bool b.anti])).run Try.prog w = .ok (decide (a = b)) w := by
  have hf := message_fields
  rw [run_equalIn_agg (P := Try.prog) w (d + 3) 51 _ _ (by kernel_rfl) (by kernel_rfl)]
  generalize ((Try.prog).fieldsOf 51).toList = fs at hf ⊢
  obtain ⟨⟨⟨x0, x1, x2, x3⟩, x4, x5, x6⟩, x7⟩ := a
  obtain ⟨⟨⟨y0, y1, y2, y3⟩, y4, y5, y6⟩, y7⟩ := b
  match fs, hf with
  | [f0, f1], hf =>
    simp only [List.map_cons, List.map_nil, List.cons.injEq, Prod.mk.injEq, and_true, decide_eq_true_eq] at hf
    obtain ⟨⟨t0, o0, n0⟩, t1, o1, n1⟩ := hf
    refine (eqFields_cons n0 (a := .agg #[.int .i64 x0, .int .i64 x1, .int .i64 x2, .int .i64 x3, .int .i64 x4, .int .i64 x5, .int .i64 x6]) (b := .agg #[.int .i64 y0, .int .i64 y1, .int .i64 y2, .int .i64 y3, .int .i64 y4, .int .i64 y5, .int .i64 y6]) (by rw [t0, o0]; kernel_rfl) (by rw [t0, o0]; kernel_rfl)
        (by rw [t0]; exact event_eqIn d ⟨⟨x0, x1, x2, x3⟩, x4, x5, x6⟩ ⟨⟨y0, y1, y2, y3⟩, y4, y5, y6⟩ w)
      (eqFields_cons n1 (a := .bool x7) (b := .bool y7) (by rw [t1, o1]; kernel_rfl) (by rw [t1, o1]; kernel_rfl) (by rw [t1]; exact bool_eqIn (d + 2) _ _ w) eqFields_nil)).trans ?_
    congr 1
    rw [Bool.eq_iff_iff]
    simp
  | [], hf => simp at hf
  | [_], hf => simp at hf
  | _ :: _ :: _ :: _, hf => simp at hf

theorem id_eql (a b : Iv) (w : World) : (binOp BinOp.eql 30 (.agg #[.int .i64 a.src, .int .i64 a.sent, .int .i64 a.no]) (.agg #[.int .i64 b.src, .int .i64 b.sent, .int .i64 b.no])).run Try.prog w = .ok (.bool (decide (a = b))) w := by
  rw [run_eql_struct, id_eqIn 9998]; rfl
theorem key_eql (a b : Kv) (w : World) : (binOp BinOp.eql 23 (.agg #[.int .i64 a.at_, .int .i64 a.src, .int .i64 a.sent, .int .i64 a.no]) (.agg #[.int .i64 b.at_, .int .i64 b.src, .int .i64 b.sent, .int .i64 b.no])).run Try.prog w = .ok (.bool (decide (a = b))) w := by
  rw [run_eql_struct, key_eqIn 9998]; rfl
theorem event_eql (a b : Ev) (w : World) : (binOp BinOp.eql 25 (.agg #[.int .i64 a.k.at_, .int .i64 a.k.src, .int .i64 a.k.sent, .int .i64 a.k.no, .int .i64 a.dst, .int .i64 a.kind, .int .i64 a.data])
    (.agg #[.int .i64 b.k.at_, .int .i64 b.k.src, .int .i64 b.k.sent, .int .i64 b.k.no, .int .i64 b.dst, .int .i64 b.kind, .int .i64 b.data])).run Try.prog w = .ok (.bool (decide (a = b))) w := by
  rw [run_eql_struct, event_eqIn 9997]; rfl
theorem event_neq (a b : Ev) (w : World) : (binOp BinOp.neq 25 (.agg #[.int .i64 a.k.at_, .int .i64 a.k.src, .int .i64 a.k.sent, .int .i64 a.k.no, .int .i64 a.dst, .int .i64 a.kind, .int .i64 a.data])
    (.agg #[.int .i64 b.k.at_, .int .i64 b.k.src, .int .i64 b.k.sent, .int .i64 b.k.no, .int .i64 b.dst, .int .i64 b.kind, .int .i64 b.data])).run Try.prog w = .ok (.bool (!decide (a = b))) w := by
  rw [run_neq_struct, event_eqIn 9997]; rfl
theorem message_eql (a b : Mv) (w : World) : (binOp BinOp.eql 51 (.agg #[.int .i64 a.e.k.at_, .int .i64 a.e.k.src, .int .i64 a.e.k.sent, .int .i64 a.e.k.no, .int .i64 a.e.dst, .int .i64 a.e.kind, .int .i64 a.e.data, .bool a.anti])
    (.agg #[.int .i64 b.e.k.at_, .int .i64 b.e.k.src, .int .i64 b.e.k.sent, .int .i64 b.e.k.no, .int .i64 b.e.dst, .int .i64 b.e.kind, .int .i64 b.e.data, .bool b.anti])).run Try.prog w = .ok (.bool (decide (a = b))) w := by
  rw [run_eql_struct, message_eqIn 9996]; rfl
theorem message_neq (a b : Mv) (w : World) : (binOp BinOp.neq 51 (.agg #[.int .i64 a.e.k.at_, .int .i64 a.e.k.src, .int .i64 a.e.k.sent, .int .i64 a.e.k.no, .int .i64 a.e.dst, .int .i64 a.e.kind, .int .i64 a.e.data, .bool a.anti])
    (.agg #[.int .i64 b.e.k.at_, .int .i64 b.e.k.src, .int .i64 b.e.k.sent, .int .i64 b.e.k.no, .int .i64 b.e.dst, .int .i64 b.e.kind, .int .i64 b.e.data, .bool b.anti])).run Try.prog w = .ok (.bool (!decide (a = b))) w := by
  rw [run_neq_struct, message_eqIn 9996]; rfl
theorem id_guard : (Try.prog).eqGuardType (Try.prog).depth 30 = false := by kernel_rfl
theorem key_guard : (Try.prog).eqGuardType (Try.prog).depth 23 = false := by kernel_rfl
theorem event_guard : (Try.prog).eqGuardType (Try.prog).depth 25 = false := by kernel_rfl
theorem message_guard : (Try.prog).eqGuardType (Try.prog).depth 51 = false := by kernel_rfl
end Go.Proofs.Ytagldjlaagphlaa
