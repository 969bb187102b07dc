/- Package vm's laws: what is sent is compared, states are compared; few; the chapter's example. -/
import Derived.Test.YtohdokddfjeekaaDoorVmR
import Derived.Laws.StructEq
import Derived.ChangeKeysEq
namespace Go.Proofs.YtohdokddfjeekaaDoor
open Go.RowKit Go.Maps

theorem eqFields_cons {P : Program} {w : World} {d : Nat} {xs ys : Array Value} {f : Field} {fs : List Field} {a b : Value} {r s : Bool} (hn : f.name ≠ "_") (ha : (part f.type xs f.offset).run P w = .ok a w)
    (hb : (part f.type ys f.offset).run P w = .ok b w) (hr : (Op.equalIn d f.type a b).run P w = .ok r w) (hs : (Op.eqFields d xs ys fs).run P w = .ok s w) : (Op.eqFields d xs ys (f :: fs)).run P w = .ok (r && s) w := by
  simp only [Op.eqFields, if_pos hn, Sem.run_bind, ha, hb, hr, Result.andThen_ok]
  cases r
  · rfl
  · simp only [Bool.not_true, Bool.false_eq_true, if_false, hs, Bool.true_and]
theorem eqFields_nil {P : Program} {w : World} {d : Nat} {xs ys : Array Value} : (Op.eqFields d xs ys []).run P w = .ok true w := rfl
theorem eqItems_cons {P : Program} {w : World} {d c i : Nat} {e : TypeId} {xs ys : Array Value} {is : List Nat} {a b : Value} {r s : Bool} (ha : (part e xs (i * c)).run P w = .ok a w)
    (hb : (part e ys (i * c)).run P w = .ok b w) (hr : (Op.equalIn d e a b).run P w = .ok r w) (hs : (Op.eqItems d e c xs ys is).run P w = .ok s w) : (Op.eqItems d e c xs ys (i :: is)).run P w = .ok (r && s) w := by
  simp only [Op.eqItems, Sem.run_bind, ha, hb, hr, Result.andThen_ok]
  cases r
  · rfl
  · simp only [Bool.not_true, Bool.false_eq_true, if_false, hs, Bool.true_and]
theorem eqItems_nil {P : Program} {w : World} {d c : Nat} {e : TypeId} {xs ys : Array Value} : (Op.eqItems d e c xs ys []).run P w = .ok true w := rfl

theorem em_fields : ((Tryd.prog).fieldsOf 37).toList.map (fun f => (f.type, f.offset, decide (f.name ≠ "_"))) = [(3, 0, true), (3, 1, true), (3, 2, true), (3, 3, true)] := by kernel_rfl
theorem int_eqIn (d : Nat) (a b : Int) (w : World) : (Op.equalIn (d + 1) 3 (.int .i64 a) (.int .i64 b)).run Tryd.prog w = .ok (a == b) w := run_equalIn_int (P := Tryd.prog) w d 3 .i64 .i64 a b Tryd.underlying3
theorem em_eqIn (d : Nat) (a b : Em) (w : World) : (Op.equalIn (d + 2) 37 a.val b.val).run Tryd.prog w = .ok (decide (a = b)) w := by
  have hf := em_fields
  rw [run_equalIn_agg (P := Tryd.prog) w (d + 1) 37 _ _ (by kernel_rfl) (by kernel_rfl)]
  generalize ((Tryd.prog).fieldsOf 37).toList = fs at hf ⊢
  obtain ⟨x0, x1, x2, x3⟩ := a
  obtain ⟨y0, y1, y2, y3⟩ := b
  match fs, hf with
  | [f0, f1, f2, f3], hf =>
    simp only [List.map_cons, List.map_nil, List.cons.injEq, Prod.mk.injEq, and_true, decide_eq_true_eq] at hf
    obtain ⟨⟨t0, o0, n0⟩, ⟨t1, o1, n1⟩, ⟨t2, o2, n2⟩, t3, o3, n3⟩ := hf
    refine (eqFields_cons n0 (a := .int .i64 x0) (b := .int .i64 y0) (by rw [t0, o0]; kernel_rfl) (by rw [t0, o0]; kernel_rfl) (by rw [t0]; exact int_eqIn d _ _ w)
      (eqFields_cons n1 (a := .int .i64 x1) (b := .int .i64 y1) (by rw [t1, o1]; kernel_rfl) (by rw [t1, o1]; kernel_rfl) (by rw [t1]; exact int_eqIn d _ _ w)
      (eqFields_cons n2 (a := .int .i64 x2) (b := .int .i64 y2) (by rw [t2, o2]; kernel_rfl) (by rw [t2, o2]; kernel_rfl) (by rw [t2]; exact int_eqIn d _ _ w)
      (eqFields_cons n3 (a := .int .i64 x3) (b := .int .i64 y3) (by rw [t3, o3]; kernel_rfl) (by rw [t3, o3]; kernel_rfl) (by rw [t3]; exact int_eqIn d _ _ w) eqFields_nil)))).trans ?_
    congr 1
    rw [Bool.eq_iff_iff]
    simp
  | [], hf => simp at hf
  | [_], hf => simp at hf
  | [_, _], hf => simp at hf
  | [_, _, _], hf => simp at hf
  | _ :: _ :: _ :: _ :: _ :: _, hf => simp at hf
theorem em_eql (a b : Em) (w : World) : (binOp BinOp.eql 37 a.val b.val).run Tryd.prog w = .ok (.bool (decide (a = b))) w := by
  rw [run_eql_struct, em_eqIn 9998]; rfl
theorem em_neq (a b : Em) (w : World) : (binOp BinOp.neq 37 a.val b.val).run Tryd.prog w = .ok (.bool (!decide (a = b))) w := by
  rw [run_neq_struct, em_eqIn 9998]; rfl
theorem em_guard : (Tryd.prog).eqGuardType (Tryd.prog).depth 37 = false := by kernel_rfl

theorem st_eqIn (d : Nat) (t : Nat → Int) (w : World) : (Op.equalIn (d + 2) 24 (stV t) (stV t)).run Tryd.prog w = .ok true w := by
  obtain ⟨i, hi, _⟩ := info_parts infoInt
  have hc : Tryd.prog.cellsOf 3 = 1 := by kernel_rfl
  rw [run_equalIn_array w (d + 1) (n := 4) _ _ Tryd.underlying24 hi, hc]
  have e : ∀ x : Int, (Op.equalIn (d + 1) 3 (.int .i64 x) (.int .i64 x)).run Tryd.prog w = .ok true w := fun x => by rw [int_eqIn]; simp
  exact eqItems_cons (i := 0) (a := .int .i64 (t 0)) (b := .int .i64 (t 0)) (by kernel_rfl) (by kernel_rfl) (e _) (eqItems_cons (i := 1) (a := .int .i64 (t 1)) (b := .int .i64 (t 1)) (by kernel_rfl) (by kernel_rfl) (e _)
    (eqItems_cons (i := 2) (a := .int .i64 (t 2)) (b := .int .i64 (t 2)) (by kernel_rfl) (by kernel_rfl) (e _) (eqItems_cons (i := 3) (a := .int .i64 (t 3)) (b := .int .i64 (t 3)) (by kernel_rfl) (by kernel_rfl) (e _) eqItems_nil)))
theorem st_eql (t : Nat → Int) (w : World) : (binOp BinOp.eql 24 (stV t) (stV t)).run Tryd.prog w = .ok (.bool true) w := by
  rw [run_eql_struct, st_eqIn 9998]; rfl
theorem st_neq (t : Nat → Int) (w : World) : (binOp BinOp.neq 24 (stV t) (stV t)).run Tryd.prog w = .ok (.bool false) w := by
  rw [run_neq_struct, st_eqIn 9998]; rfl
theorem st_guard : (Tryd.prog).eqGuardType (Tryd.prog).depth 24 = false := by kernel_rfl

/-- The chapter's example. -/
def awP : List Ins := [⟨12, 4, 0, 0, 0⟩, ⟨3, 0, 0, 4, 0⟩, ⟨1, 5, 1, 0, 0⟩, ⟨14, 6, 5, 0, 7⟩]
def awT : Nat → Int := fun i => if i = 0 then 3 else 0
def awE : Ev := ⟨0, 0, 0, 0, 0, 0, 5⟩
theorem aw_cs : (runS awP awT awE 100).1.cs 0 = 8 ∧ (runS awP awT awE 100).1.cs 1 = 0 ∧ (runS awP awT awE 100).1.cs 2 = 0 ∧ (runS awP awT awE 100).1.cs 3 = 0 := by
  refine ⟨?_, ?_, ?_, ?_⟩ <;> decide +kernel
theorem aw_sent : outP 8 (runS awP awT awE 100).1.sent = [⟨0, 1, 7, 8⟩] := by decide +kernel
theorem aw_steps : (runS awP awT awE 100).2 = 4 := by decide +kernel
end Go.Proofs.YtohdokddfjeekaaDoor
