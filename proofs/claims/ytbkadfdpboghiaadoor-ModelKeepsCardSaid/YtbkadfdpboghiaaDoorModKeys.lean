/- Keys, events and IDs as they lie in memory, how they are compared; which events may be; rows that are held. (Cut from the texts of package keys.) -/
import Derived.Test.YtbkadfdpboghiaaDoorHold2
import Derived.Test.YtbkadfdpboghiaaDoorVmM
import Derived.Laws.StructEq
import Derived.Test.YtbkadfdpboghiaaDoorRows
namespace Go.Proofs.YtbkadfdpboghiaaDoor
open Go.RowKit

theorem cells4 {w : World} {b : Nat} {x y z u : Value} {t : TypeId} {f : Nat × Nat} (h : w.heap[b]? = some (.cells #[x, y, z, u] t f)) : w.cell? ⟨b, 0, none⟩ = some x ∧ w.cell? ⟨b, 1, none⟩ = some y ∧ w.cell? ⟨b, 2, none⟩ = some z ∧ w.cell? ⟨b, 3, none⟩ = some u := by
  refine ⟨?_, ?_, ?_, ?_⟩ <;> (rw [cell_of_obj h]; rfl)
structure Kv where
  at_ : Int
  src : Int
  sent : Int
  no : Int
deriving DecidableEq
structure Ev where
  k : Kv
  dst : Int
  kind : Int
  data : Int
deriving DecidableEq
structure Iv where
  src : Int
  sent : Int
  no : Int
deriving DecidableEq
theorem eqFields_cons {P : Program} {w : World} {d : Nat} {xs ys : Array Value} {f : Field} {fs : List Field} {a b : Value} {r s : Bool} (hn : f.name ≠ "_") (ha : (part f.type xs f.offset).run P w = .ok a w)
    (hb : (part f.type ys f.offset).run P w = .ok b w) (hr : (Op.equalIn d f.type a b).run P w = .ok r w) (hs : (Op.eqFields d xs ys fs).run P w = .ok s w) : (Op.eqFields d xs ys (f :: fs)).run P w = .ok (r && s) w := by
  simp only [Op.eqFields, if_pos hn, Sem.run_bind, ha, hb, hr, Result.andThen_ok]
  cases r
  · rfl
  · simp only [Bool.not_true, Bool.false_eq_true, if_false, hs, Bool.true_and]
theorem eqFields_nil {P : Program} {w : World} {d : Nat} {xs ys : Array Value} : (Op.eqFields d xs ys []).run P w = .ok true w := rfl
theorem key_fields : ((Tryd.prog).fieldsOf 63).toList.map (fun f => (f.type, f.offset, decide (f.name ≠ "_"))) = [(3, 0, true), (3, 1, true), (3, 2, true), (3, 3, true)] := by kernel_rfl
theorem event_fields : ((Tryd.prog).fieldsOf 65).toList.map (fun f => (f.type, f.offset, decide (f.name ≠ "_"))) = [(63, 0, true), (3, 4, true), (3, 5, true), (3, 6, true)] := by kernel_rfl
theorem id_fields : ((Tryd.prog).fieldsOf 69).toList.map (fun f => (f.type, f.offset, decide (f.name ≠ "_"))) = [(3, 0, true), (3, 1, true), (3, 2, true)] := by kernel_rfl
theorem int_eqIn (d : Nat) (a b : Int) (w : World) : (Op.equalIn (d + 1) 3 (.int .i64 a) (.int .i64 b)).run Tryd.prog w = .ok (a == b) w := run_equalIn_int (P := Tryd.prog) w d 3 .i64 .i64 a b Tryd.underlying3
theorem id_eqIn (d : Nat) (a b : Iv) (w : World) : (Op.equalIn (d + 2) 69 (.agg #[.int .i64 a.src, .int .i64 a.sent, .int .i64 a.no]) (.agg #[.int .i64 b.src, .int .i64 b.sent, .int .i64 b.no])).run Tryd.prog w = .ok (decide (a = b)) w := by
  have hf := id_fields
  rw [run_equalIn_agg (P := Tryd.prog) w (d + 1) 69 _ _ (by kernel_rfl) (by kernel_rfl)]
  generalize ((Tryd.prog).fieldsOf 69).toList = fs at hf ⊢
  obtain ⟨x0, x1, x2⟩ := a
  obtain ⟨y0, y1, y2⟩ := b
  match fs, hf with
  | [f0, f1, f2], hf =>
    simp only [List.map_cons, List.map_nil, List.cons.injEq, Prod.mk.injEq, and_true, decide_eq_true_eq] at hf
    obtain ⟨⟨t0, o0, n0⟩, ⟨t1, o1, n1⟩, t2, o2, n2⟩ := hf
    refine (eqFields_cons n0 (a := .int .i64 x0) (b := .int .i64 y0) (by rw [t0, o0]; kernel_rfl) (by rw [t0, o0]; kernel_rfl) (by rw [t0]; exact int_eqIn d _ _ w)
      (eqFields_cons n1 (a := .int .i64 x1) (b := .int .i64 y1) (by rw [t1, o1]; kernel_rfl) (by rw [t1, o1]; kernel_rfl) (by rw [t1]; exact int_eqIn d _ _ w)
      (eqFields_cons n2 (a := .int .i64 x2) (b := .int .i64 y2) (by rw [t2, o2]; kernel_rfl) (by rw [t2, o2]; kernel_rfl) (by rw [t2]; exact int_eqIn d _ _ w) eqFields_nil))).trans ?_
    congr 1
    rw [Bool.eq_iff_iff]
    simp
  | [], hf => simp at hf
  | [_], hf => simp at hf
  | [_, _], hf => simp at hf
  | _ :: _ :: _ :: _ :: _, hf => simp at hf
theorem key_eqIn (d : Nat) (a b : Kv) (w : World) : (Op.equalIn (d + 2) 63 (.agg #[.int .i64 a.at_, .int .i64 a.src, .int .i64 a.sent, .int .i64 a.no]) (.agg #[.int .i64 b.at_, .int .i64 b.src, .int .i64 b.sent, .int .i64 b.no])).run Tryd.prog w = .ok (decide (a = b)) w := by
  have hf := key_fields
  rw [run_equalIn_agg (P := Tryd.prog) w (d + 1) 63 _ _ (by kernel_rfl) (by kernel_rfl)]
  generalize ((Tryd.prog).fieldsOf 63).toList = fs at hf ⊢
  obtain ⟨x0, x1, x2, x3⟩ := a
  obtain ⟨y0, y1, y2, y3⟩ := b
  match fs, hf with
  | [f0, f1, f2, f3], hf =>
    simp only [List.map_cons, List.map_nil, List.cons.injEq, Prod.mk.injEq, and_true, decide_eq_true_eq] at hf
    obtain ⟨⟨t0, o0, n0⟩, ⟨t1, o1, n1⟩, ⟨t2, o2, n2⟩, t3, o3, n3⟩ := hf
    refine (eqFields_cons n0 (a := .int .i64 x0) (b := .int .i64 y0) (by rw [t0, o0]; kernel_rfl) (by rw [t0, o0]; kernel_rfl) (by rw [t0]; exact int_eqIn d _ _ w)
      (eqFields_cons n1 (a := .int .i64 x1) (b := .int .i64 y1) (by rw [t1, o1]; kernel_rfl) (by rw [t1, o1]; kernel_rfl) (by rw [t1]; exact int_eqIn d _ _ w)
      (eqFields_cons n2 (a := .int .i64 x2) (b := .int .i64 y2) (by rw [t2, o2]; kernel_rfl) (by rw [t2, o2]; kernel_rfl) (by rw [t2]; exact int_eqIn d _ _ w)
      (eqFields_cons n3 (a := .int .i64 x3) (b := .int .i64 y3) (by rw [t3, o3]; kernel_rfl) (by rw [t3, o3]; kernel_rfl) (by rw [t3]; exact int_eqIn d _ _ w) eqFields_nil)))).trans ?_
    congr 1
    rw [Bool.eq_iff_iff]
    simp
  | [], hf => simp at hf
  | [_], hf => simp at hf
  | [_, _], hf => simp at hf
  | [_, _, _], hf => simp at hf
  | _ :: _ :: _ :: _ :: _ :: _, hf => simp at hf
theorem event_eqIn (d : Nat) (a b : Ev) (w : World) : (Op.equalIn (d + 3) 65 (.agg #[.int .i64 a.k.at_, .int .i64 a.k.src, .int .i64 a.k.sent, .int .i64 a.k.no, .int .i64 a.dst, .int .i64 a.kind, .int .i64 a.data])
    (.agg #[.int .i64 b.k.at_, .int .i64 b.k.src, .int .i64 b.k.sent, .int .i64 b.k.no, .int .i64 b.dst, .int .i64 b.kind, .int .i64 b.data])).run Tryd.prog w = .ok (decide (a = b)) w := by
  have hf := event_fields
  rw [run_equalIn_agg (P := Tryd.prog) w (d + 2) 65 _ _ (by kernel_rfl) (by kernel_rfl)]
  generalize ((Tryd.prog).fieldsOf 65).toList = fs at hf ⊢
  obtain ⟨⟨x0, x1, x2, x3⟩, x4, x5, x6⟩ := a
  obtain ⟨⟨y0, y1, y2, y3⟩, y4, y5, y6⟩ := b
  match fs, hf with
  | [f0, f1, f2, f3], hf =>
    simp only [List.map_cons, List.map_nil, List.cons.injEq, Prod.mk.injEq, and_true, decide_eq_true_eq] at hf
    obtain ⟨⟨t0, o0, n0⟩, ⟨t1, o1, n1⟩, ⟨t2, o2, n2⟩, t3, o3, n3⟩ := hf
    refine (eqFields_cons n0 (a := .agg #[.int .i64 x0, .int .i64 x1, .int .i64 x2, .int .i64 x3]) (b := .agg #[.int .i64 y0, .int .i64 y1, .int .i64 y2, .int .i64 y3]) (by rw [t0, o0]; kernel_rfl) (by rw [t0, o0]; kernel_rfl) (by rw [t0]; exact key_eqIn d ⟨x0, x1, x2, x3⟩ ⟨y0, y1, y2, y3⟩ w)
      (eqFields_cons n1 (a := .int .i64 x4) (b := .int .i64 y4) (by rw [t1, o1]; kernel_rfl) (by rw [t1, o1]; kernel_rfl) (by rw [t1]; exact int_eqIn (d + 1) _ _ w)
      (eqFields_cons n2 (a := .int .i64 x5) (b := .int .i64 y5) (by rw [t2, o2]; kernel_rfl) (by rw [t2, o2]; kernel_rfl) (by rw [t2]; exact int_eqIn (d + 1) _ _ w)
      (eqFields_cons n3 (a := .int .i64 x6) (b := .int .i64 y6) (by rw [t3, o3]; kernel_rfl) (by rw [t3, o3]; kernel_rfl) (by rw [t3]; exact int_eqIn (d + 1) _ _ w) eqFields_nil)))).trans ?_
    congr 1
    rw [Bool.eq_iff_iff]
    simp
  | [], hf => simp at hf
  | [_], hf => simp at hf
  | [_, _], hf => simp at hf
  | [_, _, _], hf => simp at hf
  | _ :: _ :: _ :: _ :: _ :: _, hf => simp at hf
theorem id_eql (a b : Iv) (w : World) : (binOp BinOp.eql 69 (.agg #[.int .i64 a.src, .int .i64 a.sent, .int .i64 a.no]) (.agg #[.int .i64 b.src, .int .i64 b.sent, .int .i64 b.no])).run Tryd.prog w = .ok (.bool (decide (a = b))) w := by
  rw [run_eql_struct, id_eqIn 9998]; rfl
theorem key_eql (a b : Kv) (w : World) : (binOp BinOp.eql 63 (.agg #[.int .i64 a.at_, .int .i64 a.src, .int .i64 a.sent, .int .i64 a.no]) (.agg #[.int .i64 b.at_, .int .i64 b.src, .int .i64 b.sent, .int .i64 b.no])).run Tryd.prog w = .ok (.bool (decide (a = b))) w := by
  rw [run_eql_struct, key_eqIn 9998]; rfl
theorem event_eql (a b : Ev) (w : World) : (binOp BinOp.eql 65 (.agg #[.int .i64 a.k.at_, .int .i64 a.k.src, .int .i64 a.k.sent, .int .i64 a.k.no, .int .i64 a.dst, .int .i64 a.kind, .int .i64 a.data])
    (.agg #[.int .i64 b.k.at_, .int .i64 b.k.src, .int .i64 b.k.sent, .int .i64 b.k.no, .int .i64 b.dst, .int .i64 b.kind, .int .i64 b.data])).run Tryd.prog w = .ok (.bool (decide (a = b))) w := by
  rw [run_eql_struct, event_eqIn 9997]; rfl
theorem event_neq (a b : Ev) (w : World) : (binOp BinOp.neq 65 (.agg #[.int .i64 a.k.at_, .int .i64 a.k.src, .int .i64 a.k.sent, .int .i64 a.k.no, .int .i64 a.dst, .int .i64 a.kind, .int .i64 a.data])
    (.agg #[.int .i64 b.k.at_, .int .i64 b.k.src, .int .i64 b.k.sent, .int .i64 b.k.no, .int .i64 b.dst, .int .i64 b.kind, .int .i64 b.data])).run Tryd.prog w = .ok (.bool (!decide (a = b))) w := by
  rw [run_neq_struct, event_eqIn 9997]; rfl
theorem id_guard : (Tryd.prog).eqGuardType (Tryd.prog).depth 69 = false := by kernel_rfl
theorem key_guard : (Tryd.prog).eqGuardType (Tryd.prog).depth 63 = false := by kernel_rfl
theorem event_guard : (Tryd.prog).eqGuardType (Tryd.prog).depth 65 = false := by kernel_rfl
def Kv.lt (a b : Kv) : Bool :=
  if a.at_ ≠ b.at_ then decide (a.at_ < b.at_) else if a.src ≠ b.src then decide (a.src < b.src) else if a.sent ≠ b.sent then decide (a.sent < b.sent) else decide (a.no < b.no)
def Kv.cmp (a b : Kv) : Int := if a.lt b = true then -1 else if b.lt a = true then 1 else 0
/-- What a call answers, and that it only makes memory. -/
def Says (r : Value) (w : World) (e : Ending) (w' : World) : Prop := e = .returned r ∧ Frm [] w w'
set_option maxHeartbeats 400000 in
theorem before_any (a b : Kv) (w : World) : Calls Tryd.prog 41 #[.agg #[.int .i64 a.at_, .int .i64 a.src, .int .i64 a.sent, .int .i64 a.no], .agg #[.int .i64 b.at_, .int .i64 b.src, .int .i64 b.sent, .int .i64 b.no]] w (Says (.bool (a.lt b)) w) := by
  obtain ⟨x0, x1, x2, x3⟩ := a
  obtain ⟨y0, y1, y2, y3⟩ := b
  by_cases h0 : x0 = y0
  · by_cases h1 : x1 = y1
    · by_cases h2 : x2 = y2
      · have hv : Kv.lt ⟨x0, x1, x2, x3⟩ ⟨y0, y1, y2, y3⟩ = decide (x3 < y3) := by simp [Kv.lt, h0, h1, h2]
        rw [hv]
        clear hv
        subst h0 h1 h2
        go_enter Tryd.func41, Tryd.ntmps41
        go_wp2
        go_ret
        exact ⟨rfl, ((Frm.refl _ _).alloc _).alloc _⟩
      · have hv : Kv.lt ⟨x0, x1, x2, x3⟩ ⟨y0, y1, y2, y3⟩ = decide (x2 < y2) := by simp [Kv.lt, h0, h1, h2]
        rw [hv]
        clear hv
        subst h0 h1
        have g2 : (x2 != y2) = true := by simpa using h2
        go_enter Tryd.func41, Tryd.ntmps41
        go_wp2
        go_ret
        exact ⟨rfl, ((Frm.refl _ _).alloc _).alloc _⟩
    · have hv : Kv.lt ⟨x0, x1, x2, x3⟩ ⟨y0, y1, y2, y3⟩ = decide (x1 < y1) := by simp [Kv.lt, h0, h1]
      rw [hv]
      clear hv
      subst h0
      have g1 : (x1 != y1) = true := by simpa using h1
      go_enter Tryd.func41, Tryd.ntmps41
      go_wp2
      go_ret
      exact ⟨rfl, ((Frm.refl _ _).alloc _).alloc _⟩
  · have hv : Kv.lt ⟨x0, x1, x2, x3⟩ ⟨y0, y1, y2, y3⟩ = decide (x0 < y0) := by simp [Kv.lt, h0]
    rw [hv]
    clear hv
    have g0 : (x0 != y0) = true := by simpa using h0
    go_enter Tryd.func41, Tryd.ntmps41
    go_wp2
    go_ret
    exact ⟨rfl, ((Frm.refl _ _).alloc _).alloc _⟩
set_option maxHeartbeats 400000 in
theorem less_any (a b : Kv) (w : World) : Calls Tryd.prog 47 #[.agg #[.int .i64 a.at_, .int .i64 a.src, .int .i64 a.sent, .int .i64 a.no], .agg #[.int .i64 b.at_, .int .i64 b.src, .int .i64 b.sent, .int .i64 b.no]] w (Says (.bool (a.lt b)) w) := by
  obtain ⟨x0, x1, x2, x3⟩ := a
  obtain ⟨y0, y1, y2, y3⟩ := b
  by_cases h0 : x0 = y0
  · by_cases h1 : x1 = y1
    · by_cases h2 : x2 = y2
      · have hv : Kv.lt ⟨x0, x1, x2, x3⟩ ⟨y0, y1, y2, y3⟩ = decide (x3 < y3) := by simp [Kv.lt, h0, h1, h2]
        rw [hv]
        clear hv
        subst h0 h1 h2
        go_enter Tryd.func47, Tryd.ntmps47
        go_wp2
        go_ret
        exact ⟨rfl, ((Frm.refl _ _).alloc _).alloc _⟩
      · have hv : Kv.lt ⟨x0, x1, x2, x3⟩ ⟨y0, y1, y2, y3⟩ = decide (x2 < y2) := by simp [Kv.lt, h0, h1, h2]
        rw [hv]
        clear hv
        subst h0 h1
        have g2 : (x2 != y2) = true := by simpa using h2
        go_enter Tryd.func47, Tryd.ntmps47
        go_wp2
        go_ret
        exact ⟨rfl, ((Frm.refl _ _).alloc _).alloc _⟩
    · have hv : Kv.lt ⟨x0, x1, x2, x3⟩ ⟨y0, y1, y2, y3⟩ = decide (x1 < y1) := by simp [Kv.lt, h0, h1]
      rw [hv]
      clear hv
      subst h0
      have g1 : (x1 != y1) = true := by simpa using h1
      go_enter Tryd.func47, Tryd.ntmps47
      go_wp2
      go_ret
      exact ⟨rfl, ((Frm.refl _ _).alloc _).alloc _⟩
  · have hv : Kv.lt ⟨x0, x1, x2, x3⟩ ⟨y0, y1, y2, y3⟩ = decide (x0 < y0) := by simp [Kv.lt, h0]
    rw [hv]
    clear hv
    have g0 : (x0 != y0) = true := by simpa using h0
    go_enter Tryd.func47, Tryd.ntmps47
    go_wp2
    go_ret
    exact ⟨rfl, ((Frm.refl _ _).alloc _).alloc _⟩
theorem says_trans {r r' : Value} {w w1 w2 : World} {e e' : Ending} (h1 : Says r w e w1) (h2 : Says r' w1 e' w2) : Says r' w e' w2 := ⟨h2.1, h1.2.trans h2.2 (by simp)⟩
set_option maxHeartbeats 400000 in
theorem compare_any (a b : Kv) (w : World) : Calls Tryd.prog 26 #[.agg #[.int .i64 a.at_, .int .i64 a.src, .int .i64 a.sent, .int .i64 a.no], .agg #[.int .i64 b.at_, .int .i64 b.src, .int .i64 b.sent, .int .i64 b.no]] w (Says (.int .i64 (a.cmp b)) w) := by
  have hst := ((Holds.start w).alloc noneR_stable (.cells #[.int .i64 a.at_, .int .i64 a.src, .int .i64 a.sent, .int .i64 a.no] 63)).alloc noneR_stable (.cells #[.int .i64 b.at_, .int .i64 b.src, .int .i64 b.sent, .int .i64 b.no] 63)
  have hF : Frm [] w ((w.alloc (.cells #[.int .i64 a.at_, .int .i64 a.src, .int .i64 a.sent, .int .i64 a.no] 63)).alloc (.cells #[.int .i64 b.at_, .int .i64 b.src, .int .i64 b.sent, .int .i64 b.no] 63)) := ((Frm.refl _ _).alloc _).alloc _
  have H0 := Lib.hid hst
  have HF := Lib.hid hF
  clear hst hF
  by_cases h1 : a.lt b = true
  · have hv : a.cmp b = -1 := by simp [Kv.cmp, h1]
    rw [hv]
    have hc := before_any a b
    rw [h1] at hc
    have Hc := Lib.hid hc
    clear hc hv
    go_enter Tryd.func26, Tryd.ntmps26
    go_wp2_with fail
    refine (Hc.out _).mono ?_
    rintro e w1 ⟨rfl, hf⟩
    have Hf := Lib.hid hf
    clear hf
    go_wp2
    go_ret
    exact ⟨rfl, HF.out.trans Hf.out (by simp)⟩
  · have h1' : a.lt b = false := by simpa using h1
    have hc := before_any a b
    rw [h1'] at hc
    have Hc := Lib.hid hc
    clear hc
    by_cases h2 : b.lt a = true
    · have hv : a.cmp b = 1 := by simp [Kv.cmp, h1', h2]
      rw [hv]
      have hd := before_any b a
      rw [h2] at hd
      have Hd := Lib.hid hd
      clear hd hv h1 h1' h2
      go_enter Tryd.func26, Tryd.ntmps26
      go_wp2_with fail
      refine (Hc.out _).mono ?_
      rintro e w1 ⟨rfl, hf⟩
      have H1 := Lib.hid (H0.out.made noneR_stable hf)
      have Hf := Lib.hid hf
      clear hf
      have hbx := H1.out.box (k := w.heap.size) (o := .cells #[.int .i64 a.at_, .int .i64 a.src, .int .i64 a.sent, .int .i64 a.no] 63) (by simp)
      have hby := H1.out.box (k := w.heap.size + 1) (o := .cells #[.int .i64 b.at_, .int .i64 b.src, .int .i64 b.sent, .int .i64 b.no] 63) (by simp)
      obtain ⟨p0, p1, p2, p3⟩ := cells4 hbx
      obtain ⟨q0, q1, q2, q3⟩ := cells4 hby
      clear hbx hby
      go_wp2_with fail
      refine (Hd.out _).mono ?_
      rintro e w2 ⟨rfl, hf⟩
      have Hg := Lib.hid hf
      clear hf p0 p1 p2 p3 q0 q1 q2 q3
      go_wp2
      go_ret
      exact ⟨rfl, (HF.out.trans Hf.out (by simp)).trans Hg.out (by simp)⟩
    · have h2' : b.lt a = false := by simpa using h2
      have hv : a.cmp b = 0 := by simp [Kv.cmp, h1', h2']
      rw [hv]
      have hd := before_any b a
      rw [h2'] at hd
      have Hd := Lib.hid hd
      clear hd hv h1 h1' h2 h2'
      go_enter Tryd.func26, Tryd.ntmps26
      go_wp2_with fail
      refine (Hc.out _).mono ?_
      rintro e w1 ⟨rfl, hf⟩
      have H1 := Lib.hid (H0.out.made noneR_stable hf)
      have Hf := Lib.hid hf
      clear hf
      have hbx := H1.out.box (k := w.heap.size) (o := .cells #[.int .i64 a.at_, .int .i64 a.src, .int .i64 a.sent, .int .i64 a.no] 63) (by simp)
      have hby := H1.out.box (k := w.heap.size + 1) (o := .cells #[.int .i64 b.at_, .int .i64 b.src, .int .i64 b.sent, .int .i64 b.no] 63) (by simp)
      obtain ⟨p0, p1, p2, p3⟩ := cells4 hbx
      obtain ⟨q0, q1, q2, q3⟩ := cells4 hby
      clear hbx hby
      go_wp2_with fail
      refine (Hd.out _).mono ?_
      rintro e w2 ⟨rfl, hf⟩
      have Hg := Lib.hid hf
      clear hf p0 p1 p2 p3 q0 q1 q2 q3
      go_wp2
      go_ret
      exact ⟨rfl, (HF.out.trans Hf.out (by simp)).trans Hg.out (by simp)⟩
theorem lt_iff (a b : Kv) : a.lt b = true ↔ a.at_ < b.at_ ∨ (a.at_ = b.at_ ∧ (a.src < b.src ∨ (a.src = b.src ∧ (a.sent < b.sent ∨ (a.sent = b.sent ∧ a.no < b.no))))) := by
  unfold Kv.lt
  by_cases h0 : a.at_ = b.at_
  · by_cases h1 : a.src = b.src
    · by_cases h2 : a.sent = b.sent
      · simp [h0, h1, h2]
      · simp [h0, h1, h2]
    · simp [h0, h1]
  · simp [h0]
theorem lt_irrefl (a : Kv) : a.lt a = false := by
  cases h : a.lt a
  · rfl
  · rw [lt_iff] at h; omega
theorem lt_asymm {a b : Kv} (h : a.lt b = true) : b.lt a = false := by
  cases h' : b.lt a
  · rfl
  · rw [lt_iff] at h h'; omega
theorem lt_trans {a b c : Kv} (h : a.lt b = true) (h' : b.lt c = true) : a.lt c = true := by
  rw [lt_iff] at *; omega
theorem lt_total {a b : Kv} (h : a.lt b = false) (h' : b.lt a = false) : a = b := by
  have h1 : ¬ (a.lt b = true) := by rw [h]; simp
  have h2 : ¬ (b.lt a = true) := by rw [h']; simp
  rw [lt_iff] at h1 h2
  obtain ⟨x0, x1, x2, x3⟩ := a
  obtain ⟨y0, y1, y2, y3⟩ := b
  simp only at h1 h2
  simp only [Kv.mk.injEq]
  omega
theorem cmp_cases (a b : Kv) : (a.cmp b = -1 ∧ a.lt b = true) ∨ (a.cmp b = 0 ∧ a = b) ∨ (a.cmp b = 1 ∧ b.lt a = true) := by
  unfold Kv.cmp
  cases h : a.lt b
  · cases h' : b.lt a
    · exact .inr (.inl ⟨by simp, lt_total h h'⟩)
    · exact .inr (.inr ⟨by simp, rfl⟩)
  · exact .inl ⟨by simp, rfl⟩
theorem cmp_lt {a b : Kv} (h : a.lt b = true) : a.cmp b = -1 := by simp [Kv.cmp, h]
theorem cmp_gt {a b : Kv} (h : b.lt a = true) : a.cmp b = 1 := by simp [Kv.cmp, h, lt_asymm h]
theorem cmp_self (a : Kv) : a.cmp a = 0 := by simp [Kv.cmp, lt_irrefl]
theorem lt_ne {a b : Kv} (h : a.lt b = true) : decide (a = b) = false := by
  rw [decide_eq_false_iff_not]
  intro e
  subst e
  rw [lt_irrefl] at h
  cases h
def Ev.check (e : Ev) : Int :=
  if e.k.src < -1 ∨ 32 ≤ e.k.src ∨ e.dst < 0 ∨ 32 ≤ e.dst ∨ e.k.no < 0 ∨ 1024 ≤ e.k.no ∨ e.k.at_ < 0 ∨ 1073741824 < e.k.at_ then 10 else if e.k.sent < -1 ∨ e.k.at_ ≤ e.k.sent then 18 else 0
theorem check_10 {e : Ev} (h : e.k.src < -1 ∨ 32 ≤ e.k.src ∨ e.dst < 0 ∨ 32 ≤ e.dst ∨ e.k.no < 0 ∨ 1024 ≤ e.k.no ∨ e.k.at_ < 0 ∨ 1073741824 < e.k.at_) : e.check = 10 := if_pos h
theorem check_18 {e : Ev} (h : ¬ (e.k.src < -1 ∨ 32 ≤ e.k.src ∨ e.dst < 0 ∨ 32 ≤ e.dst ∨ e.k.no < 0 ∨ 1024 ≤ e.k.no ∨ e.k.at_ < 0 ∨ 1073741824 < e.k.at_)) (h' : e.k.sent < -1 ∨ e.k.at_ ≤ e.k.sent) : e.check = 18 := by
  unfold Ev.check; rw [if_neg h, if_pos h']
theorem check_0 {e : Ev} (h : ¬ (e.k.src < -1 ∨ 32 ≤ e.k.src ∨ e.dst < 0 ∨ 32 ≤ e.dst ∨ e.k.no < 0 ∨ 1024 ≤ e.k.no ∨ e.k.at_ < 0 ∨ 1073741824 < e.k.at_)) (h' : ¬ (e.k.sent < -1 ∨ e.k.at_ ≤ e.k.sent)) : e.check = 0 := by
  unfold Ev.check; rw [if_neg h, if_neg h']
set_option maxHeartbeats 400000 in
theorem of_any (e : Ev) (w : World) : Calls Tryd.prog 27 #[.agg #[.int .i64 e.k.at_, .int .i64 e.k.src, .int .i64 e.k.sent, .int .i64 e.k.no, .int .i64 e.dst, .int .i64 e.kind, .int .i64 e.data]] w
    (Says (.agg #[.int .i64 e.k.src, .int .i64 e.k.sent, .int .i64 e.k.no]) w) := by
  go_enter Tryd.func27, Tryd.ntmps27
  go_wp2
  refine bodyPost_ret (v := .agg #[.int .i64 e.k.src, .int .i64 e.k.sent, .int .i64 e.k.no]) (by simp [results, Tryd.results27, go_sem]) rfl ⟨rfl, ?_⟩
  exact ((Frm.refl _ _).alloc _).alloc _
set_option maxHeartbeats 1000000 in
theorem kcheck_any (e : Ev) (w : World) : Calls Tryd.prog 25 #[.agg #[.int .i64 e.k.at_, .int .i64 e.k.src, .int .i64 e.k.sent, .int .i64 e.k.no, .int .i64 e.dst, .int .i64 e.kind, .int .i64 e.data]] w (Says (.int .i64 e.check) w) := by
  have H10 := Lib.hid (@check_10 e)
  have H18 := Lib.hid (@check_18 e)
  have H0 := Lib.hid (@check_0 e)
  go_enter Tryd.func25, Tryd.ntmps25
  go_wp2
  all_goals
    go_ret
    first
      | (rw [H10.out (by omega)]; exact ⟨rfl, (Frm.refl _ _).alloc _⟩)
      | (rw [H18.out (by omega) (by omega)]; exact ⟨rfl, (Frm.refl _ _).alloc _⟩)
      | (rw [H0.out (by omega) (by omega)]; exact ⟨rfl, (Frm.refl _ _).alloc _⟩)
def Kv.id (k : Kv) : Iv := ⟨k.src, k.sent, k.no⟩
/-- What a call has made beside what is held is held, too. -/
theorem Holds.join {R R' : World → List Nat → Prop} {B : Nat} {w0 w w' : World} {L : List (Nat × Obj)} (hR : Stable R) (h : Holds B w0 R w L) (h' : Holds w.heap.size w R' w' []) : Holds B w0 (sepR R' R) w' L := by
  obtain ⟨F', h1, hb, hlo, hle⟩ := h'
  have hf : Frm [] w w' := Frm.of_below hb (Nat.le_refl _)
  have hm := h.made hR hf
  obtain ⟨F, h2, _, h3, h4⟩ := h
  obtain ⟨_, h5, h6, _, _⟩ := hm
  have hR' : R w' F := hR [] w w' F h2.res hf (by simp)
  have hlt : ∀ k ∈ F, k < w'.heap.size := fun k hk => Nat.lt_of_lt_of_le (h2.lt k hk) hle
  refine ⟨F' ++ F, ⟨⟨F', F, h1.res, hR', fun k hk hm => ?_, h1.lt, hlt, rfl⟩, fun k hk => ?_, fun p hp => ⟨hf.obj (h2.box p hp).1 (by simp), fun hm => ?_⟩⟩, h6, fun k hk => ?_, Nat.le_trans h4 hle⟩
  · have := hlo k hk; have := h2.lt k hm; omega
  · rcases List.mem_append.1 hk with h | h
    · exact h1.lt k h
    · exact hlt k h
  · rcases List.mem_append.1 hm with h | h
    · have := hlo _ h; have := lt_of_obj (h2.box p hp).1; omega
    · exact (h2.box p hp).2 h
  · rcases List.mem_append.1 hk with h | h
    · have := hlo k h; omega
    · exact h3 k h
theorem Holds.row2 {A Q : World → List Nat → Prop} {B : Nat} {w0 w : World} {L : List (Nat × Obj)} {e : TypeId} {size : Nat} {v : Value} {n : Nat} {xs : List Value} (h : Holds B w0 (sepR A (sepR (rowR e size v n xs) Q)) w L) : w.ownsRow 0 e size v n xs := by
  obtain ⟨F, h, _⟩ := h
  obtain ⟨F1, F2, _, ⟨F3, F4, hR, _⟩, _⟩ := h.res
  exact hR.1
theorem Holds.row3 {A A' Q : World → List Nat → Prop} {B : Nat} {w0 w : World} {L : List (Nat × Obj)} {e : TypeId} {size : Nat} {v : Value} {n : Nat} {xs : List Value} (h : Holds B w0 (sepR A (sepR A' (sepR (rowR e size v n xs) Q))) w L) : w.ownsRow 0 e size v n xs := by
  obtain ⟨F, h, _⟩ := h
  obtain ⟨F1, F2, _, ⟨F3, F4, _, ⟨F5, F6, hR, _⟩, _⟩, _⟩ := h.res
  exact hR.1
theorem row_addr {w : World} {base : Nat} {e : TypeId} {size : Nat} {a : Option Addr} {n c : Nat} {xs : List Value} (h : w.ownsRow base e size (.slice a n c) n xs) (hn : 0 < n) : ∃ g, a = some ⟨g, 0, none⟩ ∧ g < w.heap.size ∧ n ≤ c := by
  obtain ⟨g, cc, hv, h1, h2, _⟩ := row_some h hn
  simp only [Value.slice.injEq] at hv
  obtain ⟨rfl, _, rfl⟩ := hv
  exact ⟨g, rfl, h1, h2⟩
end Go.Proofs.YtbkadfdpboghiaaDoor
