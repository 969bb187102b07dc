/- Keys as they lie in memory, how two of them are compared by '==', which one is ahead; keys as keys of a map. -/
import Derived.Test.YtclaicpnjllhjaaHold2
import Derived.Laws.StructEq
import Derived.Test.YtclaicpnjllhjaaRows
namespace Go.Proofs.Ytclaicpnjllhjaa
open Go.RowKit

theorem cells4 {w : World} {b : Nat} {x y z u : Value} {t : TypeId} {f : Nat × Nat} (h : w.heap[b]? = some (.cells #[x, y, z, u] t f)) : w.cell? ⟨b, 0, none⟩ = some x ∧ w.cell? ⟨b, 1, none⟩ = some y ∧ w.cell? ⟨b, 2, none⟩ = some z ∧ w.cell? ⟨b, 3, none⟩ = some u := by
  refine ⟨?_, ?_, ?_, ?_⟩ <;> (rw [cell_of_obj h]; rfl)

structure Kv where
  at_ : Int
  src : Int
  sent : Int
  no : Int
deriving DecidableEq
theorem eqFields_cons {P : Program} {w : World} {d : Nat} {xs ys : Array Value} {f : Field} {fs : List Field} {a b : Value} {r s : Bool} (hn : f.name ≠ "_") (ha : (part f.type xs f.offset).run P w = .ok a w)
    (hb : (part f.type ys f.offset).run P w = .ok b w) (hr : (Op.equalIn d f.type a b).run P w = .ok r w) (hs : (Op.eqFields d xs ys fs).run P w = .ok s w) : (Op.eqFields d xs ys (f :: fs)).run P w = .ok (r && s) w := by
  simp only [Op.eqFields, if_pos hn, Sem.run_bind, ha, hb, hr, Result.andThen_ok]
  cases r
  · rfl
  · simp only [Bool.not_true, Bool.false_eq_true, if_false, hs, Bool.true_and]
theorem eqFields_nil {P : Program} {w : World} {d : Nat} {xs ys : Array Value} : (Op.eqFields d xs ys []).run P w = .ok true w := rfl

theorem key_fields : ((Try.prog).fieldsOf 33).toList.map (fun f => (f.type, f.offset, decide (f.name ≠ "_"))) = [(3, 0, true), (3, 1, true), (3, 2, true), (3, 3, true)] := by kernel_rfl
theorem int_eqIn (d : Nat) (a b : Int) (w : World) : (Op.equalIn (d + 1) 3 (.int .i64 a) (.int .i64 b)).run Try.prog w = .ok (a == b) w := run_equalIn_int (P := Try.prog) w d 3 .i64 .i64 a b Try.underlying3
theorem key_eqIn (d : Nat) (a b : Kv) (w : World) : (Op.equalIn (d + 2) 33 (.agg #[.int .i64 a.at_, .int .i64 a.src, .int .i64 a.sent, .int .i64 a.no]) (.agg #[.int .i64 b.at_, .int .i64 b.src, .int .i64 b.sent, .int .i64 b.no])).run Try.prog w = .ok (decide (a = b)) w := by
  have hf := key_fields
  rw [run_equalIn_agg (P := Try.prog) w (d + 1) 33 _ _ (by kernel_rfl) (by kernel_rfl)]
  generalize ((Try.prog).fieldsOf 33).toList = fs at hf ⊢
  obtain ⟨x0, x1, x2, x3⟩ := a
  obtain ⟨y0, y1, y2, y3⟩ := b
  match fs, hf with
  | [f0, f1, f2, f3], hf =>
    simp only [List.map_cons, List.map_nil, List.cons.injEq, Prod.mk.injEq, and_true, decide_eq_true_eq] at hf
    obtain ⟨⟨t0, o0, n0⟩, ⟨t1, o1, n1⟩, ⟨t2, o2, n2⟩, t3, o3, n3⟩ := hf
    refine (eqFields_cons n0 (a := .int .i64 x0) (b := .int .i64 y0) (by rw [t0, o0]; kernel_rfl) (by rw [t0, o0]; kernel_rfl) (by rw [t0]; exact int_eqIn d _ _ w)
      (eqFields_cons n1 (a := .int .i64 x1) (b := .int .i64 y1) (by rw [t1, o1]; kernel_rfl) (by rw [t1, o1]; kernel_rfl) (by rw [t1]; exact int_eqIn d _ _ w)
      (eqFields_cons n2 (a := .int .i64 x2) (b := .int .i64 y2) (by rw [t2, o2]; kernel_rfl) (by rw [t2, o2]; kernel_rfl) (by rw [t2]; exact int_eqIn d _ _ w)
      (eqFields_cons n3 (a := .int .i64 x3) (b := .int .i64 y3) (by rw [t3, o3]; kernel_rfl) (by rw [t3, o3]; kernel_rfl) (by rw [t3]; exact int_eqIn d _ _ w) eqFields_nil)))).trans ?_
    congr 1
    rw [Bool.eq_iff_iff]
    simp
  | [], hf => simp at hf
  | [_], hf => simp at hf
  | [_, _], hf => simp at hf
  | [_, _, _], hf => simp at hf
  | _ :: _ :: _ :: _ :: _ :: _, hf => simp at hf
theorem key_eql (a b : Kv) (w : World) : (binOp BinOp.eql 33 (.agg #[.int .i64 a.at_, .int .i64 a.src, .int .i64 a.sent, .int .i64 a.no]) (.agg #[.int .i64 b.at_, .int .i64 b.src, .int .i64 b.sent, .int .i64 b.no])).run Try.prog w = .ok (.bool (decide (a = b))) w := by
  rw [run_eql_struct, key_eqIn 9998]; rfl
theorem key_neq (a b : Kv) (w : World) : (binOp BinOp.neq 33 (.agg #[.int .i64 a.at_, .int .i64 a.src, .int .i64 a.sent, .int .i64 a.no]) (.agg #[.int .i64 b.at_, .int .i64 b.src, .int .i64 b.sent, .int .i64 b.no])).run Try.prog w = .ok (.bool (!decide (a = b))) w := by
  rw [run_neq_struct, key_eqIn 9998]; rfl
theorem key_guard : (Try.prog).eqGuardType (Try.prog).depth 33 = false := by kernel_rfl

def Kv.lt (a b : Kv) : Bool :=
  if a.at_ ≠ b.at_ then decide (a.at_ < b.at_) else if a.src ≠ b.src then decide (a.src < b.src) else if a.sent ≠ b.sent then decide (a.sent < b.sent) else decide (a.no < b.no)
def Kv.cmp (a b : Kv) : Int := if a.lt b = true then -1 else if b.lt a = true then 1 else 0

/-- What a call answers, and that it only makes memory. -/
def Says (r : Value) (w : World) (e : Ending) (w' : World) : Prop := e = .returned r ∧ Frm [] w w'

set_option maxHeartbeats 400000 in
theorem before_any (a b : Kv) (w : World) : Calls Try.prog 38 #[.agg #[.int .i64 a.at_, .int .i64 a.src, .int .i64 a.sent, .int .i64 a.no], .agg #[.int .i64 b.at_, .int .i64 b.src, .int .i64 b.sent, .int .i64 b.no]] w (Says (.bool (a.lt b)) w) := by
  obtain ⟨x0, x1, x2, x3⟩ := a
  obtain ⟨y0, y1, y2, y3⟩ := b
  by_cases h0 : x0 = y0
  · by_cases h1 : x1 = y1
    · by_cases h2 : x2 = y2
      · have hv : Kv.lt ⟨x0, x1, x2, x3⟩ ⟨y0, y1, y2, y3⟩ = decide (x3 < y3) := by simp [Kv.lt, h0, h1, h2]
        rw [hv]
        clear hv
        subst h0 h1 h2
        go_enter Try.func38, Try.ntmps38
        go_wp2
        go_ret
        exact ⟨rfl, ((Frm.refl _ _).alloc _).alloc _⟩
      · have hv : Kv.lt ⟨x0, x1, x2, x3⟩ ⟨y0, y1, y2, y3⟩ = decide (x2 < y2) := by simp [Kv.lt, h0, h1, h2]
        rw [hv]
        clear hv
        subst h0 h1
        have g2 : (x2 != y2) = true := by simpa using h2
        go_enter Try.func38, Try.ntmps38
        go_wp2
        go_ret
        exact ⟨rfl, ((Frm.refl _ _).alloc _).alloc _⟩
    · have hv : Kv.lt ⟨x0, x1, x2, x3⟩ ⟨y0, y1, y2, y3⟩ = decide (x1 < y1) := by simp [Kv.lt, h0, h1]
      rw [hv]
      clear hv
      subst h0
      have g1 : (x1 != y1) = true := by simpa using h1
      go_enter Try.func38, Try.ntmps38
      go_wp2
      go_ret
      exact ⟨rfl, ((Frm.refl _ _).alloc _).alloc _⟩
  · have hv : Kv.lt ⟨x0, x1, x2, x3⟩ ⟨y0, y1, y2, y3⟩ = decide (x0 < y0) := by simp [Kv.lt, h0]
    rw [hv]
    clear hv
    have g0 : (x0 != y0) = true := by simpa using h0
    go_enter Try.func38, Try.ntmps38
    go_wp2
    go_ret
    exact ⟨rfl, ((Frm.refl _ _).alloc _).alloc _⟩

set_option maxHeartbeats 400000 in
theorem less_any (a b : Kv) (w : World) : Calls Try.prog 40 #[.agg #[.int .i64 a.at_, .int .i64 a.src, .int .i64 a.sent, .int .i64 a.no], .agg #[.int .i64 b.at_, .int .i64 b.src, .int .i64 b.sent, .int .i64 b.no]] w (Says (.bool (a.lt b)) w) := by
  obtain ⟨x0, x1, x2, x3⟩ := a
  obtain ⟨y0, y1, y2, y3⟩ := b
  by_cases h0 : x0 = y0
  · by_cases h1 : x1 = y1
    · by_cases h2 : x2 = y2
      · have hv : Kv.lt ⟨x0, x1, x2, x3⟩ ⟨y0, y1, y2, y3⟩ = decide (x3 < y3) := by simp [Kv.lt, h0, h1, h2]
        rw [hv]
        clear hv
        subst h0 h1 h2
        go_enter Try.func40, Try.ntmps40
        go_wp2
        go_ret
        exact ⟨rfl, ((Frm.refl _ _).alloc _).alloc _⟩
      · have hv : Kv.lt ⟨x0, x1, x2, x3⟩ ⟨y0, y1, y2, y3⟩ = decide (x2 < y2) := by simp [Kv.lt, h0, h1, h2]
        rw [hv]
        clear hv
        subst h0 h1
        have g2 : (x2 != y2) = true := by simpa using h2
        go_enter Try.func40, Try.ntmps40
        go_wp2
        go_ret
        exact ⟨rfl, ((Frm.refl _ _).alloc _).alloc _⟩
    · have hv : Kv.lt ⟨x0, x1, x2, x3⟩ ⟨y0, y1, y2, y3⟩ = decide (x1 < y1) := by simp [Kv.lt, h0, h1]
      rw [hv]
      clear hv
      subst h0
      have g1 : (x1 != y1) = true := by simpa using h1
      go_enter Try.func40, Try.ntmps40
      go_wp2
      go_ret
      exact ⟨rfl, ((Frm.refl _ _).alloc _).alloc _⟩
  · have hv : Kv.lt ⟨x0, x1, x2, x3⟩ ⟨y0, y1, y2, y3⟩ = decide (x0 < y0) := by simp [Kv.lt, h0]
    rw [hv]
    clear hv
    have g0 : (x0 != y0) = true := by simpa using h0
    go_enter Try.func40, Try.ntmps40
    go_wp2
    go_ret
    exact ⟨rfl, ((Frm.refl _ _).alloc _).alloc _⟩

theorem says_trans {r r' : Value} {w w1 w2 : World} {e e' : Ending} (h1 : Says r w e w1) (h2 : Says r' w1 e' w2) : Says r' w e' w2 := ⟨h2.1, h1.2.trans h2.2 (by simp)⟩

set_option maxHeartbeats 400000 in
theorem compare_any (a b : Kv) (w : World) : Calls Try.prog 19 #[.agg #[.int .i64 a.at_, .int .i64 a.src, .int .i64 a.sent, .int .i64 a.no], .agg #[.int .i64 b.at_, .int .i64 b.src, .int .i64 b.sent, .int .i64 b.no]] w (Says (.int .i64 (a.cmp b)) w) := by
  have hst := ((Holds.start w).alloc noneR_stable (.cells #[.int .i64 a.at_, .int .i64 a.src, .int .i64 a.sent, .int .i64 a.no] 33)).alloc noneR_stable (.cells #[.int .i64 b.at_, .int .i64 b.src, .int .i64 b.sent, .int .i64 b.no] 33)
  have hF : Frm [] w ((w.alloc (.cells #[.int .i64 a.at_, .int .i64 a.src, .int .i64 a.sent, .int .i64 a.no] 33)).alloc (.cells #[.int .i64 b.at_, .int .i64 b.src, .int .i64 b.sent, .int .i64 b.no] 33)) := ((Frm.refl _ _).alloc _).alloc _
  have H0 := Lib.hid hst
  have HF := Lib.hid hF
  clear hst hF
  by_cases h1 : a.lt b = true
  · have hv : a.cmp b = -1 := by simp [Kv.cmp, h1]
    rw [hv]
    have hc := before_any a b
    rw [h1] at hc
    have Hc := Lib.hid hc
    clear hc hv
    go_enter Try.func19, Try.ntmps19
    go_wp2_with fail
    refine (Hc.out _).mono ?_
    rintro e w1 ⟨rfl, hf⟩
    have Hf := Lib.hid hf
    clear hf
    go_wp2
    go_ret
    exact ⟨rfl, HF.out.trans Hf.out (by simp)⟩
  · have h1' : a.lt b = false := by simpa using h1
    have hc := before_any a b
    rw [h1'] at hc
    have Hc := Lib.hid hc
    clear hc
    by_cases h2 : b.lt a = true
    · have hv : a.cmp b = 1 := by simp [Kv.cmp, h1', h2]
      rw [hv]
      have hd := before_any b a
      rw [h2] at hd
      have Hd := Lib.hid hd
      clear hd hv h1 h1' h2
      go_enter Try.func19, Try.ntmps19
      go_wp2_with fail
      refine (Hc.out _).mono ?_
      rintro e w1 ⟨rfl, hf⟩
      have H1 := Lib.hid (H0.out.made noneR_stable hf)
      have Hf := Lib.hid hf
      clear hf
      have hbx := H1.out.box (k := w.heap.size) (o := .cells #[.int .i64 a.at_, .int .i64 a.src, .int .i64 a.sent, .int .i64 a.no] 33) (by simp)
      have hby := H1.out.box (k := w.heap.size + 1) (o := .cells #[.int .i64 b.at_, .int .i64 b.src, .int .i64 b.sent, .int .i64 b.no] 33) (by simp)
      obtain ⟨p0, p1, p2, p3⟩ := cells4 hbx
      obtain ⟨q0, q1, q2, q3⟩ := cells4 hby
      clear hbx hby
      go_wp2_with fail
      refine (Hd.out _).mono ?_
      rintro e w2 ⟨rfl, hf⟩
      have Hg := Lib.hid hf
      clear hf p0 p1 p2 p3 q0 q1 q2 q3
      go_wp2
      go_ret
      exact ⟨rfl, (HF.out.trans Hf.out (by simp)).trans Hg.out (by simp)⟩
    · have h2' : b.lt a = false := by simpa using h2
      have hv : a.cmp b = 0 := by simp [Kv.cmp, h1', h2']
      rw [hv]
      have hd := before_any b a
      rw [h2'] at hd
      have Hd := Lib.hid hd
      clear hd hv h1 h1' h2 h2'
      go_enter Try.func19, Try.ntmps19
      go_wp2_with fail
      refine (Hc.out _).mono ?_
      rintro e w1 ⟨rfl, hf⟩
      have H1 := Lib.hid (H0.out.made noneR_stable hf)
      have Hf := Lib.hid hf
      clear hf
      have hbx := H1.out.box (k := w.heap.size) (o := .cells #[.int .i64 a.at_, .int .i64 a.src, .int .i64 a.sent, .int .i64 a.no] 33) (by simp)
      have hby := H1.out.box (k := w.heap.size + 1) (o := .cells #[.int .i64 b.at_, .int .i64 b.src, .int .i64 b.sent, .int .i64 b.no] 33) (by simp)
      obtain ⟨p0, p1, p2, p3⟩ := cells4 hbx
      obtain ⟨q0, q1, q2, q3⟩ := cells4 hby
      clear hbx hby
      go_wp2_with fail
      refine (Hd.out _).mono ?_
      rintro e w2 ⟨rfl, hf⟩
      have Hg := Lib.hid hf
      clear hf p0 p1 p2 p3 q0 q1 q2 q3
      go_wp2
      go_ret
      exact ⟨rfl, (HF.out.trans Hf.out (by simp)).trans Hg.out (by simp)⟩

theorem lt_iff (a b : Kv) : a.lt b = true ↔ a.at_ < b.at_ ∨ (a.at_ = b.at_ ∧ (a.src < b.src ∨ (a.src = b.src ∧ (a.sent < b.sent ∨ (a.sent = b.sent ∧ a.no < b.no))))) := by
  unfold Kv.lt
  by_cases h0 : a.at_ = b.at_
  · by_cases h1 : a.src = b.src
    · by_cases h2 : a.sent = b.sent
      · simp [h0, h1, h2]
      · simp [h0, h1, h2]
    · simp [h0, h1]
  · simp [h0]
theorem lt_irrefl (a : Kv) : a.lt a = false := by
  cases h : a.lt a
  · rfl
  · rw [lt_iff] at h; omega
theorem lt_asymm {a b : Kv} (h : a.lt b = true) : b.lt a = false := by
  cases h' : b.lt a
  · rfl
  · rw [lt_iff] at h h'; omega
theorem lt_trans {a b c : Kv} (h : a.lt b = true) (h' : b.lt c = true) : a.lt c = true := by
  rw [lt_iff] at *; omega
theorem lt_total {a b : Kv} (h : a.lt b = false) (h' : b.lt a = false) : a = b := by
  have h1 : ¬ (a.lt b = true) := by rw [h]; simp
  have h2 : ¬ (b.lt a = true) := by rw [h']; simp
  rw [lt_iff] at h1 h2
  obtain ⟨x0, x1, x2, x3⟩ := a
  obtain ⟨y0, y1, y2, y3⟩ := b
  simp only at h1 h2
  simp only [Kv.mk.injEq]
  omega
theorem cmp_cases (a b : Kv) : (a.cmp b = -1 ∧ a.lt b = true) ∨ (a.cmp b = 0 ∧ a = b) ∨ (a.cmp b = 1 ∧ b.lt a = true) := by
  unfold Kv.cmp
  cases h : a.lt b
  · cases h' : b.lt a
    · exact .inr (.inl ⟨by simp, lt_total h h'⟩)
    · exact .inr (.inr ⟨by simp, rfl⟩)
  · exact .inl ⟨by simp, rfl⟩
theorem cmp_lt {a b : Kv} (h : a.lt b = true) : a.cmp b = -1 := by simp [Kv.cmp, h]
theorem cmp_gt {a b : Kv} (h : b.lt a = true) : a.cmp b = 1 := by simp [Kv.cmp, h, lt_asymm h]
theorem cmp_self (a : Kv) : a.cmp a = 0 := by simp [Kv.cmp, lt_irrefl]
theorem lt_ne {a b : Kv} (h : a.lt b = true) : decide (a = b) = false := by
  rw [decide_eq_false_iff_not]
  intro e
  subst e
  rw [lt_irrefl] at h
  cases h

theorem le_trans' {a b c : Kv} (h : b.lt a = false) (h' : c.lt b = false) : c.lt a = false := by
  cases hc : c.lt a
  · rfl
  · exfalso
    have h1 : ¬ (b.lt a = true) := by rw [h]; simp
    have h2 : ¬ (c.lt b = true) := by rw [h']; simp
    rw [lt_iff] at *
    omega
theorem lt_le_trans {a b c : Kv} (h : a.lt b = true) (h' : c.lt b = false) : a.lt c = true := by
  have h2 : ¬ (c.lt b = true) := by rw [h']; simp
  rw [lt_iff] at *
  omega
theorem le_lt_trans {a b c : Kv} (h : b.lt a = false) (h' : b.lt c = true) : a.lt c = true := by
  have h2 : ¬ (b.lt a = true) := by rw [h]; simp
  rw [lt_iff] at *
  omega

end Go.Proofs.Ytclaicpnjllhjaa
