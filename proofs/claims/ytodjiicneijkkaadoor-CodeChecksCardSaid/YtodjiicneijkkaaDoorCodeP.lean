/- Package code: what is laid in the listed variables, from world to world; an instruction's line; Print. -/
import Derived.Test.YtodjiicneijkkaaDoorCodeM
import Derived.Test.YtodjiicneijkkaaDoorCodeB
import Derived.Lib.SmallJoins
import Derived.Lib.ItoaLen
import Derived.Lib.AppendIntMem
namespace Go.Proofs.YtodjiicneijkkaaDoor
open Go.RowKit Go.Maps

/-- What the calls read of the listed variables. -/
structure Facts (w : World) : Prop where
  ops : Ops w
  pow : Lib.TabIs Tryd.prog w "internal/strconv.uint64pow10" .u64 Lib.pow10Tab
  maxl : ∃ m, w.cell? ⟨1, 0, none⟩ = some (.int .i64 m)
  syn : ∃ te pe, w.cell? ⟨3, 0, none⟩ = some (.iface te pe)
  ran : ∃ te pe, w.cell? ⟨4, 0, none⟩ = some (.iface te pe)
theorem powG : Tryd.prog.globalNamed "internal/strconv.uint64pow10" = some 2 := by kernel_rfl
theorem Facts.frm {w w' : World} (h : Facts w) (hf : Frm [] w w') : Facts w' := by
  obtain ⟨h1, h2, ⟨m, h3⟩, ⟨t4, p4, h4⟩, ⟨t5, p5, h5⟩⟩ := h
  exact ⟨h1.frm hf, Joins.tab_stays powG h2 (hf.below (Nat.le_refl _) (by simp)) (Nat.le_refl _), ⟨m, hf.cell h3 (by simp)⟩, ⟨t4, p4, hf.cell h4 (by simp)⟩, ⟨t5, p5, hf.cell h5 (by simp)⟩⟩
theorem Facts.below {w w' : World} (h : Facts w) (hb : Below w.heap.size w w') : Facts w' := h.frm (Frm.of_below hb (Nat.le_refl _))

/-- Numbers that an int holds. -/
def inI (n : Int) : Prop := -9223372036854775808 ≤ n ∧ n ≤ 9223372036854775807
structure Ins.Wf (x : Ins) : Prop where
  op : inI x.op
  a : inI x.a
  b : inI x.b
  c : inI x.c
  d : inI x.d
theorem Ins.Wf.num {x : Ins} (h : x.Wf) (k : Nat) : inI (x.num k) := by
  match k with
  | 0 => exact h.a
  | 1 => exact h.b
  | 2 => exact h.c
  | k + 3 => exact h.d
theorem itoa_any (n : Int) (h : inI n) {w : World} (hf : Facts w) : Calls Tryd.prog 34 #[.int .i64 n] w (Tells (.string (tx (Lib.itoa n))) w) := by
  refine (Tryd.strconv_Itoa n h.1 h.2 w hf.pow).mono ?_
  rintro e w' ⟨rfl, k, os, rfl⟩
  exact ⟨rfl, Frm.of_below (Lib.below_grow _ _ (Nat.le_refl _) _ _) (Nat.le_refl _)⟩

/-- The first m numbers, each with a blank ahead. -/
def numsL (x : Ins) (m : Nat) : Bs := ((List.range m).map fun i => 32 :: Lib.itoa (x.num i)).flatten
theorem numsL_succ (x : Ins) (m : Nat) : numsL x (m + 1) = numsL x m ++ 32 :: Lib.itoa (x.num m) := by
  unfold numsL; rw [List.range_succ, List.map_append, List.flatten_append]; simp
/-- A line, without its line feed. -/
def lineL (x : Ins) : Bs := wordOf x.op ++ numsL x (manyOf x.op)
def printL (p : List Ins) : Bs := (p.map fun x => lineL x ++ [10]).flatten
theorem numsL_length (x : Ins) (hx : x.Wf) (m : Nat) : (numsL x m).length ≤ 22 * m := by
  induction m with
  | zero => simp [numsL]
  | succ m ih =>
    have := Lib.itoa_length_le (x.num m) (hx.num m).1 (hx.num m).2
    rw [numsL_succ, List.length_append, List.length_cons]
    omega
theorem wordK_length {k : Nat} (hk : k < 16) : (wordK k).length ≤ 4 := by
  have : ∀ k : Fin 16, (wordK k.1).length ≤ 4 := by decide
  exact this ⟨k, hk⟩
theorem lineL_length (x : Ins) (hx : x.Wf) : (lineL x).length ≤ 100 := by
  have h1 := wordK_length (opK_lt x.op)
  have h2 := manyK_le (opK_lt x.op)
  have h3 := numsL_length x hx (manyOf x.op)
  unfold lineL wordOf
  rw [List.length_append]
  unfold manyOf at h3 ⊢
  omega
theorem printL_length (p : List Ins) (hp : ∀ x ∈ p, x.Wf) : (printL p).length ≤ 101 * p.length := by
  induction p with
  | nil => simp [printL]
  | cons x p ih =>
    have h1 := lineL_length x (hp x (by simp))
    have h2 := ih fun y hy => hp y (by simp [hy])
    unfold printL at h2 ⊢
    simp only [List.map_cons, List.flatten_cons, List.length_append, List.length_cons, List.length_nil] at h2 ⊢
    omega
theorem tx_size (l : Bs) : (tx l).size = l.length := by simp [tx, ByteArray.size]
theorem tx_append (l m : Bs) : tx l ++ tx m = tx (l ++ m) := by
  unfold tx
  apply ByteArray.ext
  simp

set_option maxHeartbeats 1000000 in
theorem line_any (x : Ins) (hx : x.Wf) {w : World} (hf : Facts w) : Calls Tryd.prog 27 #[x.val] w (Tells (.string (tx (lineL x ++ [10]))) w) := by
  have HX := Lib.hid hx
  have HF0 := Lib.hid hf
  clear hx hf
  have H0 := Lib.hid ((Holds.start w).alloc noneR_stable (.cells #[.int .i64 x.op, .int .i64 x.a, .int .i64 x.b, .int .i64 x.c, .int .i64 x.d] 23))
  go_enter Tryd.func27, Tryd.ntmps27
  go_wp2_with fail
  refine (word_any x.op (HF0.out.frm ((Frm.refl _ _).alloc _)).ops).mono ?_
  rintro e w1 ⟨rfl, hF⟩
  have H1 := Lib.hid (H0.out.made noneR_stable hF)
  clear hF
  obtain ⟨p0, p1, p2, p3, p4⟩ := cells5 (H1.out.box (k := w.heap.size) (o := .cells #[.int .i64 x.op, .int .i64 x.a, .int .i64 x.b, .int .i64 x.c, .int .i64 x.d] 23) (by simp))
  go_wp2_with fail
  refine (list_any x _).mono ?_
  rintro e w2 ⟨rfl, hF⟩
  have H2 := Lib.hid (Frm.of_below (S := []) (H1.out.made noneR_stable hF).below (Nat.le_refl _))
  clear hF p0 p1 p2 p3 p4
  have hm4 : manyOf x.op ≤ 4 := manyK_le (opK_lt x.op)
  go_wp2_with fail
  go_loopw [3, 15] (fun tv iv wr => ∃ k : Nat, k ≤ 4 ∧ iv = .int .i64 (k : Int) ∧ tv = .string (tx (wordOf x.op ++ numsL x (min k (manyOf x.op)))) ∧ Frm [] w wr) (fun _ iv _ => 4 - (intOf iv).toNat)
  case atStart => exact ⟨0, by omega, rfl, by simp [numsL], H2.out⟩
  case round =>
    obtain ⟨k, hk, rfl, rfl, hF⟩ := hrel
    have HF := Lib.hid hF
    clear hF
    by_cases hlt : k < 4
    · have hidx := idx_num x k hlt
      by_cases hm : k < manyOf x.op
      · have g : decide ((k : Int) < (manyOf x.op : Int)) = true := by rw [decide_eq_true_eq]; omega
        go_wp2_with fail
        refine (itoa_any _ (HX.out.num k) (HF0.out.frm HF.out)).mono ?_
        rintro e w3 ⟨rfl, hF⟩
        have H3 := Lib.hid (HF.out.trans (T := []) hF (by simp))
        clear hF
        have hq : numsL x (min k (manyOf x.op)) = numsL x k := by rw [Nat.min_eq_left (by omega)]
        have l1 := Lib.itoa_length_le (x.num k) (HX.out.num k).1 (HX.out.num k).2
        have l2 := numsL_length x HX.out k
        have l3 := wordK_length (opK_lt x.op)
        have s1 : ¬ 9223372036854775807 < 1 + (tx (Lib.itoa (x.num k))).size := by rw [tx_size]; omega
        have s2 : ¬ 9223372036854775807 < (tx (wordOf x.op ++ numsL x (min k (manyOf x.op)))).size + (1 + (tx (Lib.itoa (x.num k))).size) := by
          rw [hq, tx_size, tx_size, List.length_append]; unfold wordOf; omega
        clear hq l1 l2 l3
        go_wp2_with fail
        go_roundw
        case rel =>
          refine ⟨k + 1, by omega, by go_num, ?_, H3.out⟩
          rw [Nat.min_eq_left (by omega), Nat.min_eq_left (by omega), numsL_succ]
          show Value.string (tx _ ++ (tx [32] ++ tx _)) = _
          rw [tx_append, tx_append]
          simp
        case measure => simp [intOf]; omega
      · have g : decide ((k : Int) < (manyOf x.op : Int)) = false := by rw [decide_eq_false_iff_not]; omega
        go_wp2_with fail
        go_roundw
        case rel => exact ⟨k + 1, by omega, by go_num, by rw [Nat.min_eq_right (by omega), Nat.min_eq_right (by omega)], HF.out⟩
        case measure => simp [intOf]; omega
    · obtain rfl : k = 4 := by omega
      have l2 := numsL_length x HX.out (manyOf x.op)
      have l3 := wordK_length (opK_lt x.op)
      have s1 : ¬ 9223372036854775807 < (tx (wordOf x.op ++ numsL x (manyOf x.op))).size + 1 := by
        rw [tx_size, List.length_append]; unfold wordOf; omega
      clear l2 l3
      go_wp2_with fail
      go_ret
      refine ⟨?_, HF.out⟩
      show Ending.returned (Value.string (tx _ ++ tx [10])) = _
      rw [tx_append]
      rfl

theorem checkP_len {p : List Ins} (h : checkP p = (0, 0)) : p.length ≤ 64 := by
  unfold checkP at h
  split at h
  · simp at h
  · omega
theorem builder_frm {T e : TypeId} {B b : Nat} {bs : List Value} {w w' : World} (h : Lib.IsBuilder T e B b bs w) (hf : Frm [] w w') : Lib.IsBuilder T e B b bs w' := by
  rcases h with h | h
  · obtain ⟨hB, v, hb, hown, hne⟩ := h
    exact .inl ⟨hB, v, hf.obj hb (by simp), hf.row hown (by simp), hne⟩
  · obtain ⟨hB, v, hb, hown, hne⟩ := h
    exact .inr ⟨hB, v, hf.obj hb (by simp), hf.row hown (by simp), hne⟩
theorem strCells_tx (l : Bs) : Lib.strCells (tx l) = Lib.byteCells l := by simp [Lib.strCells, Lib.byteCells, tx]
theorem printL_succ {p : List Ins} {k : Nat} {x : Ins} (hx : p[k]? = some x) : printL (p.take (k + 1)) = printL (p.take k) ++ (lineL x ++ [10]) := by
  unfold printL
  rw [List.take_add_one, hx, List.map_append, List.flatten_append]
  simp
def printP (p : List Ins) : Bs × Int := if (checkP p).2 = 0 then (printL p, 0) else ([], (checkP p).2)
theorem firstBad_zero (many : Int) (p : List Ins) (k : Nat) : (firstBad many k p).2 = 0 → firstBad many k p = (0, 0) := by
  induction p generalizing k with
  | nil => intro _; rfl
  | cons x p ih =>
    intro h
    unfold firstBad at h ⊢
    by_cases h0 : mayE x many = 0
    · rw [if_pos h0] at h ⊢; exact ih _ h
    · rw [if_neg h0] at h; exact absurd h h0
theorem checkP_zero {p : List Ins} (h : (checkP p).2 = 0) : checkP p = (0, 0) := by
  unfold checkP at h ⊢
  split
  · rename_i h1; rw [if_pos h1] at h; simp at h
  · rename_i h1; rw [if_neg h1] at h; exact firstBad_zero _ _ _ h

set_option maxHeartbeats 1000000 in
theorem print_any {a : Option Addr} {n c : Nat} {l : List Ins} {w : World} (hf : Facts w) (hl : Ins.at_ w a n c l) (hwf : ∀ x ∈ l, x.Wf) :
    Calls Tryd.prog 18 #[.slice a n c] w (Tells (.tuple #[.string (tx (printP l).1), .int .i64 (printP l).2]) w) := by
  have hn : l.length = n := hl.1
  have HO := Lib.hid hf
  have HL := Lib.hid hl
  have HW := Lib.hid hwf
  have hcap := hl.2.2.1
  have hcap' := hl.2.1
  simp only [maxLen] at hcap
  have Hn := Lib.hid hn
  clear hf hl hwf hn
  by_cases hz : (checkP l).2 = 0
  · have e : printP l = (printL l, 0) := if_pos hz
    rw [e]
    clear e
    have h64 : n ≤ 64 := by have := checkP_len (checkP_zero hz); have := Hn.out; omega
    have hz' : ((checkP l).2 != 0) = false := by simp [hz]
    go_enter Tryd.func18, Tryd.ntmps18
    go_wp2_with fail
    refine (check_any HO.out.ops HL.out).mono ?_
    rintro e w1 ⟨rfl, hF1⟩
    have HF1 := Lib.hid hF1
    clear hF1 hz
    go_wp2_with fail
    have hB0 := Lib.hid (Lib.fresh_isBuilder 63 5 w1)
    go_loopw [19] (fun iv wr => ∃ k : Nat, k ≤ n ∧ iv = .int .i64 (k : Int) ∧ Lib.IsBuilder 63 5 w1.heap.size w1.heap.size (Lib.byteCells (printL (l.take k))) wr ∧ Below w1.heap.size w1 wr) (fun iv _ => n - (intOf iv).toNat)
    case atStart => exact ⟨0, by omega, rfl, hB0.out, (Below.refl _ _).alloc (Nat.le_refl _) _⟩
    case round =>
      obtain ⟨k, hk, rfl, hb, hbel⟩ := hrel
      have HB := Lib.hid hb
      have HBel := Lib.hid hbel
      have HF := Lib.hid (HF1.out.trans (T := []) (Frm.of_below (S := []) hbel (Nat.le_refl _)) (by simp))
      clear hb hbel
      by_cases hlt : k < n
      · obtain ⟨b, off, x, rfl, hbl, hx, p0, p1, p2, p3, p4⟩ := insAt (SlAt.frm HL.out HF.out) hlt
        have hxw := HW.out x (List.mem_of_getElem? hx)
        have Hs := Lib.hid (printL_succ hx)
        have Hxw := Lib.hid hxw
        clear hx hxw
        have H0 := Lib.hid ((Frm.refl [] wr).alloc (.cells #[.int .i64 x.op, .int .i64 x.a, .int .i64 x.b, .int .i64 x.c, .int .i64 x.d] 23))
        go_wp2_with fail
        refine (line_any x Hxw.out (HO.out.frm (HF.out.alloc _))).mono ?_
        rintro e w2 ⟨rfl, hF2⟩
        have HB2 := Lib.hid (builder_frm (builder_frm HB.out H0.out) hF2)
        have HBel2 := Lib.hid ((HBel.out.trans (Frm.below (S := []) H0.out HBel.out.size (by simp))).trans (hF2.below (Nat.le_trans HBel.out.size H0.out.size) (by simp)))
        clear hF2 p0 p1 p2 p3 p4
        have hlen : (Lib.byteCells (printL (l.take k))).length + (tx (lineL x ++ [10])).size ≤ 140737488355328 := by
          have h1 := printL_length (l.take k) (fun y hy => HW.out y (List.mem_of_mem_take hy))
          have h2 := lineL_length x Hxw.out
          have h3 : (l.take k).length ≤ k := by rw [List.length_take]; omega
          rw [tx_size, List.length_append]
          simp only [Lib.byteCells, List.length_map, List.length_cons, List.length_nil]
          omega
        go_wp2_with fail
        refine (Tryd.Builder_WriteString w1.heap.size w1.heap.size _ _ _ HB2.out hlen HBel2.out.size).mono ?_
        rintro e w3 ⟨rfl, hb3, hbel3⟩
        have HB3 := Lib.hid hb3
        have HBel3 := Lib.hid (HBel2.out.trans hbel3)
        clear hb3 hbel3 hlen
        go_wp2_with fail
        go_roundw
        case rel =>
          refine ⟨k + 1, by omega, by go_num, ?_, HBel3.out⟩
          rw [Hs.out]
          refine .inr ?_
          have := HB3.out
          rwa [strCells_tx, ← Lib.byteCells_append] at this
        case measure => simp [intOf]; omega
      · obtain rfl : k = n := by omega
        have hB' := HB.out
        rw [List.take_of_length_le (by have := Hn.out; omega)] at hB'
        have HB' := Lib.hid hB'
        clear hB'
        go_wp2_with fail
        refine (Tryd.Builder_String_any w1.heap.size w1.heap.size (printL l) _ HB'.out HBel.out.size).mono ?_
        rintro e w2 ⟨rfl, hbel⟩
        have HF2 := Lib.hid (HF1.out.trans (T := []) (Frm.of_below (S := []) (HBel.out.trans hbel) (Nat.le_refl _)) (by simp))
        clear hbel
        go_wp2_with fail
        go_ret2
        exact ⟨rfl, HF2.out⟩
  · have e : printP l = ([], (checkP l).2) := if_neg hz
    rw [e]
    clear e
    have hz' : ((checkP l).2 == 0) = false := by rw [beq_eq_false_iff_ne]; exact hz
    go_enter Tryd.func18, Tryd.ntmps18
    go_wp2_with fail
    refine (check_any HO.out.ops HL.out).mono ?_
    rintro e w1 ⟨rfl, hF1⟩
    have HF1 := Lib.hid hF1
    clear hF1 hz
    go_wp2_with fail
    go_ret2
    exact ⟨rfl, HF1.out⟩
end Go.Proofs.YtodjiicneijkkaaDoor
