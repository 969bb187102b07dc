/- Package code, as package vm calls it: its table of ops, as it lies in memory, and its small calls: tell, sort, fits, list. -/
import Derived.Test.YtbkadfdpboghiaaDoorChecked
import Derived.Test.YtbkadfdpboghiaaDoorApp
import Derived.StillTailTactics
import Derived.Deep.QuietTactic
import Derived.BigQuiet
namespace Go.Proofs.YtbkadfdpboghiaaDoor
open Go.RowKit Go.Maps

abbrev Bs := List UInt8
/-- A text of bytes. -/
def tx (l : Bs) : ByteArray := ⟨l.toArray⟩
def words : List Bs := [[], [115, 101, 116], [109, 111, 118, 101], [97, 100, 100], [115, 117, 98], [109, 117, 108], [109, 111, 100], [108, 101, 115, 115], [106, 117, 109, 112], [122, 101, 114, 111], [110, 111, 119], [107, 105, 110, 100], [100, 97, 116, 97], [115, 101, 108, 102], [115, 101, 110, 100], [115, 116, 111, 112]]
def manys : List Nat := [0, 2, 2, 3, 3, 3, 3, 3, 1, 2, 1, 1, 1, 1, 4, 0]
def lasts : List Nat := [0, 4, 1, 1, 1, 1, 1, 1, 2, 2, 1, 1, 1, 1, 3, 0]
def wordK (k : Nat) : Bs := words.getD k []
def manyK (k : Nat) : Nat := manys.getD k 0
def lastK (k : Nat) : Nat := lasts.getD k 0
/-- What is told of an op: k is 0 for none. -/
def opK (op : Int) : Nat := if 1 ≤ op ∧ op ≤ 15 then op.toNat else 0
theorem opK_lt (op : Int) : opK op < 16 := by unfold opK; split <;> omega
theorem opK_none {op : Int} (h : ¬ (1 ≤ op ∧ op ≤ 15)) : opK op = 0 := if_neg h
theorem opK_some {op : Int} (h : 1 ≤ op ∧ op ≤ 15) : opK op = op.toNat := if_pos h
def sortK (k i : Nat) : Nat := if manyK k ≤ i then 0 else if i + 1 = manyK k then lastK k else 1
def fitsB (s : Nat) (n many : Int) : Bool :=
  if s = 1 then decide (0 ≤ n) && decide (n < 8) else if s = 2 then decide (0 ≤ n) && decide (n ≤ many) else if s = 3 then decide (0 ≤ n) && decide (n < 256) else if s = 4 then true else decide (n = 0)
theorem manyK_le {k : Nat} (h : k < 16) : manyK k ≤ 4 := by
  have : ∀ k : Fin 16, manyK k.1 ≤ 4 := by decide
  exact this ⟨k, h⟩
theorem sortK_le {k : Nat} (h : k < 16) (i : Nat) : sortK k i ≤ 4 := by
  have : ∀ k : Fin 16, lastK k.1 ≤ 4 := by decide
  have := this ⟨k, h⟩
  unfold sortK; split; omega; split; exact this; omega

structure Ins where
  op : Int
  a : Int
  b : Int
  c : Int
  d : Int
deriving DecidableEq
abbrev Ins.val (x : Ins) : Value := .agg #[.int .i64 x.op, .int .i64 x.a, .int .i64 x.b, .int .i64 x.c, .int .i64 x.d]
def Ins.enc (x : Ins) : List Value := [.int .i64 x.op, .int .i64 x.a, .int .i64 x.b, .int .i64 x.c, .int .i64 x.d]
def Ins.num (x : Ins) : Nat → Int
  | 0 => x.a
  | 1 => x.b
  | 2 => x.c
  | _ => x.d
abbrev toldV (k : Nat) : Value := .agg #[.string (tx (wordK k)), .int .i64 (manyK k : Nat), .int .i64 (lastK k : Nat)]

/-- The table of ops in memory. -/
def Ops (w : World) : Prop := ∀ k : Nat, k < 16 → w.cell? ⟨0, k * 3, none⟩ = some (.string (tx (wordK k))) ∧ w.cell? ⟨0, k * 3 + 1, none⟩ = some (.int .i64 (manyK k : Nat)) ∧ w.cell? ⟨0, k * 3 + 2, none⟩ = some (.int .i64 (lastK k : Nat))
theorem Ops.frm {w w' : World} (h : Ops w) (hf : Frm [] w w') : Ops w' := fun k hk => by
  obtain ⟨h0, h1, h2⟩ := h k hk
  exact ⟨hf.cell h0 (by simp), hf.cell h1 (by simp), hf.cell h2 (by simp)⟩

/-- Reads, and may make new blocks. -/
abbrev Tells (r : Value) (w : World) (e : Ending) (w' : World) : Prop := e = .returned r ∧ Frm [] w w'

set_option maxHeartbeats 400000 in
theorem fits_any (s : Nat) (hs : s ≤ 4) (n m : Int) (w : World) : Calls Tryd.prog 55 #[.int .i64 (s : Nat), .int .i64 n, .int .i64 m] w fun e w' => e = .returned (.bool (fitsB s n m)) ∧ w' = w := by
  have : s = 0 ∨ s = 1 ∨ s = 2 ∨ s = 3 ∨ s = 4 := by omega
  rcases this with rfl | rfl | rfl | rfl | rfl
  · by_cases h : n = 0
    · subst h
      go_enter Tryd.func55, Tryd.ntmps55
      go_wp2
      go_ret
      exact ⟨rfl, rfl⟩
    · go_enter Tryd.func55, Tryd.ntmps55
      go_wp2
      go_ret
      simp [fitsB, h]
  all_goals
    go_enter Tryd.func55, Tryd.ntmps55
    go_wp2
    all_goals
      go_ret
      first | (simp [fitsB, *]; done) | (simp [fitsB, *]; omega)

set_option maxHeartbeats 400000 in
theorem list_any (x : Ins) (w : World) : Calls Tryd.prog 54 #[x.val] w (Tells (.agg #[.int .i64 x.a, .int .i64 x.b, .int .i64 x.c, .int .i64 x.d]) w) := by
  go_enter Tryd.func54, Tryd.ntmps54
  go_wp2
  refine bodyPost_ret (v := .agg #[.int .i64 x.a, .int .i64 x.b, .int .i64 x.c, .int .i64 x.d]) (by simp [results, Tryd.results54, go_sem]) rfl ⟨rfl, ?_⟩
  exact ((Frm.refl _ _).alloc _).alloc _

set_option maxHeartbeats 400000 in
theorem tell_any (op : Int) {w : World} (hO : Ops w) : Calls Tryd.prog 53 #[.int .i64 op] w (Tells (.tuple #[toldV (opK op), .bool (decide (1 ≤ op ∧ op ≤ 15))]) w) := by
  by_cases h : 1 ≤ op ∧ op ≤ 15
  · rw [opK_some h, decide_eq_true h]
    obtain ⟨k, rfl⟩ : ∃ k : Nat, op = k := ⟨op.toNat, by omega⟩
    obtain ⟨c0, c1, c2⟩ := hO k (by omega)
    rw [show ((k : Int)).toNat = k by omega]
    have z0 := World.block_lt_of_cell? _ _ c0
    dsimp only at z0
    have g1 : decide ((k : Int) < 1) = false := by rw [decide_eq_false_iff_not]; omega
    have g2 : decide ((k : Int) > 15) = false := by rw [decide_eq_false_iff_not]; omega
    have g3 : k < 16 := by omega
    go_enter Tryd.func53, Tryd.ntmps53
    go_wp2_with fail
    refine bodyPost_ret (v := .tuple #[toldV k, .bool true]) (by simp [results, Tryd.results53, go_sem]) rfl ⟨rfl, ?_⟩
    exact (Frm.refl _ _).alloc _
  · rw [opK_none h, decide_eq_false h]
    have h' : op < 1 ∨ 15 < op := by omega
    rcases h' with h' | h'
    · have g1 : decide (op < 1) = true := by rw [decide_eq_true_eq]; omega
      go_enter Tryd.func53, Tryd.ntmps53
      go_wp2_with fail
      refine bodyPost_ret (v := .tuple #[toldV 0, .bool false]) (by simp [results, Tryd.results53, go_sem]; decide) rfl ⟨rfl, ?_⟩
      exact (Frm.refl _ _).alloc _
    · have g1 : decide (op < 1) = false := by rw [decide_eq_false_iff_not]; omega
      have g2 : decide (op > 15) = true := by rw [decide_eq_true_eq]; omega
      go_enter Tryd.func53, Tryd.ntmps53
      go_wp2_with fail
      refine bodyPost_ret (v := .tuple #[toldV 0, .bool false]) (by simp [results, Tryd.results53, go_sem]; decide) rfl ⟨rfl, ?_⟩
      exact (Frm.refl _ _).alloc _

set_option maxHeartbeats 400000 in
theorem toldsort_any (k i : Nat) (hk : k < 16) (_ : i < 4) (w : World) : Calls Tryd.prog 56 #[toldV k, .int .i64 (i : Nat)] w (Tells (.int .i64 (sortK k i : Nat)) w) := by
  have hm := manyK_le hk
  by_cases h1 : manyK k ≤ i
  · have g1 : decide ((i : Int) ≥ (manyK k : Int)) = true := by rw [decide_eq_true_eq]; omega
    have e : sortK k i = 0 := if_pos h1
    rw [e]
    clear e
    go_enter Tryd.func56, Tryd.ntmps56
    go_wp2_with fail
    go_ret
    exact ⟨rfl, (Frm.refl _ _).alloc _⟩
  · have g1 : decide ((i : Int) ≥ (manyK k : Int)) = false := by rw [decide_eq_false_iff_not]; omega
    have gs : IntKind.i64.wrap ((manyK k : Int) - 1) = (manyK k : Int) - 1 := IntWalk.i64_in _ (by omega)
    by_cases h2 : i + 1 = manyK k
    · have e : sortK k i = lastK k := by unfold sortK; rw [if_neg h1, if_pos h2]
      rw [e]
      have g2 : ((i : Int) == (manyK k : Int) - 1) = true := by rw [beq_iff_eq]; omega
      clear e h2
      go_enter Tryd.func56, Tryd.ntmps56
      go_wp2_with fail
      go_ret
      exact ⟨rfl, (Frm.refl _ _).alloc _⟩
    · have e : sortK k i = 1 := by unfold sortK; rw [if_neg h1, if_neg h2]
      rw [e]
      have g2 : ((i : Int) == (manyK k : Int) - 1) = false := by rw [beq_eq_false_iff_ne]; omega
      clear e
      go_enter Tryd.func56, Tryd.ntmps56
      go_wp2_with fail
      go_ret
      exact ⟨rfl, (Frm.refl _ _).alloc _⟩

end Go.Proofs.YtbkadfdpboghiaaDoor
