/- Package code: the document's answer: words, kinds, which instructions and programs may be. -/
import Derived.Test.YtbkadfdpboghiaaDoorModR0
namespace Go.Proofs.YtbkadfdpboghiaaDoor
open Go.RowKit Go.Maps

/-- A kind's letter. -/
def kindC (s : Nat) : UInt8 := if s = 1 then 99 else if s = 2 then 112 else if s = 3 then 107 else 110
def kindsK (k : Nat) : Bs := (List.range (manyK k)).map fun i => kindC (sortK k i)
theorem kindsK_length (k : Nat) : (kindsK k).length = manyK k := by simp [kindsK]
theorem kindsK_at {k i : Nat} (hi : i < manyK k) : (kindsK k)[i]? = some (kindC (sortK k i)) := by
  unfold kindsK; rw [List.getElem?_map, List.getElem?_range hi]; rfl

theorem int_cases {op : Int} (h : 1 ≤ op ∧ op ≤ 15) : op = 1 ∨ op = 2 ∨ op = 3 ∨ op = 4 ∨ op = 5 ∨ op = 6 ∨ op = 7 ∨ op = 8 ∨ op = 9 ∨ op = 10 ∨ op = 11 ∨ op = 12 ∨ op = 13 ∨ op = 14 ∨ op = 15 := by omega
set_option maxHeartbeats 2000000 in
theorem rword_any (op : Int) (w : World) : Calls Tryd.prog 48 #[.int .i64 op] w (Tells (.string (tx (wordOf op))) w) := by
  by_cases h : 1 ≤ op ∧ op ≤ 15
  · rcases int_cases h with rfl | rfl | rfl | rfl | rfl | rfl | rfl | rfl | rfl | rfl | rfl | rfl | rfl | rfl | rfl
    all_goals
      clear h
      go_enter Tryd.func48, Tryd.ntmps48
      go_wp2
      go_ret
      exact ⟨rfl, (Frm.refl _ _).alloc _⟩
  · have e : wordOf op = [] := by unfold wordOf; rw [opK_none h]; rfl
    rw [e]
    by_cases h1 : op < 1
    · have g1 : decide (op < 1) = true := by rw [decide_eq_true_eq]; exact h1
      clear e h
      go_enter Tryd.func48, Tryd.ntmps48
      go_wp2
      go_ret
      exact ⟨rfl, Frm.refl _ _⟩
    · have g1 : decide (op < 1) = false := by rw [decide_eq_false_iff_not]; exact h1
      have g2 : decide (op > 15) = true := by rw [decide_eq_true_eq]; omega
      clear e h
      go_enter Tryd.func48, Tryd.ntmps48
      go_wp2
      go_ret
      exact ⟨rfl, Frm.refl _ _⟩
set_option maxHeartbeats 2000000 in
theorem rkinds_any (op : Int) (w : World) : Calls Tryd.prog 49 #[.int .i64 op] w (Tells (.string (tx (kindsK (opK op)))) w) := by
  by_cases h : 1 ≤ op ∧ op ≤ 15
  · rcases int_cases h with rfl | rfl | rfl | rfl | rfl | rfl | rfl | rfl | rfl | rfl | rfl | rfl | rfl | rfl | rfl
    all_goals
      clear h
      go_enter Tryd.func49, Tryd.ntmps49
      go_wp2
      go_ret
      exact ⟨rfl, (Frm.refl _ _).alloc _⟩
  · have e : kindsK (opK op) = [] := by rw [opK_none h]; rfl
    rw [e]
    by_cases h1 : op < 1
    · have g1 : decide (op < 1) = true := by rw [decide_eq_true_eq]; exact h1
      clear e h
      go_enter Tryd.func49, Tryd.ntmps49
      go_wp2
      go_ret
      exact ⟨rfl, Frm.refl _ _⟩
    · have g1 : decide (op < 1) = false := by rw [decide_eq_false_iff_not]; exact h1
      have g2 : decide (op > 15) = true := by rw [decide_eq_true_eq]; omega
      clear e h
      go_enter Tryd.func49, Tryd.ntmps49
      go_wp2
      go_ret
      exact ⟨rfl, Frm.refl _ _⟩
set_option maxHeartbeats 400000 in
theorem rnum_any (x : Ins) (i : Nat) (hi : i < 4) (w : World) : Calls Tryd.prog 50 #[x.val, .int .i64 (i : Int)] w (Tells (.int .i64 (x.num i)) w) := by
  obtain rfl | rfl | rfl | rfl : i = 0 ∨ i = 1 ∨ i = 2 ∨ i = 3 := by omega
  all_goals
    clear hi
    go_enter Tryd.func50, Tryd.ntmps50
    go_wp2
    go_ret
    exact ⟨rfl, (Frm.refl _ _).alloc _⟩
end Go.Proofs.YtbkadfdpboghiaaDoor
