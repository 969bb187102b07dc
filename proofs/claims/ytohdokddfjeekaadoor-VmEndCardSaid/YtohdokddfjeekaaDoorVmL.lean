/- Package vm's laws: what a run hangs on; a case in memory. -/
import Derived.Test.YtohdokddfjeekaaDoorVmNil
namespace Go.Proofs.YtohdokddfjeekaaDoor
open Go.RowKit Go.Maps

/-- What Run answers, of what it has made. -/
def RunsTo (S : MS × Nat) (fan : Int) (w : World) (e' : Ending) (w' : World) : Prop :=
  ∃ (a : Option Addr) (c : Nat), e' = .returned (.tuple #[stV S.1.cs, .slice a (outP fan S.1.sent).length c, .int .i64 (S.2 : Nat)]) ∧ SlAt Em.enc 4 w' a (outP fan S.1.sent).length c (outP fan S.1.sent) ∧ Frm [] w w'
theorem RunGoes.to {p : List Ins} {t : Nat → Int} {e : Ev} {fuel fan : Int} {w : World} {e' : Ending} {w' : World} {S : MS × Nat} (hS : runS p t e fuel = S) (h : RunGoes p t e fuel fan w e' w') : RunsTo S fan w e' w' := by
  subst hS
  exact h
/-- What a run does not hang on: who sent the event, when, and as which one. -/
theorem do_other {e : Ev} (a b c : Int) (x : Ins) (s : MS) : doP { e with src := a, sent := b, no := c } x s = doP e x s := rfl
theorem run_other {e : Ev} (a b c : Int) (p : List Ins) : ∀ (n : Nat) (s : MS), runP p { e with src := a, sent := b, no := c } n s = runP p e n s
  | 0, _ => rfl
  | n + 1, s => by
    cases h : nextP p s with
    | none => rw [run_none h, run_none h]
    | some x => rw [run_some h, run_some h, do_other, run_other a b c p n]
theorem runS_other {e : Ev} (a b c : Int) (p : List Ins) (t : Nat → Int) (fuel : Int) : runS p t { e with src := a, sent := b, no := c } fuel = runS p t e fuel := run_other a b c _ _ _

theorem cells13 {w : World} {b : Nat} {x0 x1 x2 x3 x4 x5 x6 x7 x8 x9 x10 x11 x12 : Value} {t : TypeId} {f : Nat × Nat} (h : w.heap[b]? = some (.cells #[x0, x1, x2, x3, x4, x5, x6, x7, x8, x9, x10, x11, x12] t f)) :
    w.cell? ⟨b, 0, none⟩ = some x0 ∧ w.cell? ⟨b, 1, none⟩ = some x1 ∧ w.cell? ⟨b, 2, none⟩ = some x2 ∧ w.cell? ⟨b, 3, none⟩ = some x3 ∧ w.cell? ⟨b, 4, none⟩ = some x4 ∧ w.cell? ⟨b, 5, none⟩ = some x5 ∧ w.cell? ⟨b, 6, none⟩ = some x6 ∧
    w.cell? ⟨b, 7, none⟩ = some x7 ∧ w.cell? ⟨b, 8, none⟩ = some x8 ∧ w.cell? ⟨b, 9, none⟩ = some x9 ∧ w.cell? ⟨b, 10, none⟩ = some x10 ∧ w.cell? ⟨b, 11, none⟩ = some x11 ∧ w.cell? ⟨b, 12, none⟩ = some x12 := by
  refine ⟨?_, ?_, ?_, ?_, ?_, ?_, ?_, ?_, ?_, ?_, ?_, ?_, ?_⟩ <;> (rw [cell_of_obj h]; rfl)
abbrev keyBox (a b c d : Int) : Obj := .cells #[.int .i64 a, .int .i64 b, .int .i64 c, .int .i64 d] 26
/-- What was sent stands there. -/
theorem emAt {w : World} {a : Option Addr} {n c : Nat} {l : List Em} (h : SlAt Em.enc 4 w a n c l) {i : Nat} (hi : i < n) : ∃ b off x, a = some ⟨b, off, none⟩ ∧ b < w.heap.size ∧ l[i]? = some x ∧
    w.cell? ⟨b, off + i * 4, none⟩ = some (.int .i64 x.dst) ∧ w.cell? ⟨b, off + i * 4 + 1, none⟩ = some (.int .i64 x.delay) ∧ w.cell? ⟨b, off + i * 4 + 2, none⟩ = some (.int .i64 x.kind) ∧ w.cell? ⟨b, off + i * 4 + 3, none⟩ = some (.int .i64 x.data) := by
  obtain ⟨b, off, x, h1, h2, h3, h4⟩ := h.at_ hi
  exact ⟨b, off, x, h1, h2, h3, h4 0 _ rfl, h4 1 _ rfl, h4 2 _ rfl, h4 3 _ rfl⟩
end Go.Proofs.YtohdokddfjeekaaDoor
