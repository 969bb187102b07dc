/- Package vm's laws: few; awake. -/
import Derived.Test.YtohdokddfjeekaaDoorVmE
namespace Go.Proofs.YtohdokddfjeekaaDoor
open Go.RowKit Go.Maps

/-- What comes in. -/
abbrev caseV (a : Option Addr) (n c : Nat) (t : Nat → Int) (e : Ev) (fan : Int) : Value :=
  .agg #[.slice a n c, .int .i64 (t 0), .int .i64 (t 1), .int .i64 (t 2), .int .i64 (t 3), .int .i64 e.at_, .int .i64 e.src, .int .i64 e.sent, .int .i64 e.no, .int .i64 e.dst, .int .i64 e.kind, .int .i64 e.data, .int .i64 fan]
abbrev caseBox (a : Option Addr) (n c : Nat) (t : Nat → Int) (e : Ev) (fan : Int) : Obj :=
  .cells #[.slice a n c, .int .i64 (t 0), .int .i64 (t 1), .int .i64 (t 2), .int .i64 (t 3), .int .i64 e.at_, .int .i64 e.src, .int .i64 e.sent, .int .i64 e.no, .int .i64 e.dst, .int .i64 e.kind, .int .i64 e.data, .int .i64 fan] 30
def fewP (n : Nat) (fan : Int) : Bool := decide (n ≤ 100) && decide (fan ≤ 2000)

set_option maxHeartbeats 1000000 in
theorem few_any (a : Option Addr) (n c : Nat) (t : Nat → Int) (e : Ev) (fan : Int) (w : World) : Calls Tryd.prog 7 #[caseV a n c t e fan] w (Tells (.bool (fewP n fan)) w) := by
  by_cases h : n ≤ 100
  · have g1 : decide ((n : Int) ≤ 100) = true := by rw [decide_eq_true_eq]; omega
    have e1 : fewP n fan = decide (fan ≤ 2000) := by unfold fewP; rw [decide_eq_true h, Bool.true_and]
    rw [e1]
    clear e1
    go_enter Tryd.func7, Tryd.ntmps7
    go_wp2_with fail
    go_ret
    exact ⟨rfl, (Frm.refl _ _).alloc _⟩
  · have g1 : decide ((n : Int) ≤ 100) = false := by rw [decide_eq_false_iff_not]; omega
    have e1 : fewP n fan = false := by unfold fewP; rw [decide_eq_false h, Bool.false_and]
    rw [e1]
    clear e1
    go_enter Tryd.func7, Tryd.ntmps7
    go_wp2_with fail
    go_ret
    exact ⟨rfl, (Frm.refl _ _).alloc _⟩

theorem aw_st : stV (runS awP awT awE 100).1.cs = .agg #[.int .i64 8, .int .i64 0, .int .i64 0, .int .i64 0] := by
  unfold stV
  rw [aw_cs.1, aw_cs.2.1, aw_cs.2.2.1, aw_cs.2.2.2]
set_option maxHeartbeats 4000000 in
set_option maxRecDepth 100000 in
theorem awake_any {w : World} (hO : Ops w) : Calls Tryd.prog 8 #[] w (Tells (.bool true) w) := by
  have hF0 : Frm [] w (w.alloc (.cells (flat Ins.enc awP).toArray 47)) := (Frm.refl _ _).alloc _
  have hp : Ins.at_ (w.alloc (.cells (flat Ins.enc awP).toArray 47)) (some ⟨w.heap.size, 0, none⟩) 4 4 awP := by
    refine ⟨rfl, Nat.le_refl _, by unfold maxLen; omega, .inr ⟨w.heap.size, 0, rfl, by simp, fun i x hi j u hj => ?_⟩⟩
    have h1 := flat_get Ins.enc_len hi hj
    rw [cell_of_obj (obj_new w _), Nat.zero_add]
    simpa using h1
  have hr := run_any (hO.frm hF0) hp (by simp) awT awE 100 8
  have HF0 := Lib.hid hF0
  have Hr := Lib.hid hr
  clear hF0 hp hr hO
  go_enter Tryd.func8, Tryd.ntmps8
  go_wp2_with fail
  refine Hr.out.mono ?_
  rintro e' w2 ⟨a2, c2, rfl, hsl, hF⟩
  rw [aw_sent] at hsl ⊢
  rw [aw_st, aw_steps]
  obtain ⟨b, off, x, rfl, hbl, hx, hc⟩ := hsl.at_ (i := 0) (by decide)
  obtain rfl : (⟨0, 1, 7, 8⟩ : Em) = x := by simpa using hx
  have q0 : w2.cell? ⟨b, off, none⟩ = some (.int .i64 0) := by simpa using hc 0 (.int .i64 0) rfl
  have q1 : w2.cell? ⟨b, off + 1, none⟩ = some (.int .i64 1) := by simpa using hc 1 (.int .i64 1) rfl
  have q2 : w2.cell? ⟨b, off + 2, none⟩ = some (.int .i64 7) := by simpa using hc 2 (.int .i64 7) rfl
  have q3 : w2.cell? ⟨b, off + 3, none⟩ = some (.int .i64 8) := by simpa using hc 3 (.int .i64 8) rfl
  have HF := Lib.hid (HF0.out.trans (T := []) hF (by simp))
  clear hsl hF hx hc Hr
  have gs : ∀ W, (binOp BinOp.eql 24 (.agg #[.int .i64 8, .int .i64 0, .int .i64 0, .int .i64 0]) (.agg #[.int .i64 8, .int .i64 0, .int .i64 0, .int .i64 0])).run Tryd.prog W = .ok (.bool true) W := fun W => st_eql (fun i => if i = 0 then 8 else 0) W
  have ge : ∀ W, (binOp BinOp.eql 37 (.agg #[.int .i64 0, .int .i64 1, .int .i64 7, .int .i64 8]) (.agg #[.int .i64 0, .int .i64 1, .int .i64 7, .int .i64 8])).run Tryd.prog W = .ok (.bool true) W := fun W => em_eql ⟨0, 1, 7, 8⟩ ⟨0, 1, 7, 8⟩ W
  have gg := st_guard
  have gg2 := em_guard
  go_wp2_with fail
  go_ret
  exact ⟨rfl, HF.out.alloc _⟩
end Go.Proofs.YtohdokddfjeekaaDoor
