/- Package vm: what a machine is, what an instruction does, what a run makes; the machine in memory. -/
import Derived.Test.YtohdokddfjeekaaDoorVmM
namespace Go.Proofs.YtohdokddfjeekaaDoor
open Go.RowKit Go.Maps

theorem Ins.enc_len (x : Ins) : x.enc.length = 5 := rfl
theorem Ins.enc_one (x : Ins) : ∀ u ∈ x.enc, u.oneCell' = true := by
  intro u hu
  simp only [Ins.enc, List.mem_cons, List.not_mem_nil, or_false] at hu
  rcases hu with rfl | rfl | rfl | rfl | rfl <;> rfl

/-- An event. -/
structure Ev where
  at_ : Int
  src : Int
  sent : Int
  no : Int
  dst : Int
  kind : Int
  data : Int
deriving DecidableEq
abbrev Ev.val (x : Ev) : Value := .agg #[.int .i64 x.at_, .int .i64 x.src, .int .i64 x.sent, .int .i64 x.no, .int .i64 x.dst, .int .i64 x.kind, .int .i64 x.data]
/-- What is sent. -/
structure Em where
  dst : Int
  delay : Int
  kind : Int
  data : Int
deriving DecidableEq
def Em.enc (x : Em) : List Value := [.int .i64 x.dst, .int .i64 x.delay, .int .i64 x.kind, .int .i64 x.data]
abbrev Em.val (x : Em) : Value := .agg #[.int .i64 x.dst, .int .i64 x.delay, .int .i64 x.kind, .int .i64 x.data]
theorem Em.enc_len (x : Em) : x.enc.length = 4 := rfl
theorem Em.enc_one (x : Em) : ∀ u ∈ x.enc, u.oneCell' = true := by
  intro u hu
  simp only [Em.enc, List.mem_cons, List.not_mem_nil, or_false] at hu
  rcases hu with rfl | rfl | rfl | rfl <;> rfl
/-- Four numbers. -/
abbrev stV (t : Nat → Int) : Value := .agg #[.int .i64 (t 0), .int .i64 (t 1), .int .i64 (t 2), .int .i64 (t 3)]

/-- A machine: its cells, where it stands, and all that it sent (what was left away for the fan, too). -/
structure MS where
  cs : Nat → Int
  pl : Nat
  sent : List Em
def setC (cs : Nat → Int) (k : Nat) (v : Int) : Nat → Int := fun i => if i = k then v else cs i
def restP (b c : Int) : Int := if c = 0 then 0 else b.tmod c
def lessP (b c : Int) : Int := if b < c then 1 else 0
def reckonP (op b c : Int) : Int :=
  if op = 4 then wrap64 (b + wrap64 (-c)) else if op = 3 then wrap64 (b + c) else if op = 5 then wrap64 (b * c) else if op = 6 then restP b c else lessP b c
def valP (e : Ev) (cs : Nat → Int) (x : Ins) : Int :=
  if x.op = 1 then x.b else if x.op = 2 then cs x.b.toNat else if x.op = 10 then e.at_ else if x.op = 11 then e.kind else if x.op = 12 then e.data else if x.op = 13 then e.dst else reckonP x.op (cs x.b.toNat) (cs x.c.toNat)
def emP (cs : Nat → Int) (x : Ins) : Em := ⟨cs x.a.toNat, cs x.b.toNat, x.d, cs x.c.toNat⟩
def doP (e : Ev) (x : Ins) (s : MS) : MS :=
  if x.op = 8 then ⟨s.cs, x.a.toNat, s.sent⟩ else if x.op = 9 then ⟨s.cs, if s.cs x.a.toNat = 0 then x.b.toNat else s.pl + 1, s.sent⟩
  else if x.op = 14 then ⟨s.cs, s.pl + 1, s.sent ++ [emP s.cs x]⟩ else ⟨setC s.cs x.a.toNat (valP e s.cs x), s.pl + 1, s.sent⟩
/-- The instruction that comes next, if it is not over. -/
def nextP (p : List Ins) (s : MS) : Option Ins :=
  match p[s.pl]? with
  | none => none
  | some x => if x.op = 15 ∨ mayE x p.length ≠ 0 then none else some x
def runP (p : List Ins) (e : Ev) : Nat → MS → MS × Nat
  | 0, s => (s, 0)
  | n + 1, s => match nextP p s with
    | none => (s, 0)
    | some x => ((runP p e n (doP e x s)).1, (runP p e n (doP e x s)).2 + 1)

section
variable {p : List Ins} {e : Ev} {s : MS} {x : Ins} {n : Nat} {many : Int}
theorem next_none (h : p.length ≤ s.pl) : nextP p s = none := by unfold nextP; rw [List.getElem?_eq_none h]
theorem next_stop (h : p[s.pl]? = some x) (h' : x.op = 15 ∨ mayE x p.length ≠ 0) : nextP p s = none := by
  unfold nextP; rw [h]; exact if_pos h'
theorem next_some (h : p[s.pl]? = some x) (h1 : x.op ≠ 15) (h2 : mayE x p.length = 0) : nextP p s = some x := by
  unfold nextP; rw [h]; exact if_neg (by rintro (h3 | h3); exact h1 h3; exact h3 h2)
theorem next_inv (h : nextP p s = some x) : p[s.pl]? = some x ∧ x.op ≠ 15 ∧ mayE x p.length = 0 := by
  unfold nextP at h
  cases hp : p[s.pl]? with
  | none => rw [hp] at h; cases h
  | some y =>
    rw [hp] at h
    simp only at h
    split at h
    · cases h
    · rename_i hn
      cases h
      exact ⟨rfl, fun h1 => hn (.inl h1), Decidable.of_not_not fun h2 => hn (.inr h2)⟩
theorem run_zero : runP p e 0 s = (s, 0) := rfl
theorem run_none (h : nextP p s = none) : runP p e n s = (s, 0) := by
  cases n with
  | zero => rfl
  | succ n => unfold runP; rw [h]
theorem run_some (h : nextP p s = some x) : runP p e (n + 1) s = ((runP p e n (doP e x s)).1, (runP p e n (doP e x s)).2 + 1) := by
  conv => lhs; unfold runP
  rw [h]
theorem run_le : ∀ (n : Nat) (s : MS), (runP p e n s).2 ≤ n
  | 0, _ => Nat.le_refl _
  | n + 1, s => by
    cases h : nextP p s with
    | none => rw [run_none h]; exact Nat.zero_le _
    | some x => rw [run_some h]; have := run_le n (doP e x s); omega

theorem may_inv (h : mayE x many = 0) : isOp x.op ∧ ∀ k, k < 4 → okN x many k = true := by
  unfold mayE at h
  split at h
  · rename_i h1
    split at h
    · rename_i h2
      obtain ⟨q0, q1, q2, q3⟩ := h2
      refine ⟨h1, fun k hk => ?_⟩
      obtain rfl | rfl | rfl | rfl : k = 0 ∨ k = 1 ∨ k = 2 ∨ k = 3 := by omega
      all_goals assumption
    · cases h
  · cases h
theorem op_cases {op : Int} (h : isOp op) : op = 1 ∨ op = 2 ∨ op = 3 ∨ op = 4 ∨ op = 5 ∨ op = 6 ∨ op = 7 ∨ op = 8 ∨ op = 9 ∨ op = 10 ∨ op = 11 ∨ op = 12 ∨ op = 13 ∨ op = 14 ∨ op = 15 := by unfold isOp at h; omega
theorem fits_cell {n many : Int} (h : fitsB 1 n many = true) : ∃ k : Nat, k < 8 ∧ n = k := by
  simp [fitsB] at h
  exact ⟨n.toNat, by omega, by omega⟩
theorem fits_place {n many : Int} (h : fitsB 2 n many = true) : ∃ k : Nat, (k : Int) ≤ many ∧ n = k := by
  simp [fitsB] at h
  exact ⟨n.toNat, by omega, by omega⟩
theorem may_a (h : mayE x many = 0) (h8 : x.op ≠ 8) (h15 : x.op ≠ 15) : ∃ k : Nat, k < 8 ∧ x.a = k := by
  obtain ⟨h1, h2⟩ := may_inv h
  refine fits_cell (many := many) ?_
  have := h2 0 (by omega)
  unfold okN at this
  have e : sortK (opK x.op) 0 = 1 := by
    generalize x.op = op at h1 h8 h15
    rcases op_cases h1 with rfl | rfl | rfl | rfl | rfl | rfl | rfl | rfl | rfl | rfl | rfl | rfl | rfl | rfl | rfl <;> first | exact absurd rfl h8 | exact absurd rfl h15 | decide
  rw [e] at this
  exact this
theorem may_b (h : mayE x many = 0) (h' : x.op = 2 ∨ x.op = 14 ∨ 3 ≤ x.op ∧ x.op ≤ 7) : ∃ k : Nat, k < 8 ∧ x.b = k := by
  obtain ⟨h1, h2⟩ := may_inv h
  refine fits_cell (many := many) ?_
  have := h2 1 (by omega)
  unfold okN at this
  have e : sortK (opK x.op) 1 = 1 := by
    generalize x.op = op at h1 h'
    rcases op_cases h1 with rfl | rfl | rfl | rfl | rfl | rfl | rfl | rfl | rfl | rfl | rfl | rfl | rfl | rfl | rfl <;> first | decide | omega
  rw [e] at this
  exact this
theorem may_c (h : mayE x many = 0) (h' : x.op = 14 ∨ 3 ≤ x.op ∧ x.op ≤ 7) : ∃ k : Nat, k < 8 ∧ x.c = k := by
  obtain ⟨h1, h2⟩ := may_inv h
  refine fits_cell (many := many) ?_
  have := h2 2 (by omega)
  unfold okN at this
  have e : sortK (opK x.op) 2 = 1 := by
    generalize x.op = op at h1 h'
    rcases op_cases h1 with rfl | rfl | rfl | rfl | rfl | rfl | rfl | rfl | rfl | rfl | rfl | rfl | rfl | rfl | rfl <;> first | decide | omega
  rw [e] at this
  exact this
theorem may_jump (h : mayE x many = 0) (h' : x.op = 8) : ∃ k : Nat, (k : Int) ≤ many ∧ x.a = k := by
  obtain ⟨h1, h2⟩ := may_inv h
  refine fits_place (many := many) ?_
  have := h2 0 (by omega)
  unfold okN at this
  rw [h', show sortK (opK 8) 0 = 2 by decide] at this
  exact this
theorem may_zero (h : mayE x many = 0) (h' : x.op = 9) : ∃ k : Nat, (k : Int) ≤ many ∧ x.b = k := by
  obtain ⟨h1, h2⟩ := may_inv h
  refine fits_place (many := many) ?_
  have := h2 1 (by omega)
  unfold okN at this
  rw [h', show sortK (opK 9) 1 = 2 by decide] at this
  exact this
theorem do_pl (h : mayE x p.length = 0) (hs : s.pl < p.length) : (doP e x s).pl ≤ p.length := by
  unfold doP
  split
  · rename_i h1
    obtain ⟨k, h2, h3⟩ := may_jump h h1
    show x.a.toNat ≤ _
    omega
  split
  · rename_i h1
    obtain ⟨k, h2, h3⟩ := may_zero h h1
    have e1 : x.b.toNat = k := by omega
    have : (if s.cs x.a.toNat = 0 then x.b.toNat else s.pl + 1) ≤ p.length := by
      rw [e1]
      by_cases h4 : s.cs x.a.toNat = 0
      · rw [if_pos h4]; omega
      · rw [if_neg h4]; omega
    exact this
  split
  · show s.pl + 1 ≤ _; omega
  · show s.pl + 1 ≤ _; omega
theorem do_sent : (doP e x s).sent.length ≤ s.sent.length + 1 := by
  unfold doP
  split
  · exact Nat.le_succ _
  split
  · exact Nat.le_succ _
  split
  · simp
  · exact Nat.le_succ _
end

/-- A machine's cells in memory. -/
def machA (e : Ev) (pv : Value) (cs : Nat → Int) (pl : Int) (sv : Value) (fan : Int) : Array Value :=
  #[.int .i64 e.at_, .int .i64 e.src, .int .i64 e.sent, .int .i64 e.no, .int .i64 e.dst, .int .i64 e.kind, .int .i64 e.data, pv,
    .int .i64 (cs 0), .int .i64 (cs 1), .int .i64 (cs 2), .int .i64 (cs 3), .int .i64 (cs 4), .int .i64 (cs 5), .int .i64 (cs 6), .int .i64 (cs 7), .int .i64 pl, sv, .int .i64 fan]
section
variable {e : Ev} {pv sv : Value} {cs : Nat → Int} {pl fan : Int}
theorem machA_cs {k : Nat} (h : k < 8) : (machA e pv cs pl sv fan)[8 + k]? = some (.int .i64 (cs k)) := by
  obtain rfl | rfl | rfl | rfl | rfl | rfl | rfl | rfl : k = 0 ∨ k = 1 ∨ k = 2 ∨ k = 3 ∨ k = 4 ∨ k = 5 ∨ k = 6 ∨ k = 7 := by omega
  all_goals rfl
theorem machA_set {k : Nat} (h : k < 8) (v : Int) : (machA e pv cs pl sv fan).setIfInBounds (8 + k) (.int .i64 v) = machA e pv (setC cs k v) pl sv fan := by
  obtain rfl | rfl | rfl | rfl | rfl | rfl | rfl | rfl : k = 0 ∨ k = 1 ∨ k = 2 ∨ k = 3 ∨ k = 4 ∨ k = 5 ∨ k = 6 ∨ k = 7 := by omega
  all_goals rfl
theorem machA_pl (v : Int) : (machA e pv cs pl sv fan).setIfInBounds 16 (.int .i64 v) = machA e pv cs v sv fan := rfl
theorem machA_sv (v : Value) : (machA e pv cs pl sv fan).setIfInBounds 17 v = machA e pv cs pl v fan := rfl
/-- What is read of a machine. -/
structure MCells (w : World) (m : Nat) (e : Ev) (pv : Value) (cs : Nat → Int) (pl : Int) (sv : Value) (fan : Int) : Prop where
  at_ : w.cell? ⟨m, 0, none⟩ = some (.int .i64 e.at_)
  dst : w.cell? ⟨m, 4, none⟩ = some (.int .i64 e.dst)
  kind : w.cell? ⟨m, 5, none⟩ = some (.int .i64 e.kind)
  data : w.cell? ⟨m, 6, none⟩ = some (.int .i64 e.data)
  prog : w.cell? ⟨m, 7, none⟩ = some pv
  cell : ∀ k, k < 8 → w.cell? ⟨m, 8 + k, none⟩ = some (.int .i64 (cs k))
  place : w.cell? ⟨m, 16, none⟩ = some (.int .i64 pl)
  sent : w.cell? ⟨m, 17, none⟩ = some sv
  fan : w.cell? ⟨m, 18, none⟩ = some (.int .i64 fan)
theorem mcells {w : World} {m : Nat} (h : w.heap[m]? = some (.cells (machA e pv cs pl sv fan) 52)) : MCells w m e pv cs pl sv fan :=
  ⟨by rw [cell_of_obj h]; rfl, by rw [cell_of_obj h]; rfl, by rw [cell_of_obj h]; rfl, by rw [cell_of_obj h]; rfl, by rw [cell_of_obj h]; rfl, fun k hk => by rw [cell_of_obj h]; exact machA_cs hk,
    by rw [cell_of_obj h]; rfl, by rw [cell_of_obj h]; rfl, by rw [cell_of_obj h]; rfl⟩
end

/-- What goes out, of all that was sent. -/
def outP (fan : Int) (l : List Em) : List Em := l.take fan.toNat
/-- A machine that is held: its parts, and whole. -/
def mach0 (m : Nat) (e : Ev) (pa : Option Addr) (pc : Nat) (p : List Ins) (fan : Int) (cs : Nat → Int) (pl : Int) (a : Option Addr) (c : Nat) (l : List Em) : World → List Nat → Prop :=
  sepR (boxR m (machA e (.slice pa p.length pc) cs pl (.slice a l.length c) fan) 52) (sepR (rowR 37 4 (.slice a l.length c) l.length (flat Em.enc l)) (rowR 47 5 (.slice pa p.length pc) p.length (flat Ins.enc p)))
theorem mach0_stable (m : Nat) (e : Ev) (pa : Option Addr) (pc : Nat) (p : List Ins) (fan : Int) (cs : Nat → Int) (pl : Int) (a : Option Addr) (c : Nat) (l : List Em) : Stable (mach0 m e pa pc p fan cs pl a c l) :=
  sepR_stable (boxR_stable _ _ _) (sepR_stable (rowR_stable _ _ _ _ _) (rowR_stable _ _ _ _ _))
def machR (m : Nat) (e : Ev) (pa : Option Addr) (pc : Nat) (p : List Ins) (fan : Int) (s : MS) : World → List Nat → Prop :=
  fun w F => ∃ x : Option Addr × Nat, mach0 m e pa pc p fan s.cs s.pl x.1 x.2 (outP fan s.sent) w F
theorem machR_stable (m : Nat) (e : Ev) (pa : Option Addr) (pc : Nat) (p : List Ins) (fan : Int) (s : MS) : Stable (machR m e pa pc p fan s) := exR_stable fun _ => mach0_stable _ _ _ _ _ _ _ _ _ _ _
section
variable {B m : Nat} {w0 w : World} {Q : World → List Nat → Prop} {L : List (Nat × Obj)} {e : Ev} {pa a : Option Addr} {pc c : Nat} {p : List Ins} {fan pl : Int} {cs : Nat → Int} {l : List Em} {s : MS}
theorem Holds.mOpen (h : Holds B w0 (sepR (machR m e pa pc p fan s) Q) w L) : ∃ a c, Holds B w0 (sepR (mach0 m e pa pc p fan s.cs s.pl a c (outP fan s.sent)) Q) w L := by
  obtain ⟨⟨a, c⟩, h1⟩ := h.ex
  exact ⟨a, c, h1⟩
theorem Holds.mShut (h : Holds B w0 (sepR (mach0 m e pa pc p fan s.cs s.pl a c (outP fan s.sent)) Q) w L) : Holds B w0 (sepR (machR m e pa pc p fan s) Q) w L :=
  Holds.ofEx (R := fun x : Option Addr × Nat => mach0 m e pa pc p fan s.cs s.pl x.1 x.2 (outP fan s.sent)) (a, c) h
theorem Holds.mBox (h : Holds B w0 (sepR (mach0 m e pa pc p fan cs pl a c l) Q) w L) : Holds B w0 (sepR (boxR m (machA e (.slice pa p.length pc) cs pl (.slice a l.length c) fan) 52) (sepR (sepR (rowR 37 4 (.slice a l.length c) l.length (flat Em.enc l)) (rowR 47 5 (.slice pa p.length pc) p.length (flat Ins.enc p))) Q)) w L := h.conv Conv.flat
theorem Holds.mBox' (h : Holds B w0 (sepR (boxR m (machA e (.slice pa p.length pc) cs pl (.slice a l.length c) fan) 52) (sepR (sepR (rowR 37 4 (.slice a l.length c) l.length (flat Em.enc l)) (rowR 47 5 (.slice pa p.length pc) p.length (flat Ins.enc p))) Q)) w L) : Holds B w0 (sepR (mach0 m e pa pc p fan cs pl a c l) Q) w L := h.conv Conv.fold
theorem Holds.mRow (h : Holds B w0 (sepR (mach0 m e pa pc p fan cs pl a c l) Q) w L) : Holds B w0 (sepR (rowR 37 4 (.slice a l.length c) l.length (flat Em.enc l)) (sepR (boxR m (machA e (.slice pa p.length pc) cs pl (.slice a l.length c) fan) 52) (sepR (rowR 47 5 (.slice pa p.length pc) p.length (flat Ins.enc p)) Q))) w L :=
  h.conv (Conv.flat.trans ((Conv.flat.right).trans Conv.exch))
theorem Holds.mProg (h : Holds B w0 (sepR (mach0 m e pa pc p fan cs pl a c l) Q) w L) : Holds B w0 (sepR (rowR 47 5 (.slice pa p.length pc) p.length (flat Ins.enc p)) (sepR (boxR m (machA e (.slice pa p.length pc) cs pl (.slice a l.length c) fan) 52) (sepR (rowR 37 4 (.slice a l.length c) l.length (flat Em.enc l)) Q))) w L :=
  h.mRow.conv (Conv.fold.trans (Conv.exch.trans (Conv.flat.right.trans Conv.exch.right)))
theorem Holds.mCells (h : Holds B w0 (sepR (mach0 m e pa pc p fan cs pl a c l) Q) w L) : MCells w m e (.slice pa p.length pc) cs pl (.slice a l.length c) fan := mcells h.mBox.theBox
theorem Holds.mIns (h : Holds B w0 (sepR (mach0 m e pa pc p fan cs pl a c l) Q) w L) : Ins.at_ w pa p.length pc p := SlAt.of_row Ins.enc_len h.mProg.row rfl
end
end Go.Proofs.YtohdokddfjeekaaDoor
