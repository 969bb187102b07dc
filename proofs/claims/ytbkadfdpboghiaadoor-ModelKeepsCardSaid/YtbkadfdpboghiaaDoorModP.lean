/- Package model: configurations, plain and in memory; a model in memory, in blocks of its own. -/
import Derived.Test.YtbkadfdpboghiaaDoorModC
import Derived.Test.YtbkadfdpboghiaaDoorModKeys
namespace Go.Proofs.YtbkadfdpboghiaaDoor
open Go.RowKit Go.Maps

/-- What a call answers, where it only reads. -/
abbrev Reads (r : Value) (w : World) (e : Ending) (w' : World) : Prop := e = .returned r ∧ w' = w

theorem Ins.enc_len (x : Ins) : x.enc.length = 5 := rfl
theorem Ins.enc_one (x : Ins) : ∀ u ∈ x.enc, u.oneCell' = true := by
  intro u hu
  simp only [Ins.enc, List.mem_cons, List.not_mem_nil, or_false] at hu
  rcases hu with rfl | rfl | rfl | rfl | rfl <;> rfl
/-- A program in memory: its slice, and what that holds. -/
structure Pg where
  a : Option Addr
  n : Nat
  c : Nat
  l : List Ins
def Pg.enc (p : Pg) : List Value := [.slice p.a p.n p.c]
theorem Pg.enc_len (p : Pg) : p.enc.length = 1 := rfl
theorem Pg.enc_one (p : Pg) : ∀ u ∈ p.enc, u.oneCell' = true := by intro u hu; simp [Pg.enc] at hu; subst hu; rfl
structure Pl where
  pr : Int
  f0 : Int
  f1 : Int
  f2 : Int
  f3 : Int
deriving DecidableEq
def Pl.enc (p : Pl) : List Value := [.int .i64 p.pr, .int .i64 p.f0, .int .i64 p.f1, .int .i64 p.f2, .int .i64 p.f3]
theorem Pl.enc_len (p : Pl) : p.enc.length = 5 := rfl
theorem Pl.enc_one (p : Pl) : ∀ u ∈ p.enc, u.oneCell' = true := by
  intro u hu
  simp only [Pl.enc, List.mem_cons, List.not_mem_nil, or_false] at hu
  rcases hu with rfl | rfl | rfl | rfl | rfl <;> rfl
abbrev Pl.st (p : Pl) : Value := .agg #[.int .i64 p.f0, .int .i64 p.f1, .int .i64 p.f2, .int .i64 p.f3]
structure St where
  dst : Int
  at_ : Int
  kind : Int
  data : Int
deriving DecidableEq
def St.enc (s : St) : List Value := [.int .i64 s.dst, .int .i64 s.at_, .int .i64 s.kind, .int .i64 s.data]
theorem St.enc_len (s : St) : s.enc.length = 4 := rfl
theorem St.enc_one (s : St) : ∀ u ∈ s.enc, u.oneCell' = true := by
  intro u hu
  simp only [St.enc, List.mem_cons, List.not_mem_nil, or_false] at hu
  rcases hu with rfl | rfl | rfl | rfl <;> rfl

/-- A configuration, as it lies in memory. -/
structure Cf where
  pa : Option Addr
  pn : Nat
  pc : Nat
  ps : List Pg
  la : Option Addr
  ln : Nat
  lc : Nat
  ls : List Pl
  sa : Option Addr
  sn : Nat
  sc : Nat
  ss : List St
  fin : Int
  fuel : Int
  fan : Int
abbrev Cf.val (C : Cf) : Value := .agg #[.slice C.pa C.pn C.pc, .slice C.la C.ln C.lc, .slice C.sa C.sn C.sc, .int .i64 C.fin, .int .i64 C.fuel, .int .i64 C.fan]
abbrev Cf.obj (C : Cf) (t : TypeId) : Obj := .cells #[.slice C.pa C.pn C.pc, .slice C.la C.ln C.lc, .slice C.sa C.sn C.sc, .int .i64 C.fin, .int .i64 C.fuel, .int .i64 C.fan] t
theorem cells6 {w : World} {b : Nat} {x0 x1 x2 x3 x4 x5 : Value} {t : TypeId} {f : Nat × Nat} (h : w.heap[b]? = some (.cells #[x0, x1, x2, x3, x4, x5] t f)) :
    w.cell? ⟨b, 0, none⟩ = some x0 ∧ w.cell? ⟨b, 1, none⟩ = some x1 ∧ w.cell? ⟨b, 2, none⟩ = some x2 ∧ w.cell? ⟨b, 3, none⟩ = some x3 ∧ w.cell? ⟨b, 4, none⟩ = some x4 ∧ w.cell? ⟨b, 5, none⟩ = some x5 := by
  refine ⟨?_, ?_, ?_, ?_, ?_, ?_⟩ <;> (rw [cell_of_obj h]; rfl)

structure CfAt (w : World) (C : Cf) : Prop where
  ps : SlAt Pg.enc 1 w C.pa C.pn C.pc C.ps
  is_ : ∀ p ∈ C.ps, Ins.at_ w p.a p.n p.c p.l
  ls : SlAt Pl.enc 5 w C.la C.ln C.lc C.ls
  ss : SlAt St.enc 4 w C.sa C.sn C.sc C.ss
/-- A nil slice is empty. -/
abbrev NilOk (a : Option Addr) (n c : Nat) : Prop := a = none → n = 0 ∧ c = 0
structure CfNil (C : Cf) : Prop where
  ps : NilOk C.pa C.pn C.pc
  is_ : ∀ p ∈ C.ps, NilOk p.a p.n p.c
  ls : NilOk C.la C.ln C.lc
  ss : NilOk C.sa C.sn C.sc
/-- It lies between two blocks. -/
def Betw (lo hi : Nat) (a : Option Addr) : Prop := ∀ x, a = some x → lo ≤ x.block ∧ x.block < hi
structure CfIn (lo hi : Nat) (C : Cf) : Prop where
  ps : Betw lo hi C.pa
  is_ : ∀ p ∈ C.ps, Betw lo hi p.a
  ls : Betw lo hi C.la
  ss : Betw lo hi C.sa
theorem Betw.out {lo hi : Nat} {a : Option Addr} {S : List Nat} (h : Betw lo hi a) (hS : ∀ k ∈ S, k < lo ∨ hi ≤ k) : ∀ x, a = some x → x.block ∉ S := fun x hx hm => by
  have := h x hx
  rcases hS _ hm with h1 | h1 <;> omega
theorem Betw.mono {lo hi lo' hi' : Nat} {a : Option Addr} (h : Betw lo hi a) (h1 : lo' ≤ lo) (h2 : hi ≤ hi') : Betw lo' hi' a := fun x hx => by have := h x hx; omega
theorem SlAt.frmS {α : Type} {enc : α → List Value} {k : Nat} {w w' : World} {a : Option Addr} {n cap : Nat} {l : List α} {S : List Nat} (h : SlAt enc k w a n cap l) (hf : Frm S w w') (hS : ∀ x, a = some x → x.block ∉ S) : SlAt enc k w' a n cap l := by
  obtain ⟨hl1, hl2, hl3, hl5⟩ := h
  refine ⟨hl1, hl2, hl3, ?_⟩
  rcases hl5 with h0 | ⟨bl, off, rfl, hbl, hcells⟩
  · exact .inl h0
  · exact .inr ⟨bl, off, rfl, Nat.lt_of_lt_of_le hbl hf.size, fun i m hi j u hj => hf.cell (hcells i m hi j u hj) (hS ⟨bl, off, none⟩ rfl)⟩
theorem CfAt.frm {w w' : World} {C : Cf} (h : CfAt w C) (hf : Frm [] w w') : CfAt w' C := ⟨h.ps.frm hf, fun p hp => (h.is_ p hp).frm hf, h.ls.frm hf, h.ss.frm hf⟩
theorem CfAt.frmS {w w' : World} {C : Cf} {lo hi : Nat} {S : List Nat} (h : CfAt w C) (hin : CfIn lo hi C) (hf : Frm S w w') (hS : ∀ k ∈ S, k < lo ∨ hi ≤ k) : CfAt w' C :=
  ⟨h.ps.frmS hf (hin.ps.out hS), fun p hp => (h.is_ p hp).frmS hf ((hin.is_ p hp).out hS), h.ls.frmS hf (hin.ls.out hS), h.ss.frmS hf (hin.ss.out hS)⟩

/-- Two configurations that say the same. -/
structure Cf.Like (C D : Cf) : Prop where
  pn : D.pn = C.pn
  ps : D.ps.map Pg.l = C.ps.map Pg.l
  ln : D.ln = C.ln
  ls : D.ls = C.ls
  sn : D.sn = C.sn
  ss : D.ss = C.ss
  fin : D.fin = C.fin
  fuel : D.fuel = C.fuel
  fan : D.fan = C.fan
/-- A model: it lies in the blocks from lo on, below hi. -/
structure ModAt (lo hi : Nat) (w : World) (m : Nat) (D : Cf) : Prop where
  obj : w.heap[m]? = some (D.obj 80)
  lo_ : lo ≤ m
  hi_ : m < hi
  size : hi ≤ w.heap.size
  at_ : CfAt w D
  nil : CfNil D
  in_ : CfIn lo hi D
theorem ModAt.frm {lo hi : Nat} {w w' : World} {m : Nat} {D : Cf} {S : List Nat} (h : ModAt lo hi w m D) (hf : Frm S w w') (hS : ∀ k ∈ S, k < lo ∨ hi ≤ k) : ModAt lo hi w' m D :=
  ⟨hf.obj h.obj (fun hm => by have := h.lo_; have := h.hi_; rcases hS _ hm with h1 | h1 <;> omega), h.lo_, h.hi_, Nat.le_trans h.size hf.size, h.at_.frmS h.in_ hf hS, h.nil, h.in_⟩
theorem ModAt.frm0 {lo hi : Nat} {w w' : World} {m : Nat} {D : Cf} (h : ModAt lo hi w m D) (hf : Frm [] w w') : ModAt lo hi w' m D := h.frm hf (by simp)

/-- The first of several errors that is one. -/
def firstE : List Int → Int
  | [] => 0
  | x :: l => if x = 0 then firstE l else x
def withinE (n least most : Int) : Int := if n < least ∨ n > most then 10 else 0
def roomE (n : Nat) : Int := if 256 < n then 11 else 0
def writtenE (ps : List Pg) : Int := firstE (ps.map fun p => (checkP p.l).2)
def hasB (many i : Int) : Bool := decide (0 ≤ i) && decide (i < many)
def knownE (C : Cf) : Int := if (C.ls.all fun p => hasB C.pn p.pr) && (C.ss.all fun s => hasB C.ln s.dst) then 0 else 14
def timelyB (fin : Int) (s : St) : Bool := decide (0 ≤ s.at_) && decide (s.at_ ≤ fin)
def timelyE (C : Cf) : Int := if C.ss.all (timelyB C.fin) then 0 else 18
def checkC (C : Cf) : Int := firstE [withinE C.ln 1 32, withinE C.pn 1 32, withinE C.fin 1 1073741824, withinE C.fuel 1 1024, withinE C.fan 0 8, roomE C.sn, writtenE C.ps, knownE C, timelyE C]
theorem firstE_ok : ∀ {l : List Int}, firstE l = 0 → ∀ x ∈ l, x = 0
  | [], _, _, h => absurd h (by simp)
  | a :: l, h, x, hx => by
    unfold firstE at h
    split at h
    · rename_i ha
      rcases List.mem_cons.1 hx with rfl | hx
      · exact ha
      · exact firstE_ok h x hx
    · rename_i ha; exact absurd h ha
theorem firstE_zero : ∀ {l : List Int}, (∀ x ∈ l, x = 0) → firstE l = 0
  | [], _ => rfl
  | a :: l, h => by unfold firstE; rw [if_pos (h a (by simp))]; exact firstE_zero fun x hx => h x (by simp [hx])
theorem firstE_step {l : List Int} {k : Nat} {x : Int} (hx : l[k]? = some x) (h0 : x = 0) : firstE (l.drop k) = firstE (l.drop (k + 1)) := by
  rw [List.drop_eq_getElem_cons (List.getElem?_eq_some_iff.1 hx).1, (List.getElem?_eq_some_iff.1 hx).2, firstE, if_pos h0]
theorem firstE_hit {l : List Int} {k : Nat} {x : Int} (hx : l[k]? = some x) (h0 : x ≠ 0) : firstE (l.drop k) = x := by
  rw [List.drop_eq_getElem_cons (List.getElem?_eq_some_iff.1 hx).1, (List.getElem?_eq_some_iff.1 hx).2, firstE, if_neg h0]
/-- What a configuration that may be has. -/
structure Cf.Ok (C : Cf) : Prop where
  ln1 : 1 ≤ C.ln
  ln2 : C.ln ≤ 32
  pn1 : 1 ≤ C.pn
  pn2 : C.pn ≤ 32
  sn : C.sn ≤ 256
  ps : ∀ p ∈ C.ps, (checkP p.l).2 = 0
  pr : ∀ p ∈ C.ls, 0 ≤ p.pr ∧ p.pr < C.pn
  dst : ∀ s ∈ C.ss, 0 ≤ s.dst ∧ s.dst < C.ln
  at_ : ∀ s ∈ C.ss, 0 ≤ s.at_ ∧ s.at_ ≤ C.fin
  fin1 : 1 ≤ C.fin
  fin2 : C.fin ≤ 1073741824
theorem withinE_ok {n a b : Int} (h : withinE n a b = 0) : a ≤ n ∧ n ≤ b := by
  unfold withinE at h
  split at h
  · cases h
  · omega
theorem hasB_iff {n i : Int} : hasB n i = true ↔ 0 ≤ i ∧ i < n := by unfold hasB; simp
theorem okOf {C : Cf} (h : checkC C = 0) : C.Ok := by
  have h' := firstE_ok h
  simp only [List.mem_cons, List.not_mem_nil, or_false, forall_eq_or_imp, forall_eq] at h'
  obtain ⟨h1, h2, h3, _, _, h6, h7, h8, h9⟩ := h'
  have a1 := withinE_ok h1
  have a2 := withinE_ok h2
  have a3 := withinE_ok h3
  have a6 : C.sn ≤ 256 := by
    unfold roomE at h6
    split at h6
    · cases h6
    · omega
  unfold knownE at h8
  split at h8
  case isFalse => cases h8
  rename_i hk
  unfold timelyE at h9
  split at h9
  case isFalse => cases h9
  rename_i ht
  simp only [Bool.and_eq_true, List.all_eq_true] at hk ht
  refine ⟨by omega, by omega, by omega, by omega, a6, fun p hp => firstE_ok h7 _ (List.mem_map.2 ⟨p, hp, rfl⟩), fun p hp => hasB_iff.1 (hk.1 p hp), fun s hs => hasB_iff.1 (hk.2 s hs), fun s hs => ?_, by omega, by omega⟩
  have := ht s hs
  unfold timelyB at this
  simpa using this
end Go.Proofs.YtbkadfdpboghiaaDoor
