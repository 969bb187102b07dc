/- A slab and the document's beside the handles that calls were answered: what lies in memory, what a call makes of it. -/
import Derived.Test.YtpfolcoijncfjaaSlabSame
namespace Go.Proofs.Ytpfolcoijncfjaa
open Go.RowKit

/-- The handle that a call speaks of. -/
def handleAt (l : List (Int × Int)) (o : OpV) : Int × Int := if 0 ≤ o.at_ ∧ o.at_ < l.length then (l[o.at_.toNat]?).getD (0, 0) else (o.hs, o.ht)
theorem handle_lt {l : List (Int × Int)} {o : OpV} {i : Nat} {h : Int × Int} (hi : o.at_ = (i : Int)) (hx : l[i]? = some h) : handleAt l o = h := by
  have := (List.getElem?_eq_some_iff.1 hx).1
  unfold handleAt
  rw [if_pos ⟨by omega, by omega⟩, hi, show ((i : Int)).toNat = i by omega, hx]
  rfl
theorem handle_out {l : List (Int × Int)} {o : OpV} (h : o.at_ < 0 ∨ (l.length : Int) ≤ o.at_) : handleAt l o = (o.hs, o.ht) := if_neg (by omega)
/-- What a call makes of slots. -/
def doesS (s : St) (l : List (Int × Int)) (o : OpV) : St :=
  if o.ask = 0 then (s.takes o.cls o.urg o.v).2 else
  match s.look (handleAt l o).1 (handleAt l o).2 with
  | none => s
  | some (i, c, _) => if o.ask = 1 then s.free i (handleAt l o).2 else if o.ask = 3 then { s with slots := s.slots.set i (c, (handleAt l o).2, o.v) } else s
/-- What a call is answered, as a handle. -/
def doesH (s : St) (o : OpV) : Int × Int := if o.ask = 0 then (if o.cls < 1 ∨ 4 < o.cls then (0, 0) else if s.isFull o.urg then (0, 0) else ((s.pick.1 : Int), s.turn)) else (-1, 0)

theorem takes_both (s : St) (c v : Int) (u : Bool) :
    (∃ E : Int, E ≠ 0 ∧ s.takes c u v = (.tuple #[.agg #[.int .i64 0, .int .i64 0], .int .i64 E], s) ∧ s.rtakes c u = .tuple #[.int .i64 0, .int .i64 E] ∧ (c < 1 ∨ 4 < c ∨ s.isFull u = true)) ∨
    (s.takes c u v = (.tuple #[.agg #[.int .i64 (s.pick.1 : Int), .int .i64 s.turn], .int .i64 0], s.take c v) ∧ s.rtakes c u = .tuple #[.int .i64 (s.pick.1 : Int), .int .i64 0] ∧ 1 ≤ c ∧ c ≤ 4 ∧ s.isFull u = false) := by
  unfold St.takes St.rtakes
  by_cases hc : c < 1 ∨ 4 < c
  · exact .inl ⟨1, by omega, by rw [if_pos hc], by rw [if_pos hc], by omega⟩
  · cases hf : s.isFull u with
    | true => exact .inl ⟨11, by omega, by rw [if_neg hc]; rfl, by rw [if_neg hc]; rfl, .inr (.inr rfl)⟩
    | false => exact .inr ⟨by rw [if_neg hc]; rfl, by rw [if_neg hc]; rfl, by omega, by omega, rfl⟩

section
variable {B : Nat} {w0 w : World} {Q : World → List Nat → Prop} {L : List (Nat × Obj)}
/-- A play in memory: its parts, and whole. -/
def play0 (P hb rb : Nat) (s s2 : St) (l : List (Int × Int)) (a : Option Addr) (c : Nat) (Q : World → List Nat → Prop) : World → List Nat → Prop :=
  sepR (boxR P #[.pointer (some ⟨hb, 0, none⟩), .pointer (some ⟨rb, 0, none⟩), .slice a l.length c] 35) (sepR (rowR 38 2 (.slice a l.length c) l.length (handleCells l)) (sepR (slabR hb s) (sepR (refR rb s2.ref) Q)))
theorem play0_stable (hQ : Stable Q) (P hb rb : Nat) (s s2 : St) (l : List (Int × Int)) (a : Option Addr) (c : Nat) : Stable (play0 P hb rb s s2 l a c Q) :=
  sepR_stable (boxR_stable _ _ _) (sepR_stable (rowR_stable _ _ _ _ _) (sepR_stable (slabR_stable _ _) (sepR_stable (refR_stable _ _) hQ)))
def playR (P hb rb : Nat) (s : St) (l : List (Int × Int)) (Q : World → List Nat → Prop) : World → List Nat → Prop := fun w F => ∃ x : Option Addr × Nat, play0 P hb rb s s l x.1 x.2 Q w F
theorem playR_stable (hQ : Stable Q) (P hb rb : Nat) (s : St) (l : List (Int × Int)) : Stable (playR P hb rb s l Q) := exR_stable fun _ => play0_stable hQ _ _ _ _ _ _ _ _
theorem Holds.playOpen {P hb rb : Nat} {s : St} {l : List (Int × Int)} (h : Holds B w0 (playR P hb rb s l Q) w L) : ∃ a c, Holds B w0 (play0 P hb rb s s l a c Q) w L := by
  obtain ⟨F, h, r⟩ := h
  obtain ⟨⟨a, c⟩, hx⟩ := h.res
  exact ⟨a, c, F, ⟨hx, h.lt, h.box⟩, r⟩
theorem Holds.playShut {P hb rb : Nat} {s : St} {l : List (Int × Int)} {a : Option Addr} {c : Nat} (h : Holds B w0 (play0 P hb rb s s l a c Q) w L) : Holds B w0 (playR P hb rb s l Q) w L := by
  obtain ⟨F, h, r⟩ := h
  exact ⟨F, ⟨⟨(a, c), h.res⟩, h.lt, h.box⟩, r⟩
section
variable {P hb rb : Nat} {s s2 : St} {l : List (Int × Int)} {a : Option Addr} {c : Nat}
theorem Holds.pCells (h : Holds B w0 (play0 P hb rb s s2 l a c Q) w L) : w.cell? ⟨P, 0, none⟩ = some (.pointer (some ⟨hb, 0, none⟩)) ∧ w.cell? ⟨P, 1, none⟩ = some (.pointer (some ⟨rb, 0, none⟩)) ∧ w.cell? ⟨P, 2, none⟩ = some (.slice a l.length c) := cells3 h.theBox
theorem Holds.pLt (h : Holds B w0 (play0 P hb rb s s2 l a c Q) w L) : P < w.heap.size := lt_of_obj h.theBox
theorem Holds.pRow (h : Holds B w0 (play0 P hb rb s s2 l a c Q) w L) : w.ownsRow 0 38 2 (.slice a l.length c) l.length (handleCells l) := h.drop.row
theorem Holds.pRef (h : Holds B w0 (play0 P hb rb s s2 l a c Q) w L) : ∃ lv fv, RefAt w rb s2.ref lv fv := h.drop.drop.drop.refAt
/-- The slab comes first, and back. -/
theorem Holds.pSlab (h : Holds B w0 (play0 P hb rb s s2 l a c Q) w L) : Holds B w0 (sepR (slabR hb s) (sepR (boxR P #[.pointer (some ⟨hb, 0, none⟩), .pointer (some ⟨rb, 0, none⟩), .slice a l.length c] 35) (sepR (rowR 38 2 (.slice a l.length c) l.length (handleCells l)) (sepR (refR rb s2.ref) Q)))) w L := h.conv Conv.third
theorem Holds.pSlab' (h : Holds B w0 (sepR (slabR hb s) (sepR (boxR P #[.pointer (some ⟨hb, 0, none⟩), .pointer (some ⟨rb, 0, none⟩), .slice a l.length c] 35) (sepR (rowR 38 2 (.slice a l.length c) l.length (handleCells l)) (sepR (refR rb s2.ref) Q)))) w L) : Holds B w0 (play0 P hb rb s s2 l a c Q) w L := h.conv Conv.toThird
/-- The document's slab comes first, and back. -/
theorem Holds.pRefF (h : Holds B w0 (play0 P hb rb s s2 l a c Q) w L) : Holds B w0 (sepR (refR rb s2.ref) (sepR (boxR P #[.pointer (some ⟨hb, 0, none⟩), .pointer (some ⟨rb, 0, none⟩), .slice a l.length c] 35) (sepR (rowR 38 2 (.slice a l.length c) l.length (handleCells l)) (sepR (slabR hb s) Q)))) w L := h.conv ((Conv.right Conv.third).trans Conv.exch)
theorem Holds.pRefF' (h : Holds B w0 (sepR (refR rb s2.ref) (sepR (boxR P #[.pointer (some ⟨hb, 0, none⟩), .pointer (some ⟨rb, 0, none⟩), .slice a l.length c] 35) (sepR (rowR 38 2 (.slice a l.length c) l.length (handleCells l)) (sepR (slabR hb s) Q)))) w L) : Holds B w0 (play0 P hb rb s s2 l a c Q) w L := h.conv (Conv.exch.trans (Conv.right Conv.toThird))
/-- The handles come first. -/
theorem Holds.pRowF (h : Holds B w0 (play0 P hb rb s s2 l a c Q) w L) : Holds B w0 (sepR (rowR 38 2 (.slice a l.length c) l.length (handleCells l)) (sepR (boxR P #[.pointer (some ⟨hb, 0, none⟩), .pointer (some ⟨rb, 0, none⟩), .slice a l.length c] 35) (sepR (slabR hb s) (sepR (refR rb s2.ref) Q)))) w L := h.conv Conv.exch
end
abbrev OpV.val (o : OpV) : Value := .agg #[.int .i64 o.ask, .int .i64 o.cls, .bool o.urg, .int .i64 o.v, .int .i64 o.at_, .int .i64 o.hs, .int .i64 o.ht]
abbrev OpV.box (o : OpV) : Obj := .cells #[.int .i64 o.ask, .int .i64 o.cls, .bool o.urg, .int .i64 o.v, .int .i64 o.at_, .int .i64 o.hs, .int .i64 o.ht] 40
abbrev hBox (x t : Int) : Obj := .cells #[.int .i64 x, .int .i64 t] 38
end
end Go.Proofs.Ytpfolcoijncfjaa
