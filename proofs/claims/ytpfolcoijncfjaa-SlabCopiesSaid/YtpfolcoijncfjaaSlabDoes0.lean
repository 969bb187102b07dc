/- does: what its ways share. -/
import Derived.Test.YtpfolcoijncfjaaSlabPlay
namespace Go.Proofs.Ytpfolcoijncfjaa
open Go.RowKit

section
variable {B : Nat} {w0 w : World} {Q : World → List Nat → Prop} {L : List (Nat × Obj)}
theorem opCells {w : World} {b : Nat} {o : OpV} (h : w.heap[b]? = some o.box) : w.cell? ⟨b, 0, none⟩ = some (.int .i64 o.ask) ∧ w.cell? ⟨b, 1, none⟩ = some (.int .i64 o.cls) ∧ w.cell? ⟨b, 2, none⟩ = some (.bool o.urg) ∧ w.cell? ⟨b, 3, none⟩ = some (.int .i64 o.v) ∧ w.cell? ⟨b, 4, none⟩ = some (.int .i64 o.at_) ∧ w.cell? ⟨b, 5, none⟩ = some (.int .i64 o.hs) ∧ w.cell? ⟨b, 6, none⟩ = some (.int .i64 o.ht) := cells7 h

theorem info_parts {t : TypeId} {z : Value} {s n : Nat} (h : (Try.prog.info? t).map (fun i => (i.zero, i.size, i.bytes)) = some (some z, s, n)) : ∃ i, Try.prog.info? t = some i ∧ i.zero = some z ∧ i.size = s ∧ i.bytes = n := by
  cases hi : Try.prog.info? t with
  | none => rw [hi] at h; cases h
  | some i =>
    rw [hi] at h
    simp only [Option.map_some, Option.some.injEq, Prod.mk.injEq] at h
    exact ⟨i, rfl, h.1, h.2.1, h.2.2⟩
theorem infoHandle2 : (Try.prog.info? 38).map (fun i => (i.zero, i.size, i.bytes)) = some (some (.agg #[.int .i64 0, .int .i64 0]), 2, 16) := by kernel_rfl
theorem take_slot {s : St} (h : s.Ok) (c v : Int) {u : Bool} (hf : s.isFull u = false) : (s.take c v).ref.L[s.pick.1]? = some (c, s.turn, v) := by
  have hl := full_left h hf
  have hp := pick_room h hl
  rw [take_ref h hl]
  show (s.full.set s.pick.1 (c, s.turn, v))[s.pick.1]? = _
  rw [List.getElem?_set_self (by rw [full_len]; exact hp)]
/-- Behind the append: the handle stands at the row's end. -/
theorem Holds.pAppended (hQ : Stable Q) {P hb rb : Nat} {s s2 : St} {l : List (Int × Int)} {a : Option Addr} {c : Nat} {w' : World} {a' : Option Addr} {c' : Nat} {x t : Int} (h : Holds B w0 (play0 P hb rb s s2 l a c Q) w L)
    (hown : w'.ownsRow 0 38 2 (.slice a' (l.length + 1) c') (l.length + 1) (handleCells l ++ [.int .i64 x, .int .i64 t])) (hF : Frm (Value.slice a l.length c).ownBlock.toList w w')
    (hn : ∀ k, (Value.slice a' (l.length + 1) c').ownBlock = some k → (Value.slice a l.length c).ownBlock = some k ∨ w.heap.size ≤ k) :
    Holds B w0 (sepR (boxR P #[.pointer (some ⟨hb, 0, none⟩), .pointer (some ⟨rb, 0, none⟩), .slice a l.length c] 35) (sepR (rowR 38 2 (.slice a' (l.length + 1) c') (l.length + 1) (handleCells l ++ [.int .i64 x, .int .i64 t])) (sepR (slabR hb s) (sepR (refR rb s2.ref) Q)))) w' L ∧
    Holds B w0 (play0 P hb rb s s2 (l ++ [(x, t)]) a' c' Q) (w'.setCell ⟨P, 2, none⟩ (.slice a' (l.length + 1) c')) L := by
  have hst : Stable (sepR (boxR P #[.pointer (some ⟨hb, 0, none⟩), .pointer (some ⟨rb, 0, none⟩), .slice a l.length c] 35) (sepR (slabR hb s) (sepR (refR rb s2.ref) Q))) := sepR_stable (boxR_stable _ _ _) (sepR_stable (slabR_stable _ _) (sepR_stable (refR_stable _ _) hQ))
  have h1 := (h.pRowF.appended hst hown hF hn).conv Conv.exch
  have hst2 : Stable (sepR (rowR 38 2 (.slice a' (l.length + 1) c') (l.length + 1) (handleCells l ++ [.int .i64 x, .int .i64 t])) (sepR (slabR hb s) (sepR (refR rb s2.ref) Q))) := sepR_stable (rowR_stable _ _ _ _ _) (sepR_stable (slabR_stable _ _) (sepR_stable (refR_stable _ _) hQ))
  refine ⟨h1, ?_⟩
  have h2 := h1.boxPut hst2 2 (.slice a' (l.length + 1) c')
  have e1 : (l ++ [(x, t)]).length = l.length + 1 := by simp
  have e2 : handleCells (l ++ [(x, t)]) = handleCells l ++ [.int .i64 x, .int .i64 t] := by rw [handleCells_append]; rfl
  unfold play0
  rw [e1, e2]
  exact h2
theorem Holds.boxHead {R : World → List Nat → Prop} {b : Nat} {o : Obj} (h : Holds B w0 R w ((b, o) :: L)) : w.heap[b]? = some o := h.box (by simp)
theorem Holds.put2 {R : World → List Nat → Prop} (hs : Stable R) {b : Nat} {x t : Int} (h : Holds B w0 R w ((b, hBox x t) :: L)) (hk : B ≤ b) (hM : ∀ p ∈ L, p.1 ≠ b) (X T : Int) :
    Holds B w0 R ((w.setCell ⟨b, 0, none⟩ (.int .i64 X)).setCell ⟨b, 1, none⟩ (.int .i64 T)) ((b, hBox X T) :: L) :=
  (h.put (L := []) hs hk (by simp) hM 0 (.int .i64 X)).put (L := []) hs hk (by simp) hM 1 (.int .i64 T)
end
end Go.Proofs.Ytpfolcoijncfjaa
