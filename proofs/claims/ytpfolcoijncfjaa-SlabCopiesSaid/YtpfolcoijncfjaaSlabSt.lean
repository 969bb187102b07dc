/- A slab in memory: its struct, the row of its slots, the row of those that were freed. -/
import Derived.Test.YtpfolcoijncfjaaLib
namespace Go.Proofs.Ytpfolcoijncfjaa
open Go.RowKit

abbrev Slot3 := Int × Int × Int
def slotCells : List Slot3 → List Value
  | [] => []
  | (c, t, v) :: l => .int .i64 c :: .int .i64 t :: .int .i64 v :: slotCells l
def natCells (l : List Nat) : List Value := l.map fun (i : Nat) => .int .i64 (i : Int)

theorem slotCells_length (l : List Slot3) : (slotCells l).length = l.length * 3 := by
  induction l with
  | nil => rfl
  | cons s l ih => obtain ⟨c, t, v⟩ := s; simp only [slotCells, List.length_cons, ih]; omega
theorem slotCells_append (l m : List Slot3) : slotCells (l ++ m) = slotCells l ++ slotCells m := by
  induction l with
  | nil => rfl
  | cons s l ih => obtain ⟨c, t, v⟩ := s; simp [slotCells, ih]
theorem slotCells_get {l : List Slot3} {i : Nat} {c t v : Int} (h : l[i]? = some (c, t, v)) :
    (slotCells l)[i * 3]? = some (.int .i64 c) ∧ (slotCells l)[i * 3 + 1]? = some (.int .i64 t) ∧ (slotCells l)[i * 3 + 2]? = some (.int .i64 v) := by
  induction l generalizing i with
  | nil => simp at h
  | cons s l ih =>
    obtain ⟨c', t', v'⟩ := s
    cases i with
    | zero => simp at h; obtain ⟨rfl, rfl, rfl⟩ := h; simp [slotCells]
    | succ i =>
      have h' : l[i]? = some (c, t, v) := by simpa using h
      obtain ⟨h1, h2, h3⟩ := ih h'
      have e : (i + 1) * 3 = i * 3 + 3 := by omega
      refine ⟨?_, ?_, ?_⟩
      · rw [e]; simpa [slotCells] using h1
      · rw [e, show i * 3 + 3 + 1 = (i * 3 + 1) + 3 by omega]; simpa [slotCells] using h2
      · rw [e, show i * 3 + 3 + 2 = (i * 3 + 2) + 3 by omega]; simpa [slotCells] using h3
theorem slotCells_set {l : List Slot3} {i : Nat} {c t v : Int} (h : l[i]? = some (c, t, v)) (c' t' v' : Int) :
    (slotCells l).set (i * 3) (.int .i64 c') = slotCells (l.set i (c', t, v)) ∧ (slotCells l).set (i * 3 + 1) (.int .i64 t') = slotCells (l.set i (c, t', v)) ∧
      (slotCells l).set (i * 3 + 2) (.int .i64 v') = slotCells (l.set i (c, t, v')) := by
  induction l generalizing i with
  | nil => simp at h
  | cons s l ih =>
    obtain ⟨c0, t0, v0⟩ := s
    cases i with
    | zero => simp at h; obtain ⟨rfl, rfl, rfl⟩ := h; simp [slotCells]
    | succ i =>
      have h' : l[i]? = some (c, t, v) := by simpa using h
      obtain ⟨h1, h2, h3⟩ := ih h'
      have e : (i + 1) * 3 = i * 3 + 3 := by omega
      refine ⟨?_, ?_, ?_⟩
      · rw [e]; simp only [slotCells, List.set_cons_succ, h1]
      · rw [e, show i * 3 + 3 + 1 = (i * 3 + 1) + 3 by omega]; simp only [slotCells, List.set_cons_succ, h2]
      · rw [e, show i * 3 + 3 + 2 = (i * 3 + 2) + 3 by omega]; simp only [slotCells, List.set_cons_succ, h3]
theorem slotCells_take (l : List Slot3) (k : Nat) : (slotCells l).take (k * 3) = slotCells (l.take k) := by
  induction l generalizing k with
  | nil => simp [slotCells]
  | cons s l ih =>
    obtain ⟨c, t, v⟩ := s
    cases k with
    | zero => simp [slotCells]
    | succ k => rw [show (k + 1) * 3 = k * 3 + 3 by omega]; simp [slotCells, ih]

structure St where
  room : Nat
  reserve : Nat
  slots : List Slot3
  freed : List Nat

structure SlabAt (w : World) (b : Nat) (s : St) (sv fv : Value) : Prop where
  box : w.heap[b]? = some (.cells #[.int .i64 (s.room : Int), .int .i64 (s.reserve : Int), sv, fv] 68 (0, 0))
  rowS : w.ownsRow 0 75 3 sv s.slots.length (slotCells s.slots)
  rowF : w.ownsRow 0 3 1 fv s.freed.length (natCells s.freed)
  neS : ∀ k, sv.ownBlock = some k → k ≠ b
  neF : ∀ k, fv.ownBlock = some k → k ≠ b
  neSF : ∀ k, sv.ownBlock = some k → fv.ownBlock ≠ some k

def foot (b : Nat) (sv fv : Value) : List Nat := b :: (sv.ownBlock.toList ++ fv.ownBlock.toList)

theorem mem_foot {b : Nat} {sv fv : Value} {k : Nat} : k ∈ foot b sv fv ↔ k = b ∨ sv.ownBlock = some k ∨ fv.ownBlock = some k := by
  simp [foot]

theorem SlabAt.kept {w w' : World} {b : Nat} {s : St} {sv fv : Value} {S : List Nat} (h : SlabAt w b s sv fv) (hf : Frm S w w') (hd : ∀ k ∈ foot b sv fv, k ∉ S) : SlabAt w' b s sv fv :=
  ⟨hf.obj h.box (hd _ (mem_foot.2 (.inl rfl))), hf.row h.rowS (fun k hk => hd k (mem_foot.2 (.inr (.inl hk)))), hf.row h.rowF (fun k hk => hd k (mem_foot.2 (.inr (.inr hk)))), h.neS, h.neF, h.neSF⟩
theorem SlabAt.lt {w : World} {b : Nat} {s : St} {sv fv : Value} (h : SlabAt w b s sv fv) : ∀ k ∈ foot b sv fv, k < w.heap.size := by
  intro k hk
  rcases mem_foot.1 hk with rfl | hk | hk
  · exact lt_of_obj h.box
  · exact row_lt h.rowS k hk
  · exact row_lt h.rowF k hk
theorem SlabAt.c0 {w : World} {b : Nat} {s : St} {sv fv : Value} (h : SlabAt w b s sv fv) : w.cell? ⟨b, 0, none⟩ = some (.int .i64 (s.room : Int)) := by rw [cell_of_obj h.box]; rfl
theorem SlabAt.c1 {w : World} {b : Nat} {s : St} {sv fv : Value} (h : SlabAt w b s sv fv) : w.cell? ⟨b, 1, none⟩ = some (.int .i64 (s.reserve : Int)) := by rw [cell_of_obj h.box]; rfl
theorem SlabAt.c2 {w : World} {b : Nat} {s : St} {sv fv : Value} (h : SlabAt w b s sv fv) : w.cell? ⟨b, 2, none⟩ = some sv := by rw [cell_of_obj h.box]; rfl
theorem SlabAt.c3 {w : World} {b : Nat} {s : St} {sv fv : Value} (h : SlabAt w b s sv fv) : w.cell? ⟨b, 3, none⟩ = some fv := by rw [cell_of_obj h.box]; rfl

theorem SlabAt.drewN {w : World} {b : Nat} {s : St} {sv fv : Value} (h : SlabAt w b s sv fv) (n : Nat) : SlabAt (w.drewN n) b s sv fv := ⟨h.box, h.rowS, h.rowF, h.neS, h.neF, h.neSF⟩

/-- What is always so of a slab. -/
structure St.Ok (s : St) : Prop where
  room : s.room ≤ 4096
  res : s.reserve ≤ s.room
  len : s.slots.length ≤ s.room
  nodup : s.freed.Nodup
  freed : ∀ i ∈ s.freed, i < s.slots.length
  cls : ∀ i c t v, s.slots[i]? = some (c, t, v) → 0 ≤ c ∧ c ≤ 4 ∧ 0 < t ∧ (c = 0 ↔ i ∈ s.freed)

theorem nodup_le {n : Nat} : ∀ {l : List Nat}, l.Nodup → (∀ i ∈ l, i < n) → l.length ≤ n := by
  induction n with
  | zero =>
    intro l _ hb
    cases l with
    | nil => simp
    | cons a l => exact absurd (hb a (by simp)) (by omega)
  | succ n ih =>
    intro l h hb
    by_cases hm : n ∈ l
    · have h1 := ih (h.erase n) (fun i hi => by
        have h2 := (List.Nodup.mem_erase_iff h).1 hi
        have := hb i h2.2
        omega)
      rw [List.length_erase_of_mem hm] at h1
      omega
    · have := ih h (fun i hi => by
        have h2 := hb i hi
        have h3 : i ≠ n := fun e => hm (e ▸ hi)
        omega)
      omega
theorem St.Ok.freed_le {s : St} (h : s.Ok) : s.freed.length ≤ s.slots.length := nodup_le h.nodup h.freed
theorem SlabAt.alloc {w : World} {b : Nat} {s : St} {sv fv : Value} (h : SlabAt w b s sv fv) (o : Obj) : SlabAt (w.alloc o) b s sv fv :=
  h.kept (S := []) ((Frm.refl _ _).alloc o) (by simp)

theorem SlabAt.drew {w : World} {b : Nat} {s : St} {sv fv : Value} (h : SlabAt w b s sv fv) : SlabAt w.drew b s sv fv := ⟨h.box, h.rowS, h.rowF, h.neS, h.neF, h.neSF⟩

theorem row_setCell {w : World} {e : TypeId} {size : Nat} {v : Value} {n : Nat} {xs : List Value} (h : w.ownsRow 0 e size v n xs) {a : Addr} (ha : ∀ k, v.ownBlock = some k → k ≠ a.block) (u : Value) : (w.setCell a u).ownsRow 0 e size v n xs :=
  (Frm.setCell (S := [a.block]) (Frm.refl _ _) (.inl (by simp)) u).row h (fun k hk => by simpa using ha k hk)
theorem SlabAt.putF {w : World} {b : Nat} {s : St} {sv fv fv' : Value} {fs : List Nat} (hb : w.heap[b]? = some (.cells #[.int .i64 (s.room : Int), .int .i64 (s.reserve : Int), sv, fv] 68 (0, 0)))
    (hS : w.ownsRow 0 75 3 sv s.slots.length (slotCells s.slots)) (neS : ∀ k, sv.ownBlock = some k → k ≠ b) (hF : w.ownsRow 0 3 1 fv' fs.length (natCells fs))
    (neF : ∀ k, fv'.ownBlock = some k → k ≠ b) (neSF : ∀ k, sv.ownBlock = some k → fv'.ownBlock ≠ some k) : SlabAt (w.setCell ⟨b, 3, none⟩ fv') b { s with freed := fs } sv fv' :=
  ⟨obj_setCell hb 3 fv', row_setCell hS neS _, row_setCell hF neF _, neS, neF, neSF⟩
theorem SlabAt.putS {w : World} {b : Nat} {s : St} {sv fv sv' : Value} {l : List Slot3} (hb : w.heap[b]? = some (.cells #[.int .i64 (s.room : Int), .int .i64 (s.reserve : Int), sv, fv] 68 (0, 0)))
    (hF : w.ownsRow 0 3 1 fv s.freed.length (natCells s.freed)) (neF : ∀ k, fv.ownBlock = some k → k ≠ b) (hS : w.ownsRow 0 75 3 sv' l.length (slotCells l))
    (neS : ∀ k, sv'.ownBlock = some k → k ≠ b) (neSF : ∀ k, sv'.ownBlock = some k → fv.ownBlock ≠ some k) : SlabAt (w.setCell ⟨b, 2, none⟩ sv') b { s with slots := l } sv' fv :=
  ⟨obj_setCell hb 2 sv', row_setCell hS neS _, row_setCell hF neF _, neS, neF, neSF⟩

/-- What a call has done to a slab. -/
def Does (r : Value) (w : World) (b : Nat) (s' : St) (F : List Nat) (e : Ending) (w' : World) : Prop :=
  e = .returned r ∧ ∃ sv' fv', SlabAt w' b s' sv' fv' ∧ Frm F w w' ∧ ∀ k ∈ foot b sv' fv', k ∈ F ∨ w.heap.size ≤ k

/-- A cell of a slot is written. -/
theorem SlabAt.store {w : World} {b : Nat} {s : St} {g n cap : Nat} {fv : Value} (h : SlabAt w b s (.slice (some ⟨g, 0, none⟩) n cap) fv) (j : Nat) (u : Value) {l : List Slot3}
    (hn : n = s.slots.length) (hl : (slotCells s.slots).set j u = slotCells l) (hll : l.length = s.slots.length) :
    SlabAt (w.setCell ⟨g, j, none⟩ u) b { s with slots := l } (.slice (some ⟨g, 0, none⟩) n cap) fv := by
  subst hn
  have hgb : g ≠ b := h.neS g rfl
  refine ⟨obj_setCell_ne h.box (by simpa using Ne.symm hgb) u, ?_, ?_, h.neS, h.neF, h.neSF⟩
  · have := (h.rowS.stored j u).1
    rw [hl] at this
    show World.ownsRow _ _ _ _ _ l.length (slotCells l)
    rw [hll]; exact this
  · refine h.rowF.kept (h.rowS.stored j u).2 ?_
    have := h.neSF g rfl
    cases hv : fv.ownBlock with
    | none => exact .inl rfl
    | some k => right; rw [hv] at this; exact this
theorem SlabAt.storeC {w : World} {b : Nat} {s : St} {g n cap : Nat} {fv : Value} (h : SlabAt w b s (.slice (some ⟨g, 0, none⟩) n cap) fv) (hn : n = s.slots.length) {i : Nat} {c t v : Int} (hi : s.slots[i]? = some (c, t, v)) (c' : Int) :
    SlabAt (w.setCell ⟨g, i * 3, none⟩ (.int .i64 c')) b { s with slots := s.slots.set i (c', t, v) } (.slice (some ⟨g, 0, none⟩) n cap) fv :=
  h.store _ _ hn (slotCells_set hi c' 0 0).1 (by simp)
theorem SlabAt.storeT {w : World} {b : Nat} {s : St} {g n cap : Nat} {fv : Value} (h : SlabAt w b s (.slice (some ⟨g, 0, none⟩) n cap) fv) (hn : n = s.slots.length) {i : Nat} {c t v : Int} (hi : s.slots[i]? = some (c, t, v)) (t' : Int) :
    SlabAt (w.setCell ⟨g, i * 3 + 1, none⟩ (.int .i64 t')) b { s with slots := s.slots.set i (c, t', v) } (.slice (some ⟨g, 0, none⟩) n cap) fv :=
  h.store _ _ hn (slotCells_set hi 0 t' 0).2.1 (by simp)
theorem SlabAt.storeV {w : World} {b : Nat} {s : St} {g n cap : Nat} {fv : Value} (h : SlabAt w b s (.slice (some ⟨g, 0, none⟩) n cap) fv) (hn : n = s.slots.length) {i : Nat} {c t v : Int} (hi : s.slots[i]? = some (c, t, v)) (v' : Int) :
    SlabAt (w.setCell ⟨g, i * 3 + 2, none⟩ (.int .i64 v')) b { s with slots := s.slots.set i (c, t, v') } (.slice (some ⟨g, 0, none⟩) n cap) fv :=
  h.store _ _ hn (slotCells_set hi 0 0 v').2.2 (by simp)
theorem get_set {l : List Slot3} {i : Nat} (hi : i < l.length) (x : Slot3) : (l.set i x)[i]? = some x := by simp [hi]

/-- What a handle tells: the slot, the class, the thing. -/
def St.look (s : St) (x t : Int) : Option (Nat × Int × Int) :=
  if 0 ≤ x then match s.slots[x.toNat]? with
    | some (c, t', v) => if c ≠ 0 ∧ t' = t then some (x.toNat, c, v) else none
    | none => none
  else none

theorem look_some {s : St} {x t : Int} {i : Nat} {c v : Int} (h : s.look x t = some (i, c, v)) : x = (i : Int) ∧ s.slots[i]? = some (c, t, v) ∧ c ≠ 0 ∧ i < s.slots.length := by
  unfold St.look at h
  split at h
  · rename_i h0
    split at h
    · rename_i c' t' v' hs
      split at h
      · rename_i hc
        simp only [Option.some.injEq, Prod.mk.injEq] at h
        obtain ⟨rfl, rfl, rfl⟩ := h
        obtain ⟨hc0, rfl⟩ := hc
        exact ⟨(Int.toNat_of_nonneg h0).symm, hs, hc0, (List.getElem?_eq_some_iff.1 hs).1⟩
      · simp at h
    · simp at h
  · simp at h
theorem look_none {s : St} {x t : Int} (h : s.look x t = none) : x < 0 ∨ (∃ i : Nat, x = (i : Int) ∧ s.slots.length ≤ i) ∨
    ∃ (i : Nat) (c t' v : Int), x = (i : Int) ∧ i < s.slots.length ∧ s.slots[i]? = some (c, t', v) ∧ (c = 0 ∨ c ≠ 0 ∧ t' ≠ t) := by
  unfold St.look at h
  split at h
  · rename_i h0
    split at h
    · rename_i c' t' v' hs
      split at h
      · simp at h
      · rename_i hc
        refine .inr (.inr ⟨x.toNat, c', t', v', (Int.toNat_of_nonneg h0).symm, (List.getElem?_eq_some_iff.1 hs).1, hs, ?_⟩)
        by_cases hc0 : c' = 0
        · exact .inl hc0
        · exact .inr ⟨hc0, fun e => hc ⟨hc0, e⟩⟩
    · rename_i hs
      exact .inr (.inl ⟨x.toNat, (Int.toNat_of_nonneg h0).symm, List.getElem?_eq_none_iff.1 hs⟩)
  · exact .inl (by omega)
theorem SlabAt.slot {w : World} {b : Nat} {s : St} {sv fv : Value} (h : SlabAt w b s sv fv) {i : Nat} {c t v : Int} (hi : s.slots[i]? = some (c, t, v)) :
    ∃ g cap, sv = .slice (some ⟨g, 0, none⟩) s.slots.length cap ∧ g < w.heap.size ∧ w.cell? ⟨g, i * 3, none⟩ = some (.int .i64 c) ∧ w.cell? ⟨g, i * 3 + 1, none⟩ = some (.int .i64 t) ∧ w.cell? ⟨g, i * 3 + 2, none⟩ = some (.int .i64 v) ∧
      ∀ j, w.frozen? ⟨g, j, none⟩ = false := by
  have hl := (List.getElem?_eq_some_iff.1 hi).1
  obtain ⟨g, cap, rfl, hg, _⟩ := row_some h.rowS (by omega)
  obtain ⟨h1, h2, h3⟩ := slotCells_get hi
  refine ⟨g, cap, rfl, hg, ?_, ?_, ?_, fun j => h.rowS.frozenAt j⟩
  · rw [h.rowS.cellAt _ (by omega)]; exact h1
  · rw [h.rowS.cellAt _ (by omega)]; exact h2
  · rw [h.rowS.cellAt _ (by omega)]; exact h3
end Go.Proofs.Ytpfolcoijncfjaa
