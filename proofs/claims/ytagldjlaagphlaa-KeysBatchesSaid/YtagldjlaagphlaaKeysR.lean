/- Messages in memory: a slice of them that is read; a map that is held. -/
import Derived.Test.YtagldjlaagphlaaKeysP
namespace Go.Proofs.Ytagldjlaagphlaa
open Go.RowKit Go.Maps

def Mv.cells (m : Mv) : List Value := [.int .i64 m.e.k.at_, .int .i64 m.e.k.src, .int .i64 m.e.k.sent, .int .i64 m.e.k.no, .int .i64 m.e.dst, .int .i64 m.e.kind, .int .i64 m.e.data, .bool m.anti]
def msgCells : List Mv → List Value
  | [] => []
  | m :: l => .int .i64 m.e.k.at_ :: .int .i64 m.e.k.src :: .int .i64 m.e.k.sent :: .int .i64 m.e.k.no :: .int .i64 m.e.dst :: .int .i64 m.e.kind :: .int .i64 m.e.data :: .bool m.anti :: msgCells l
theorem msgCells_length (l : List Mv) : (msgCells l).length = l.length * 8 := by
  induction l with
  | nil => rfl
  | cons m l ih => simp only [msgCells, List.length_cons, ih]; omega
theorem msgCells_append (l m : List Mv) : msgCells (l ++ m) = msgCells l ++ msgCells m := by
  induction l with
  | nil => rfl
  | cons x l ih => simp [msgCells, ih]
theorem msgCells_get {l : List Mv} {i : Nat} {m : Mv} (h : l[i]? = some m) (j : Nat) (u : Value) (hj : m.cells[j]? = some u) : (msgCells l)[i * 8 + j]? = some u := by
  induction l generalizing i with
  | nil => simp at h
  | cons x l ih =>
    cases i with
    | zero =>
      simp at h
      subst h
      have hl := (List.getElem?_eq_some_iff.1 hj).1
      simp only [Mv.cells, List.length_cons, List.length_nil] at hl
      match j, hl with
      | 0, _ => simpa [msgCells, Mv.cells] using hj
      | 1, _ => simpa [msgCells, Mv.cells] using hj
      | 2, _ => simpa [msgCells, Mv.cells] using hj
      | 3, _ => simpa [msgCells, Mv.cells] using hj
      | 4, _ => simpa [msgCells, Mv.cells] using hj
      | 5, _ => simpa [msgCells, Mv.cells] using hj
      | 6, _ => simpa [msgCells, Mv.cells] using hj
      | 7, _ => simpa [msgCells, Mv.cells] using hj
    | succ i =>
      have h' : l[i]? = some m := by simpa using h
      rw [show (i + 1) * 8 + j = (i * 8 + j) + 8 by omega]
      simpa [msgCells] using ih h'
theorem msgCells_one (l : List Mv) : ∀ u ∈ msgCells l, u.oneCell' = true := by
  induction l with
  | nil => simp [msgCells]
  | cons m l ih =>
    intro u hu
    simp only [msgCells, List.mem_cons] at hu
    rcases hu with rfl | rfl | rfl | rfl | rfl | rfl | rfl | rfl | hu
    all_goals first | rfl | exact ih u hu

/-- A slice of messages that is read. -/
def MsgsAt (w : World) (a : Option Addr) (n cap : Nat) (l : List Mv) : Prop :=
  l.length = n ∧ n ≤ cap ∧ cap ≤ maxLen ∧ (∀ m ∈ l, m.Wf) ∧ (n = 0 ∨ ∃ b off, a = some ⟨b, off, none⟩ ∧ b < w.heap.size ∧
      ∀ (k : Nat) (m : Mv), l[k]? = some m → ∀ (j : Nat) (u : Value), m.cells[j]? = some u → w.cell? ⟨b, off + k * 8 + j, none⟩ = some u)
theorem MsgsAt.at_ {w : World} {a : Option Addr} {n cap : Nat} {l : List Mv} (h : MsgsAt w a n cap l) {k : Nat} (hk : k < n) :
    ∃ b off m, a = some ⟨b, off, none⟩ ∧ b < w.heap.size ∧ l[k]? = some m ∧ w.cell? ⟨b, off + k * 8, none⟩ = some (.int .i64 m.e.k.at_) ∧ w.cell? ⟨b, off + k * 8 + 1, none⟩ = some (.int .i64 m.e.k.src) ∧
      w.cell? ⟨b, off + k * 8 + 2, none⟩ = some (.int .i64 m.e.k.sent) ∧ w.cell? ⟨b, off + k * 8 + 3, none⟩ = some (.int .i64 m.e.k.no) ∧ w.cell? ⟨b, off + k * 8 + 4, none⟩ = some (.int .i64 m.e.dst) ∧
      w.cell? ⟨b, off + k * 8 + 5, none⟩ = some (.int .i64 m.e.kind) ∧ w.cell? ⟨b, off + k * 8 + 6, none⟩ = some (.int .i64 m.e.data) ∧ w.cell? ⟨b, off + k * 8 + 7, none⟩ = some (.bool m.anti) := by
  obtain ⟨hl1, hl2, hl3, hl4, hl5⟩ := h
  rcases hl5 with h0 | ⟨bl, off, rfl, hbl, hcells⟩
  · omega
  obtain ⟨o, hok⟩ : ∃ o, l[k]? = some o := ⟨_, List.getElem?_eq_getElem (by omega)⟩
  have hcs := hcells k o hok
  exact ⟨bl, off, o, rfl, hbl, hok, hcs 0 _ rfl, hcs 1 _ rfl, hcs 2 _ rfl, hcs 3 _ rfl, hcs 4 _ rfl, hcs 5 _ rfl, hcs 6 _ rfl, hcs 7 _ rfl⟩
theorem MsgsAt.frm {w w' : World} {a : Option Addr} {n cap : Nat} {l : List Mv} (h : MsgsAt w a n cap l) (hf : Frm [] w w') : MsgsAt w' a n cap l := by
  obtain ⟨hl1, hl2, hl3, hl4, hl5⟩ := h
  refine ⟨hl1, hl2, hl3, hl4, ?_⟩
  rcases hl5 with h0 | ⟨bl, off, rfl, hbl, hcells⟩
  · exact .inl h0
  · exact .inr ⟨bl, off, rfl, Nat.lt_of_lt_of_le hbl hf.size, fun k m hk j u hj => hf.cell (hcells k m hk j u hj) (by simp)⟩
theorem MsgsAt.of_row {w : World} {base : Nat} {a : Option Addr} {n cap : Nat} {l : List Mv} (h : w.ownsRow base 51 8 (.slice a n cap) n (msgCells l)) (hl : l.length = n) (hw : ∀ m ∈ l, m.Wf) : MsgsAt w a n cap l := by
  rcases row_nil_or h with ⟨h0, rfl⟩ | ⟨g, c, hv, hg, hn, hc⟩
  · simp only [Value.slice.injEq] at h0
    obtain ⟨rfl, _, rfl⟩ := h0
    exact ⟨hl, Nat.le_refl _, by unfold maxLen; omega, hw, .inl rfl⟩
  · simp only [Value.slice.injEq] at hv
    obtain ⟨rfl, _, rfl⟩ := hv
    refine ⟨hl, hn, hc, hw, .inr ⟨g, 0, rfl, hg, fun k m hk j u hj => ?_⟩⟩
    have h1 := msgCells_get hk j u hj
    have h2 := (List.getElem?_eq_some_iff.1 h1).1
    rw [h.cellAt _ (by rw [msgCells_length] at h2; omega), Nat.zero_add]
    exact h1
/-- The cells of a part of it, for an append. -/
theorem MsgsAt.news {w : World} {b off n cap : Nat} {l : List Mv} (h : MsgsAt w (some ⟨b, off, none⟩) n cap l) : ∀ (j : Nat) (u : Value), (msgCells l)[j]? = some u → w.cell? ((⟨b, off, none⟩ : Addr).add j) = some u := by
  obtain ⟨hl1, hl2, hl3, hl4, hl5⟩ := h
  intro j u hj
  have hjl := (List.getElem?_eq_some_iff.1 hj).1
  rw [msgCells_length] at hjl
  rcases hl5 with h0 | ⟨bl, o, he, hbl, hcells⟩
  · omega
  · simp only [Option.some.injEq, Addr.mk.injEq, and_true] at he
    obtain ⟨rfl, rfl⟩ := he
    obtain ⟨m, hm⟩ : ∃ m, l[j / 8]? = some m := ⟨_, List.getElem?_eq_getElem (by omega)⟩
    obtain ⟨v, hv⟩ : ∃ v, m.cells[j % 8]? = some v := ⟨_, List.getElem?_eq_getElem (by simp [Mv.cells]; omega)⟩
    have h1 := msgCells_get hm (j % 8) v hv
    rw [show j / 8 * 8 + j % 8 = j by omega, hj] at h1
    cases h1
    have h2 := hcells (j / 8) m hm (j % 8) u hv
    rw [addr_add, show off + j = off + j / 8 * 8 + j % 8 by omega]
    exact h2
theorem MsgsAt.take {w : World} {a : Option Addr} {n cap : Nat} {l : List Mv} (h : MsgsAt w a n cap l) {k : Nat} (hk : k ≤ n) : MsgsAt w a k cap (l.take k) := by
  obtain ⟨hl1, hl2, hl3, hl4, hl5⟩ := h
  refine ⟨by rw [List.length_take]; omega, by omega, hl3, fun m hm => hl4 m (List.mem_of_mem_take hm), ?_⟩
  rcases hl5 with h0 | ⟨bl, off, rfl, hbl, hcells⟩
  · exact .inl (by omega)
  · refine .inr ⟨bl, off, rfl, hbl, fun i m hi j u hj => ?_⟩
    rw [List.getElem?_take] at hi
    split at hi
    · exact hcells i m hi j u hj
    · cases hi
theorem MsgsAt.drop {w : World} {b off : Nat} {n cap : Nat} {l : List Mv} (h : MsgsAt w (some ⟨b, off, none⟩) n cap l) {k : Nat} (hk : k ≤ n) : MsgsAt w (some ⟨b, off + k * 8, none⟩) (n - k) (cap - k) (l.drop k) := by
  obtain ⟨hl1, hl2, hl3, hl4, hl5⟩ := h
  refine ⟨by rw [List.length_drop]; omega, by omega, by omega, fun m hm => hl4 m (List.mem_of_mem_drop hm), ?_⟩
  rcases hl5 with h0 | ⟨bl, o, he, hbl, hcells⟩
  · exact .inl (by omega)
  · simp only [Option.some.injEq, Addr.mk.injEq, and_true] at he
    obtain ⟨rfl, rfl⟩ := he
    refine .inr ⟨_, _, rfl, hbl, fun i m hi j u hj => ?_⟩
    rw [List.getElem?_drop] at hi
    have := hcells (k + i) m hi j u hj
    rw [show off + k * 8 + i * 8 + j = off + (k + i) * 8 + j by omega]
    exact this

/-- A map of IDs that is held. -/
def idmR (M n : Nat) (D : DataW Unit) (w : World) (F : List Nat) : Prop := w.ownsMap Try.prog 30 (plainElem Try.prog 3) M n D ∧ F = [M]
theorem idmR_stable (M n : Nat) (D : DataW Unit) : Stable (idmR M n D) := by
  rintro S w w' F ⟨h, rfl⟩ hf hd
  obtain ⟨es, clock, hb, r⟩ := h
  exact ⟨⟨es, clock, hf.obj hb (hd M (by simp)), r⟩, rfl⟩
theorem Holds.newMap {Q : World → List Nat → Prop} {B : Nat} {w0 w : World} {L : List (Nat × Obj)} (hQ : Stable Q) (h : Holds B w0 Q w L) : Holds B w0 (sepR (idmR w.heap.size 0 (.map [])) Q) (w.alloc (.map #[] 0)) L := by
  obtain ⟨F1, _, _, _, hk⟩ := h.empty.split hQ
  refine hk _ _ [w.heap.size] ⟨World.ownsMap_made w Try.prog 30 _, rfl⟩ ((Frm.refl _ _).alloc _) (fun k hk => .inr ?_) (fun k hk => ?_)
  · simp at hk; omega
  · simp at hk; subst hk; simp
theorem Holds.theMap {Q : World → List Nat → Prop} {B : Nat} {w0 w : World} {L : List (Nat × Obj)} {M n : Nat} {D : DataW Unit} (h : Holds B w0 (sepR (idmR M n D) Q) w L) : w.ownsMap Try.prog 30 (plainElem Try.prog 3) M n D := by
  obtain ⟨F, h, _⟩ := h
  obtain ⟨F1, F2, hR, _⟩ := h.res
  exact hR.1
theorem Holds.mapped {Q : World → List Nat → Prop} {B : Nat} {w0 w w' : World} {L : List (Nat × Obj)} {M n n' : Nat} {D D' : DataW Unit} (hQ : Stable Q) (h : Holds B w0 (sepR (idmR M n D) Q) w L)
    (h' : w'.ownsMap Try.prog 30 (plainElem Try.prog 3) M n' D') (hg : w.grownBy w' (some M)) : Holds B w0 (sepR (idmR M n' D') Q) w' L := by
  obtain ⟨F1, ⟨hm, rfl⟩, hlt, _, hk⟩ := h.split hQ
  have hl := hm.lt
  refine hk _ _ [M] ⟨h', rfl⟩ (Frm.of_grown hg (fun k hk => .inl (by simp at hk; simp [hk]))) (fun k hk => .inl hk) (fun k hk => ?_)
  simp at hk
  subst hk
  exact Nat.lt_of_lt_of_le hl hg.size
theorem run_makeMap_hint (w : World) (n : Nat) : (Instr.makeMap 61 (some (.int .i64 (n : Int)))).run Try.prog w = .ok (.map (some w.heap.size)) (w.alloc (.map #[] 0)) := by
  simp [Instr.makeMap, run_underlying Try.underlying61]
  rfl
theorem infoBool : (Try.prog.info? 4).map (fun i => (i.zero, i.size, i.bytes)) = some (some (.bool false), 1, 1) := by kernel_rfl
theorem infoMessage : (Try.prog.info? 51).map (fun i => (i.zero, i.size, i.bytes)) = some (some (.agg #[.int .i64 0, .int .i64 0, .int .i64 0, .int .i64 0, .int .i64 0, .int .i64 0, .int .i64 0, .bool false]), 8, 64) := by kernel_rfl
theorem cells8 {w : World} {b : Nat} {x0 x1 x2 x3 x4 x5 x6 x7 : Value} {t : TypeId} {f : Nat × Nat} (h : w.heap[b]? = some (.cells #[x0, x1, x2, x3, x4, x5, x6, x7] t f)) :
    w.cell? ⟨b, 0, none⟩ = some x0 ∧ w.cell? ⟨b, 1, none⟩ = some x1 ∧ w.cell? ⟨b, 2, none⟩ = some x2 ∧ w.cell? ⟨b, 3, none⟩ = some x3 ∧ w.cell? ⟨b, 4, none⟩ = some x4 ∧ w.cell? ⟨b, 5, none⟩ = some x5 ∧ w.cell? ⟨b, 6, none⟩ = some x6 ∧ w.cell? ⟨b, 7, none⟩ = some x7 := by
  refine ⟨?_, ?_, ?_, ?_, ?_, ?_, ?_, ?_⟩ <;> (rw [cell_of_obj h]; rfl)
end Go.Proofs.Ytagldjlaagphlaa
