/- More on what is held: in another order; a row of one's own made, and written. -/
import Derived.Test.YtpfolcoijncfjaaHold
namespace Go.Proofs.Ytpfolcoijncfjaa
open Go.RowKit

section
variable {R R' Q T : World → List Nat → Prop} {B : Nat} {w0 w w' : World} {L : List (Nat × Obj)}

theorem Holds.perm (h : Holds B w0 R w L) (hp : ∀ F, R w F → (∀ k ∈ F, k < w.heap.size) → ∃ F', R' w F' ∧ ∀ k, k ∈ F' ↔ k ∈ F) : Holds B w0 R' w L := by
  obtain ⟨F, h, h1, h2, h3⟩ := h
  obtain ⟨F', hr, hm⟩ := hp F h.res h.lt
  exact ⟨F', ⟨hr, fun k hk => h.lt k ((hm k).1 hk), fun p hp => ⟨(h.box p hp).1, fun hk => (h.box p hp).2 ((hm _).1 hk)⟩⟩, h1, fun k hk => h2 k ((hm k).1 hk), h3⟩
/-- The third one comes first. -/
theorem sepR_rot (h : Holds B w0 (sepR R (sepR Q T)) w L) : Holds B w0 (sepR T (sepR R Q)) w L := by
  refine h.perm fun F hF hl => ?_
  obtain ⟨F1, F', hR, ⟨F2, F3, hQ, hT, hd23, hl2, hl3, rfl⟩, hd, hl1, _, rfl⟩ := hF
  refine ⟨F3 ++ (F1 ++ F2), ⟨F3, F1 ++ F2, hT, ⟨F1, F2, hR, hQ, fun k hk hm => hd k hk (by simp [hm]), hl1, hl2, rfl⟩, fun k hk hm => ?_, hl3, fun k hk => ?_, rfl⟩, fun k => ?_⟩
  · rcases List.mem_append.1 hm with h | h
    · exact hd k h (by simp [hk])
    · exact hd23 k h hk
  · rcases List.mem_append.1 hk with h | h
    · exact hl1 k h
    · exact hl2 k h
  · simp only [List.mem_append]
    exact ⟨fun h => by rcases h with h | h | h <;> simp [h], fun h => by rcases h with h | h | h <;> simp [h]⟩
/-- The first one goes last. -/
theorem sepR_tor (h : Holds B w0 (sepR R (sepR Q T)) w L) : Holds B w0 (sepR Q (sepR T R)) w L := sepR_rot (sepR_rot h)

theorem sepR_unit (h : Holds B w0 (sepR (sepR R noneR) Q) w L) : Holds B w0 (sepR R Q) w L := by
  refine h.perm fun F hF _ => ?_
  obtain ⟨F1, F2, ⟨F3, F4, hR, hN, _, hl3, _, rfl⟩, hQ, hd, _, hl2, rfl⟩ := hF
  have : F4 = [] := hN
  subst this
  exact ⟨F3 ++ F2, ⟨F3, F2, hR, hQ, fun k hk => hd k (by simp [hk]), hl3, hl2, rfl⟩, fun k => by simp⟩
theorem Holds.weaken (h : Holds B w0 R w L) (hp : ∀ F, R w F → (∀ k ∈ F, k < w.heap.size) → ∃ F', R' w F' ∧ ∀ k ∈ F', k ∈ F) : Holds B w0 R' w L := by
  obtain ⟨F, h, h1, h2, h3⟩ := h
  obtain ⟨F', hr, hm⟩ := hp F h.res h.lt
  exact ⟨F', ⟨hr, fun k hk => h.lt k (hm k hk), fun p hp => ⟨(h.box p hp).1, fun hk => (h.box p hp).2 (hm _ hk)⟩⟩, h1, fun k hk => h2 k (hm k hk), h3⟩
/-- A row takes another one's place. -/
theorem sepR_swapdrop {A S X : World → List Nat → Prop} (h : Holds B w0 (sepR A (sepR S (sepR X T))) w L) : Holds B w0 (sepR S (sepR A T)) w L := by
  refine h.weaken fun F hF _ => ?_
  obtain ⟨FA, F', hA, ⟨FS, F'', hS, ⟨FX, FT, hX, hT, hdXT, hlX, hlT, rfl⟩, hdS, hlS, _, rfl⟩, hdA, hlA, _, rfl⟩ := hF
  refine ⟨FS ++ (FA ++ FT), ⟨FS, FA ++ FT, hS, ⟨FA, FT, hA, hT, fun k hk hm => hdA k hk (by simp [hm]), hlA, hlT, rfl⟩, fun k hk hm => ?_, hlS, fun k hk => ?_, rfl⟩, fun k hk => ?_⟩
  · rcases List.mem_append.1 hm with h | h
    · exact hdA k h (by simp [hk])
    · exact hdS k hk (by simp [h])
  · rcases List.mem_append.1 hk with h | h
    · exact hlA k h
    · exact hlT k h
  · simp only [List.mem_append] at hk ⊢
    rcases hk with h | h | h <;> simp [h]
/-- A row that has just been made. -/
theorem Holds.newRow (hR : Stable R) (h : Holds B w0 R w L) {e : TypeId} {size : Nat} {v : Value} {n : Nat} {xs : List Value} (hown : w'.ownsRow w.heap.size e size v n xs) (hg : w.grownBy w' none) : Holds B w0 (sepR (rowR e size v n xs) R) w' L := by
  have hf : Frm [] w w' := Frm.of_grown hg (by simp)
  obtain ⟨F, h', h1, h2, h3⟩ := h.made hR hf
  have hlo : ∀ k, v.ownBlock = some k → w.heap.size ≤ k ∧ k < w'.heap.size := hown.lt
  obtain ⟨F0, h0, _, h02, h03⟩ := h
  have hres : R w' F0 := hR [] w w' F0 h0.res hf (by simp)
  have hlt0 : ∀ k ∈ F0, k < w'.heap.size := fun k hk => Nat.lt_of_lt_of_le (h0.lt k hk) hf.size
  have hown0 : w'.ownsRow 0 e size v n xs := ⟨hown.1, by
    rcases hown.2 with hn | ⟨g, cap, cur, hv, _, hr⟩
    · exact .inl hn
    · exact .inr ⟨g, cap, cur, hv, Nat.zero_le _, hr⟩⟩
  refine ⟨v.ownBlock.toList ++ F0, ⟨⟨v.ownBlock.toList, F0, ⟨hown0, rfl⟩, hres, fun k hk hm => ?_, fun k hk => (hlo k (by simpa using hk)).2, hlt0, rfl⟩, fun k hk => ?_, fun p hp => ⟨(h'.box p hp).1, fun hm => ?_⟩⟩, h1, fun k hk => ?_, Nat.le_trans h03 hf.size⟩
  · have := hlo k (by simpa using hk); have := h0.lt k hm; omega
  · rcases List.mem_append.1 hk with h4 | h4
    · exact (hlo k (by simpa using h4)).2
    · exact hlt0 k h4
  · rcases List.mem_append.1 hm with h4 | h4
    · have h5 := hlo _ (by simpa using h4); have h6 := lt_of_obj (h0.box p hp).1; omega
    · exact (h0.box p hp).2 h4
  · rcases List.mem_append.1 hk with h4 | h4
    · have := hlo k (by simpa using h4); omega
    · exact h02 k h4
/-- A cell of a row that is held is written. -/
theorem Holds.stored (hQ : Stable Q) {e : TypeId} {size g n cap : Nat} {xs : List Value} (h : Holds B w0 (sepR (rowR e size (.slice (some ⟨g, 0, none⟩) n cap) n xs) Q) w L) (j : Nat) (u : Value) :
    Holds B w0 (sepR (rowR e size (.slice (some ⟨g, 0, none⟩) n cap) n (xs.set j u)) Q) (w.setCell ⟨g, j, none⟩ u) L := by
  have hs := h.row.stored j u
  exact h.appended hQ hs.1 (Frm.of_grown hs.2 (fun k hk => .inl (by simp at hk; simp [Value.ownBlock, hk]))) (fun k hk => .inl hk)
end
theorem Holds.more {R : World → List Nat → Prop} {B : Nat} {w0 w w' : World} {L : List (Nat × Obj)} (hR : Stable R) (h : Holds B w0 R w L) (hf : Frm [] w w') {D : Nat} {o : Obj} (hD : w.heap.size ≤ D) (ho : w'.heap[D]? = some o) : Holds B w0 R w' ((D, o) :: L) := by
  obtain ⟨F, h1, h2, h3, h4⟩ := h
  have h5 := h1.made hR hf
  exact ⟨F, ⟨h5.res, h5.lt, fun p hp => by
    rcases List.mem_cons.1 hp with rfl | hp
    · exact ⟨ho, fun hm => by have := h1.lt _ hm; omega⟩
    · exact h5.box p hp⟩, h2.trans (hf.below h4 (by simp)), h3, Nat.le_trans h4 hf.size⟩
theorem cells7 {w : World} {b : Nat} {x0 x1 x2 x3 x4 x5 x6 : Value} {t : TypeId} {f : Nat × Nat} (h : w.heap[b]? = some (.cells #[x0, x1, x2, x3, x4, x5, x6] t f)) :
    w.cell? ⟨b, 0, none⟩ = some x0 ∧ w.cell? ⟨b, 1, none⟩ = some x1 ∧ w.cell? ⟨b, 2, none⟩ = some x2 ∧ w.cell? ⟨b, 3, none⟩ = some x3 ∧ w.cell? ⟨b, 4, none⟩ = some x4 ∧ w.cell? ⟨b, 5, none⟩ = some x5 ∧ w.cell? ⟨b, 6, none⟩ = some x6 := by
  refine ⟨?_, ?_, ?_, ?_, ?_, ?_, ?_⟩ <;> (rw [cell_of_obj h]; rfl)
theorem madeCells_one (z : Value) (n : Nat) : (madeCells #[z] (n * 1)).toList = List.replicate n z := by
  unfold madeCells
  refine List.ext_getElem? fun i => ?_
  simp only [Nat.mul_one, Array.toList_map, Array.toList_range, List.getElem?_map, List.getElem?_replicate]
  by_cases hi : i < n
  · simp [hi, Nat.mod_one]
  · simp [hi]
end Go.Proofs.Ytpfolcoijncfjaa
