/- What slices.SortFunc does to a row of structs of one's own, in the words of what is held. -/
import Derived.Test.YtclaicpnjllhjaaRow
import Derived.Shelf.SlSortCmp.NoneTotal
namespace Go.Proofs.Ytclaicpnjllhjaa
open Go.RowKit

section
variable {α : Type} [Inhabited α] {enc : α → List Value} {k : Nat}
theorem flatK_flat (hk : ∀ x, (enc x).length = k) (d : Array α) : (Go.Sort.flatK enc k d).toList = flat enc d.toList := by
  refine List.ext_getElem? fun t => ?_
  by_cases ht : t < d.size * k
  · have hk0 : 0 < k := by
      rcases Nat.eq_zero_or_pos k with e | e
      · rw [e, Nat.mul_zero] at ht; omega
      · exact e
    have hq : t / k < d.size := (Nat.div_lt_iff_lt_mul hk0).2 ht
    have hr := Nat.mod_lt t hk0
    have hd : t / k * k + t % k = t := by rw [Nat.mul_comm]; exact Nat.div_add_mod t k
    have h1 := Go.Sort.get_flatK enc k d t ht
    have hs : t < (Go.Sort.flatK enc k d).size := by rw [Go.Sort.size_flatK]; exact ht
    rw [getElem!_pos _ t hs, getElem!_pos d _ hq, getElem!_pos _ _ (by rw [hk]; exact hr)] at h1
    have h2 : d.toList[t / k]? = some d[t / k] := by rw [Array.getElem?_toList, Array.getElem?_eq_getElem hq]
    have h3 : (enc d[t / k])[t % k]? = some ((enc d[t / k])[t % k]'(by rw [hk]; exact hr)) := List.getElem?_eq_getElem _
    have h4 := flat_get hk h2 h3
    rw [hd] at h4
    rw [h4, Array.getElem?_toList, Array.getElem?_eq_getElem hs, h1]
  · rw [List.getElem?_eq_none (by rw [Array.length_toList, Go.Sort.size_flatK]; omega), List.getElem?_eq_none (by rw [flat_length hk, Array.length_toList]; omega)]
theorem row_holdsK (hk : ∀ x, (enc x).length = k) {w : World} {e : TypeId} {g n cap : Nat} {d : Array α} (h : w.ownsRow 0 e k (.slice (some ⟨g, 0, none⟩) n cap) n (flat enc d.toList)) (hn : d.size = n) : Go.Sort.HoldsK enc k w g 0 d := by
  intro j hj
  rw [Go.Sort.size_flatK, hn] at hj
  rw [Nat.zero_add]
  refine ⟨?_, h.frozenAt j⟩
  rw [h.cellAt j hj, ← flatK_flat hk, Array.getElem?_toList, getElem!_pos _ j (by rw [Go.Sort.size_flatK, hn]; exact hj), Array.getElem?_eq_getElem (by rw [Go.Sort.size_flatK, hn]; exact hj)]
  rfl
theorem sorted_row (hk : ∀ x, (enc x).length = k) {w : World} {e : TypeId} {g n cap m : Nat} {xs : List Value} {d : Array α} {os : Array Obj} (h : w.ownsRow 0 e k (.slice (some ⟨g, 0, none⟩) n cap) n xs) (hn : d.size = n) :
    (sortWorldK enc k w g 0 m d os).ownsRow 0 e k (.slice (some ⟨g, 0, none⟩) n cap) n (flat enc d.toList) ∧ Frm [g] w (sortWorldK enc k w g 0 m d os) := by
  obtain ⟨hl, h⟩ := h
  rcases h with ⟨h0, _⟩ | ⟨g', cap', cur, hv, _, hg, hnc, hc, hs, ht⟩
  · simp at h0
  · simp only [Value.slice.injEq, Option.some.injEq, Addr.mk.injEq, and_true, true_and] at hv
    obtain ⟨rfl, rfl⟩ := hv
    have hgl := lt_of_obj hg
    have hh : (sortWorldK enc k w g 0 m d os).heap = (w.heap.modify g (Go.Sort.onCells (Go.Sort.putCells id 0 (Go.Sort.flatK enc k d)))) ++ os := rfl
    have hsz : (Go.Sort.flatK enc k d).size = n * k := by rw [Go.Sort.size_flatK, hn]
    have hnk : n * k ≤ cap * k := Nat.mul_le_mul_right _ hnc
    refine ⟨⟨by rw [flat_length hk, Array.length_toList, hn], .inr ⟨g, cap, Go.Sort.putCells id 0 (Go.Sort.flatK enc k d) cur, rfl, Nat.zero_le _, ?_, hnc, hc, ?_, ?_⟩⟩, ?_⟩
    · rw [hh, Array.getElem?_append_left (by simpa using hgl), Array.getElem?_modify, if_pos rfl, hg]
      rfl
    · unfold Go.Sort.putCells; rw [Array.size_mapIdx]; exact hs
    · rw [← flatK_flat hk]
      refine List.ext_getElem? fun t => ?_
      rw [List.getElem?_take]
      by_cases htn : t < n * k
      · rw [if_pos htn, Array.getElem?_toList, Array.getElem?_toList]
        unfold Go.Sort.putCells
        rw [Array.getElem?_mapIdx, Array.getElem?_eq_getElem (show t < cur.size by omega), Option.map_some, if_pos ⟨Nat.zero_le _, by omega⟩, Array.getElem?_eq_getElem (show t < (Go.Sort.flatK enc k d).size by omega), Nat.sub_zero, getElem!_pos _ t (by omega)]
        rfl
      · rw [if_neg htn, List.getElem?_eq_none (by rw [Array.length_toList]; omega)]
    · refine ⟨rfl, rfl, rfl, by rw [hh]; simp, fun j hj hn => ?_⟩
      rw [hh, Array.getElem?_append_left (by simpa using hj), Array.getElem?_modify, if_neg (by simp at hn; omega)]
theorem perm_list {n : Nat} {d d' : Array α} (h : Go.Sort.PermIn 0 n d d') (hn : d.size = n) : d'.size = n ∧ d'.toList.Perm d.toList := by
  obtain ⟨h1, _, h3⟩ := h
  have e1 : d'.extract 0 n = d' := by rw [← hn, ← h1]; simp
  have e2 : d.extract 0 n = d := by rw [← hn]; simp
  rw [e1, e2] at h3
  exact ⟨by omega, h3⟩
theorem sorted_list {lt : α → α → Bool} {n : Nat} {d : Array α} (h : Go.Sort.SortedIn lt 0 n d) (hn : d.size = n) : d.toList.Pairwise fun a b => lt b a = false := by
  rw [List.pairwise_iff_getElem]
  intro i j hi hj hij
  rw [Array.length_toList] at hi hj
  have := h i j (Nat.zero_le _) hij (by omega)
  rw [getElem!_pos d i hi, getElem!_pos d j hj] at this
  simpa using this
end

/-- What a call answers, and that it lays blocks alone. -/
def Grows (r : Value) (w : World) (e : Ending) (w' : World) : Prop := e = .returned r ∧ ∃ os, w' = Go.Sort.grow w os
theorem gr_refl (w : World) : ∃ os, w = Go.Sort.grow w os := ⟨#[], (Go.Sort.grow_empty w).symm⟩
theorem gr_alloc {w W : World} (h : ∃ os, W = Go.Sort.grow w os) (o : Obj) : ∃ os, W.alloc o = Go.Sort.grow w os := by
  obtain ⟨os, rfl⟩ := h
  exact ⟨os ++ #[o], by rw [Go.Sort.alloc_eq_grow, Go.Sort.grow_grow]⟩
theorem gr_trans {w W W' : World} (h : ∃ os, W = Go.Sort.grow w os) (h' : ∃ os, W' = Go.Sort.grow W os) : ∃ os, W' = Go.Sort.grow w os := by
  obtain ⟨os, rfl⟩ := h
  obtain ⟨os', rfl⟩ := h'
  exact ⟨os ++ os', Go.Sort.grow_grow _ _ _⟩
theorem gr_frm {w W : World} (h : ∃ os, W = Go.Sort.grow w os) : Frm [] w W := by
  obtain ⟨os, rfl⟩ := h
  exact ⟨rfl, rfl, rfl, by simp, fun k hk _ => Go.Sort.heap_grow_old w os hk⟩
end Go.Proofs.Ytclaicpnjllhjaa
