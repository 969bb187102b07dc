/- Plain facts on what there is in a slab, without any memory: what Take, Free and Set make of it, and which handles tell what. -/
import Derived.Test.YtpfolcoijncfjaaSlabY
namespace Go.Proofs.Ytpfolcoijncfjaa
open Go.RowKit

/-- What stands in a slot: class, turn, thing. -/
def St.at' (s : St) (i : Nat) : Slot3 := (s.slots[i]?).getD (0, 0, 0)

theorem at_some {s : St} {i : Nat} {x : Slot3} (h : s.slots[i]? = some x) : s.at' i = x := by simp [St.at', h]
theorem at_lt {s : St} {i : Nat} (h : i < s.slots.length) : s.slots[i]? = some (s.at' i) := by simp [St.at', h]
theorem at_ge {s : St} {i : Nat} (h : s.slots.length ≤ i) : s.at' i = (0, 0, 0) := by simp [St.at', h]

theorem look_eq (s : St) (x t : Int) : s.look x t = if 0 ≤ x ∧ (s.at' x.toNat).1 ≠ 0 ∧ (s.at' x.toNat).2.1 = t then some (x.toNat, (s.at' x.toNat).1, (s.at' x.toNat).2.2) else none := by
  unfold St.look
  by_cases hx : 0 ≤ x
  · rw [if_pos hx]
    by_cases hl : x.toNat < s.slots.length
    · rw [at_lt hl]
      generalize s.at' x.toNat = y
      obtain ⟨c, t', v⟩ := y
      simp [hx]
    · have hg : s.slots[x.toNat]? = none := by simp; omega
      rw [hg, at_ge (by omega)]
      simp
  · rw [if_neg hx, if_neg (fun h => hx h.1)]

theorem pick_lt {s : St} (h : s.Ok) : s.pick.1 < s.pick.2.slots.length := by
  obtain ⟨t, v, hp, _⟩ := pick_slot h
  exact (List.getElem?_eq_some_iff.1 hp).1
theorem pick_at (s : St) (j : Nat) : s.pick.2.at' j = s.at' j := by
  unfold St.pick
  cases hl : s.freed.getLast? with
  | some i => rfl
  | none =>
    unfold St.at'
    by_cases hj : j < s.slots.length
    · simp [List.getElem?_append_left hj]
    · by_cases he : j = s.slots.length
      · subst he; simp
      · have h1 : (s.slots ++ [((0 : Int), (0 : Int), (0 : Int))])[j]? = none := by simp; omega
        have h2 : s.slots[j]? = none := by simp; omega
        simp only [h1, h2]
theorem pick_free' {s : St} (h : s.Ok) : (s.at' s.pick.1).1 = 0 ∧ s.turn = (s.at' s.pick.1).2.1 + 1 ∧ 0 ≤ (s.at' s.pick.1).2.1 := by
  obtain ⟨t, v, hp, h0, ht⟩ := pick_slot h
  have := at_some hp
  rw [pick_at] at this
  rw [this]
  exact ⟨rfl, ht, h0⟩
theorem take_at {s : St} (h : s.Ok) (c v : Int) (j : Nat) : (s.take c v).at' j = if j = s.pick.1 then (c, s.turn, v) else s.at' j := by
  have hl := pick_lt h
  by_cases hj : j = s.pick.1
  · subst hj
    rw [if_pos rfl]
    simp [St.at', St.take, hl]
  · rw [if_neg hj, ← pick_at s j]
    have : ¬ s.pick.1 = j := fun e => hj e.symm
    simp [St.at', St.take, this]
theorem free_at {s : St} {i : Nat} (h : i < s.slots.length) (t : Int) (j : Nat) : (s.free i t).at' j = if j = i then (0, t, 0) else s.at' j := by
  by_cases hj : j = i
  · subst hj; simp [St.at', St.free, h]
  · have : ¬ i = j := fun e => hj e.symm
    simp [St.at', St.free, hj, this]
theorem set_at {s : St} {i : Nat} (h : i < s.slots.length) (x : Slot3) (j : Nat) : ({ s with slots := s.slots.set i x } : St).at' j = if j = i then x else s.at' j := by
  by_cases hj : j = i
  · subst hj; simp [St.at', h]
  · have : ¬ i = j := fun e => hj e.symm
    simp [St.at', hj, this]

/-- Free slots are those of class 0, of those that ever held a thing. -/
theorem ok_iff {s : St} (h : s.Ok) {i : Nat} (hi : i < s.slots.length) : (s.at' i).1 = 0 ↔ i ∈ s.freed := by
  have := h.cls i (s.at' i).1 (s.at' i).2.1 (s.at' i).2.2 (at_lt hi)
  exact this.2.2.2
theorem ok_at {s : St} (h : s.Ok) (i : Nat) : 0 ≤ (s.at' i).1 ∧ (s.at' i).1 ≤ 4 ∧ 0 ≤ (s.at' i).2.1 ∧ ((s.at' i).1 ≠ 0 → 0 < (s.at' i).2.1) := by
  by_cases hi : i < s.slots.length
  · have := h.cls i (s.at' i).1 (s.at' i).2.1 (s.at' i).2.2 (at_lt hi)
    exact ⟨this.1, this.2.1, by omega, fun _ => this.2.2.1⟩
  · rw [at_ge (by omega)]; simp

theorem pick_cases (s : St) : (s.freed = [] ∧ s.pick = (s.slots.length, { s with slots := s.slots ++ [(0, 0, 0)] })) ∨ ∃ fs i, s.freed = fs ++ [i] ∧ s.pick = (i, { s with freed := fs }) := by
  unfold St.pick
  cases hl : s.freed.getLast? with
  | none => exact .inl ⟨by simpa using hl, rfl⟩
  | some i =>
    obtain ⟨ys, hys⟩ := List.getLast?_eq_some_iff.1 hl
    exact .inr ⟨ys, i, hys, by simp [hys]⟩

theorem take_Ok {s : St} (h : s.Ok) (hn : 0 < s.left) {c v : Int} (hc : 1 ≤ c) (hc' : c ≤ 4) : (s.take c v).Ok := by
  have hF := pick_free' h
  have hle := h.freed_le
  rcases pick_cases s with ⟨hnil, hp⟩ | ⟨fs, i, hfr, hp⟩
  · have htake : s.take c v = { s with slots := s.slots ++ [(c, 1, v)] } := by
      unfold St.take St.turn; simp [hp]
    have ha := take_at h c v
    rw [htake] at ha ⊢
    have hlen : s.slots.length < s.room := by unfold St.left at hn; simp only [hnil, List.length_nil] at hn; omega
    refine ⟨h.room, h.res, by simp; omega, h.nodup, fun i hi => ?_, fun i c' t v' hs => ?_⟩
    · simp [hnil] at hi
    · by_cases hi : i < s.slots.length
      · simp only [List.getElem?_append_left hi] at hs
        exact h.cls i c' t v' hs
      · have hi' : i = s.slots.length := by
          have := (List.getElem?_eq_some_iff.1 hs).1
          simp at this; omega
        subst hi'
        simp at hs
        obtain ⟨rfl, rfl, rfl⟩ := hs
        refine ⟨by omega, hc', by omega, ?_⟩
        simp [hnil]; omega
  · have hi : i < s.slots.length := h.freed i (by simp [hfr])
    have htake : s.take c v = { s with slots := s.slots.set i (c, s.turn, v), freed := fs } := by
      unfold St.take; simp [hp]
    rw [hp] at hF
    dsimp only at hF
    rw [htake]
    have hnd := h.nodup
    rw [hfr, List.nodup_append] at hnd
    have hni : i ∉ fs := fun hm => hnd.2.2 i hm i (by simp) rfl
    refine ⟨h.room, h.res, by simpa using h.len, hnd.1, fun j hj => ?_, fun j c' t v' hs => ?_⟩
    · simp; exact h.freed j (by simp [hfr, hj])
    · by_cases hj : j = i
      · subst hj
        simp [hi] at hs
        obtain ⟨rfl, rfl, rfl⟩ := hs
        refine ⟨by omega, hc', by omega, ?_⟩
        simp [hni]; omega
      · have hij : ¬ i = j := fun e => hj e.symm
        simp only [List.getElem?_set, hij, if_false] at hs
        have := h.cls j c' t v' hs
        refine ⟨this.1, this.2.1, this.2.2.1, ?_⟩
        rw [this.2.2.2, hfr]
        simp [hj]
theorem take_left (s : St) (c v : Int) : (s.take c v).left = s.left - 1 := by
  rcases pick_cases s with ⟨hnil, hp⟩ | ⟨fs, i, hfr, hp⟩
  · have htake : s.take c v = { s with slots := s.slots ++ [(c, 1, v)] } := by
      unfold St.take St.turn; simp [hp]
    rw [htake]; unfold St.left; simp; omega
  · have htake : s.take c v = { s with slots := s.slots.set i (c, s.turn, v), freed := fs } := by
      unfold St.take; simp [hp]
    rw [htake]; unfold St.left; simp [hfr]; omega
theorem take_room (s : St) (c v : Int) : (s.take c v).room = s.room ∧ (s.take c v).reserve = s.reserve := by
  unfold St.take St.pick
  cases s.freed.getLast? <;> exact ⟨rfl, rfl⟩

theorem free_Ok {s : St} (h : s.Ok) {i : Nat} (hi : i < s.slots.length) (hc : (s.at' i).1 ≠ 0) {t : Int} (ht : 0 < t) : (s.free i t).Ok := by
  have hni : i ∉ s.freed := fun hm => hc ((ok_iff h hi).2 hm)
  refine ⟨h.room, h.res, by simpa [St.free] using h.len, ?_, fun j hj => ?_, fun j c' t' v' hs => ?_⟩
  · simp only [St.free, List.nodup_append]
    refine ⟨h.nodup, by simp, fun a ha b hb => ?_⟩
    simp at hb; subst hb
    intro e; subst e; exact hni ha
  · simp only [St.free, List.mem_append, List.mem_singleton] at hj
    simp only [St.free, List.length_set]
    rcases hj with hj | rfl
    · exact h.freed j hj
    · exact hi
  · simp only [St.free] at hs ⊢
    by_cases hj : j = i
    · subst hj
      simp [hi] at hs
      obtain ⟨rfl, rfl, rfl⟩ := hs
      simp; exact ht
    · have hij : ¬ i = j := fun e => hj e.symm
      simp only [List.getElem?_set, hij, if_false] at hs
      have := h.cls j c' t' v' hs
      refine ⟨this.1, this.2.1, this.2.2.1, ?_⟩
      rw [this.2.2.2]
      simp [hj]
theorem free_left (s : St) (i : Nat) (t : Int) : (s.free i t).left = s.left + 1 := by
  unfold St.left St.free; simp; omega
theorem set_Ok {s : St} (h : s.Ok) {i : Nat} {c t v : Int} (hs : s.slots[i]? = some (c, t, v)) (u : Int) : ({ s with slots := s.slots.set i (c, t, u) } : St).Ok := by
  have hi := (List.getElem?_eq_some_iff.1 hs).1
  refine ⟨h.room, h.res, by simpa using h.len, h.nodup, fun j hj => by simpa using h.freed j hj, fun j c' t' v' hs' => ?_⟩
  dsimp only at hs' ⊢
  by_cases hj : j = i
  · subst hj
    simp [hi] at hs'
    obtain ⟨rfl, rfl, rfl⟩ := hs'
    exact h.cls j c t v hs
  · have hij : ¬ i = j := fun e => hj e.symm
    simp only [List.getElem?_set, hij, if_false] at hs'
    exact h.cls j c' t' v' hs'
theorem set_left (s : St) (l : List Slot3) (h : l.length = s.slots.length) : ({ s with slots := l } : St).left = s.left := by
  unfold St.left; simp [h]

/-- Which handles tell what, behind Take, Free, Set. -/
theorem take_look {s : St} (h : s.Ok) {c v : Int} (hc : c ≠ 0) (x t : Int) : (s.take c v).look x t = if x = (s.pick.1 : Int) ∧ t = s.turn then some (s.pick.1, c, v) else s.look x t := by
  obtain ⟨h0, ht, _⟩ := pick_free' h
  rw [look_eq, look_eq, take_at h]
  by_cases hx : 0 ≤ x
  · by_cases hp : x.toNat = s.pick.1
    · have hxe : x = (s.pick.1 : Int) := by omega
      rw [if_pos hp, hp, h0]
      by_cases htt : t = s.turn
      · rw [if_pos ⟨hx, hc, htt.symm⟩, if_pos ⟨hxe, htt⟩]
      · rw [if_neg (fun hh => htt hh.2.2.symm), if_neg (fun hh => htt hh.2), if_neg (fun hh => hh.2.1 rfl)]
    · have hxe : x ≠ (s.pick.1 : Int) := by omega
      simp only [if_neg hp, hxe, false_and, if_false]
  · have hxe : x ≠ (s.pick.1 : Int) := by omega
    rw [if_neg (fun hh => hx hh.1), if_neg (fun hh => hxe hh.1), if_neg (fun hh => hx hh.1)]
theorem free_look {s : St} {i : Nat} (hi : i < s.slots.length) (t x t' : Int) : (s.free i t).look x t' = if x = (i : Int) then none else s.look x t' := by
  rw [look_eq, look_eq, free_at hi]
  by_cases hx : 0 ≤ x
  · by_cases hp : x.toNat = i
    · have hxe : x = (i : Int) := by omega
      rw [if_pos hp, if_pos hxe]; simp
    · have hxe : x ≠ (i : Int) := by omega
      rw [if_neg hp, if_neg hxe]
  · have hxe : x ≠ (i : Int) := by omega
    rw [if_neg (fun hh => hx hh.1), if_neg hxe, if_neg (fun hh => hx hh.1)]
theorem set_look {s : St} {i : Nat} {c t v : Int} (hs : s.slots[i]? = some (c, t, v)) (hc : c ≠ 0) (u x t' : Int) : ({ s with slots := s.slots.set i (c, t, u) } : St).look x t' = if x = (i : Int) ∧ t' = t then some (i, c, u) else s.look x t' := by
  have hi := (List.getElem?_eq_some_iff.1 hs).1
  have ha := at_some hs
  rw [look_eq, look_eq, set_at hi]
  by_cases hx : 0 ≤ x
  · by_cases hp : x.toNat = i
    · have hxe : x = (i : Int) := by omega
      rw [if_pos hp, hp, ha]
      by_cases htt : t' = t
      · rw [if_pos ⟨hx, hc, htt.symm⟩, if_pos ⟨hxe, htt⟩]
      · rw [if_neg (fun hh => htt hh.2.2.symm), if_neg (fun hh => htt hh.2), if_neg (fun hh => htt hh.2.2.symm)]
    · have hxe : x ≠ (i : Int) := by omega
      simp only [if_neg hp, hxe, false_and, if_false]
  · have hxe : x ≠ (i : Int) := by omega
    rw [if_neg (fun hh => hx hh.1), if_neg (fun hh => hxe hh.1), if_neg (fun hh => hx hh.1)]
theorem look_at {s : St} {x t : Int} {i : Nat} {c v : Int} (h : s.look x t = some (i, c, v)) : x = (i : Int) ∧ s.at' i = (c, t, v) ∧ c ≠ 0 ∧ i < s.slots.length ∧ s.slots[i]? = some (c, t, v) := by
  obtain ⟨h1, h2, h3, h4⟩ := look_some h
  exact ⟨h1, at_some h2, h3, h4, h2⟩
end Go.Proofs.Ytpfolcoijncfjaa
