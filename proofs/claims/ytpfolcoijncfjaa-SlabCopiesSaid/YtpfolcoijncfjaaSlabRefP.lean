/- The document's slab beside the slab: plain facts. -/
import Derived.Test.YtpfolcoijncfjaaSlabRef
namespace Go.Proofs.Ytpfolcoijncfjaa
open Go.RowKit

/-- All slots. -/
def St.full (s : St) : List Slot3 := (List.range s.room).map s.at'
theorem full_len (s : St) : s.full.length = s.room := by simp [St.full]
theorem full_get {s : St} {i : Nat} (h : i < s.room) : s.full[i]? = some (s.at' i) := by simp [St.full, h]
theorem full_none {s : St} {i : Nat} (h : s.room ≤ i) : s.full[i]? = none := List.getElem?_eq_none (by rw [full_len]; exact h)
theorem full_set {s s' : St} {i : Nat} {x : Slot3} (hr : s'.room = s.room) (hi : i < s.room) (h : ∀ j, s'.at' j = if j = i then x else s.at' j) : s.full.set i x = s'.full := by
  refine List.ext_getElem? fun j => ?_
  by_cases hj : j < s.room
  · rw [full_get (s := s') (by omega), h j, List.getElem?_set, full_len]
    by_cases hji : j = i
    · subst hji
      rw [if_pos rfl, if_pos hj, if_pos rfl]
    · rw [if_neg (fun e => hji e.symm), if_neg hji, full_get hj]
  · rw [List.getElem?_eq_none (by rw [List.length_set, full_len]; omega), full_none (by omega)]
theorem full_split {s : St} (h : s.slots.length ≤ s.room) : s.full = s.slots ++ List.replicate (s.room - s.slots.length) (0, 0, 0) := by
  refine List.ext_getElem? fun j => ?_
  by_cases hj : j < s.room
  · rw [full_get hj]
    by_cases hl : j < s.slots.length
    · rw [List.getElem?_append_left hl, at_lt hl]
    · rw [List.getElem?_append_right (by omega), at_ge (by omega), List.getElem?_replicate, if_pos (by omega)]
  · rw [full_none (by omega), List.getElem?_eq_none (by rw [List.length_append, List.length_replicate]; omega)]
/-- The document's slab of a slab. -/
def St.ref (s : St) : Rs := ⟨s.full, s.freed, s.reserve⟩

theorem cls_of {s : St} (h : s.Ok) {x : Slot3} (hx : x ∈ s.slots) : 0 ≤ x.1 ∧ x.1 ≤ 4 := by
  obtain ⟨i, hi⟩ := List.mem_iff_getElem?.1 hx
  have := h.cls i x.1 x.2.1 x.2.2 hi
  exact ⟨this.1, this.2.1⟩
theorem full_free {s : St} (h : s.Ok) : ((s.full.countP isFree : Nat) : Int) = s.left := by
  rw [full_split h.len, List.countP_append]
  have h1 : (List.replicate (s.room - s.slots.length) ((0, 0, 0) : Slot3)).countP isFree = s.room - s.slots.length := by
    rw [List.countP_replicate]; simp [isFree]
  have h2 := held_count h
  have h3 := two_filters s.slots (fun x => asks [1, 2, 3, 4] x.1)
  have h4 : (s.slots.filter fun x => !asks [1, 2, 3, 4] x.1).length = s.slots.countP isFree := by
    rw [← List.countP_eq_length_filter]
    refine List.countP_congr fun x hx => ?_
    have hc := cls_of h hx
    obtain ⟨c, t, v⟩ := x
    dsimp only at hc ⊢
    simp only [asks, isFree, Bool.not_eq_true', decide_eq_false_iff_not, beq_iff_eq]
    constructor
    · intro hn
      by_cases h0 : c = 0
      · exact h0
      · exact absurd ⟨by omega, by omega, by have : c = 1 ∨ c = 2 ∨ c = 3 ∨ c = 4 := by omega
                                             rcases this with rfl | rfl | rfl | rfl <;> simp⟩ hn
    · rintro rfl ⟨h5, _⟩
      omega
  have h5 : s.liveOf [1, 2, 3, 4] = (s.slots.filter fun x => asks [1, 2, 3, 4] x.1).length := by
    unfold St.liveOf countOf
    rw [List.countP_eq_length_filter]
  have h6 := h.len
  rw [h1]
  unfold St.left
  rw [h4] at h3
  rw [h5] at h2
  omega
theorem full_of {s : St} (h : s.Ok) (p : Slot3 → Bool) (h0 : p (0, 0, 0) = false) : s.full.countP p = s.slots.countP p := by
  rw [full_split h.len, List.countP_append, List.countP_replicate, h0]
  simp
theorem full_live0 {s : St} (h : s.Ok) : ((s.full.countP (isOf 0) : Nat) : Int) = (s.slots.length : Int) - (s.freed.length : Int) := by
  rw [full_of h _ (by rfl), ← held_count h]
  unfold St.liveOf countOf
  congr 1
  refine List.countP_congr fun x hx => ?_
  have hc := cls_of h hx
  obtain ⟨c, t, v⟩ := x
  dsimp only at hc ⊢
  simp only [asks, isOf, Bool.and_eq_true, decide_eq_true_eq]
  constructor
  · rintro ⟨h1, _⟩
    have h1' : 0 < c := h1
    exact ⟨by omega, by omega, by have : c = 1 ∨ c = 2 ∨ c = 3 ∨ c = 4 := by omega
                                  rcases this with rfl | rfl | rfl | rfl <;> simp⟩
  · rintro ⟨h1, _⟩
    exact ⟨by show 0 < c; omega, rfl⟩
theorem full_live {s : St} (h : s.Ok) {k : Int} (hk : 1 ≤ k) : s.full.countP (isOf k) = s.liveOf [k] := by
  rw [full_of h _ (by simp [isOf])]
  unfold St.liveOf countOf
  refine List.countP_congr fun x hx => ?_
  have hc := cls_of h hx
  obtain ⟨c, t, v⟩ := x
  dsimp only at hc ⊢
  simp only [asks, isOf, Bool.and_eq_true, decide_eq_true_eq, Bool.or_eq_true, beq_iff_eq, List.mem_singleton]
  constructor
  · rintro ⟨h1, h2⟩
    have h1' : 0 < c := h1
    refine ⟨by omega, by omega, by omega⟩
  · rintro ⟨h1, h2, h3⟩
    exact ⟨by show 0 < c; omega, .inr h3⟩
theorem full_live131 {s : St} (h : s.Ok) : s.full.countP (isOf 1) + s.full.countP (isOf 3) = s.liveOf [1, 3, 1] := by
  rw [full_live h (by omega), full_live h (by omega)]
  unfold St.liveOf countOf
  have hc : ∀ (l : List Slot3), (∀ x ∈ l, 0 ≤ x.1 ∧ x.1 ≤ 4) → l.countP (fun x => asks [1] x.1) + l.countP (fun x => asks [3] x.1) = l.countP (fun x => asks [1, 3, 1] x.1) := by
    intro l
    induction l with
    | nil => simp
    | cons y l ih =>
      intro hl
      have h1 := ih (fun x hx => hl x (by simp [hx]))
      have h2 := hl y (by simp)
      obtain ⟨c, t, v⟩ := y
      dsimp only at h2
      simp only [List.countP_cons]
      generalize l.countP (fun x => asks [1] x.1) = A at h1 ⊢
      generalize l.countP (fun x => asks [3] x.1) = B at h1 ⊢
      generalize l.countP (fun x => asks [1, 3, 1] x.1) = C at h1 ⊢
      have : c = 0 ∨ c = 1 ∨ c = 2 ∨ c = 3 ∨ c = 4 := by omega
      rcases this with rfl | rfl | rfl | rfl | rfl <;> simp [asks] <;> omega
  exact hc s.slots fun x hx => cls_of h hx
/-- A handle tells the same thing by both. -/
theorem tells_look {s : St} (h : s.Ok) (x t : Int) : tellsS s.full x t = (s.look x t).isSome := by
  rw [look_eq]
  unfold tellsS
  by_cases hx : 0 ≤ x
  · rw [decide_eq_true hx]
    by_cases hr : x.toNat < s.room
    · rw [full_get hr]
      have hc := (ok_at h x.toNat).1
      generalize s.at' x.toNat = y at hc
      obtain ⟨c, t', v⟩ := y
      dsimp only at hc ⊢
      by_cases hc0 : c = 0
      · subst hc0; simp
      · have h1 : decide (c > 0) = true := by rw [decide_eq_true_eq]; show 0 < c; omega
        rw [h1]
        by_cases ht : t' = t
        · subst ht; rw [if_pos ⟨hx, hc0, rfl⟩]; simp
        · rw [if_neg (fun h => ht h.2.2)]; simp [ht]
    · rw [full_none (by omega), if_neg]
      · rfl
      · rintro ⟨_, h1, _⟩
        have := h.len
        rw [at_ge (by omega)] at h1
        exact h1 rfl
  · rw [decide_eq_false hx, if_neg (fun h => hx h.1)]; rfl
theorem take_ref {s : St} (h : s.Ok) (hn : 0 < s.left) (c v : Int) : (s.take c v).ref = ⟨s.full.set s.pick.1 (c, s.turn, v), s.pick.2.freed, s.reserve⟩ := by
  have hr := take_room s c v
  have hp := pick_room h hn
  unfold St.ref
  rw [full_set (s := s) (s' := s.take c v) hr.1 hp (take_at h c v), hr.2]
  rfl
theorem free_ref {s : St} {i : Nat} (hi : i < s.slots.length) (hr : s.slots.length ≤ s.room) (t : Int) : (s.free i t).ref = ⟨s.full.set i (0, t, 0), s.freed ++ [i], s.reserve⟩ := by
  unfold St.ref
  rw [full_set (s := s) (s' := s.free i t) rfl (by omega) (free_at hi t)]
  rfl
theorem set_ref {s : St} {i : Nat} (hi : i < s.slots.length) (hr : s.slots.length ≤ s.room) (x : Slot3) : ({ s with slots := s.slots.set i x } : St).ref = ⟨s.full.set i x, s.freed, s.reserve⟩ := by
  unfold St.ref
  rw [full_set (s := s) (s' := { s with slots := s.slots.set i x }) rfl (by omega) (set_at hi x)]
end Go.Proofs.Ytpfolcoijncfjaa
