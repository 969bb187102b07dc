/- A law's list of dead handles: they tell nothing ever again. -/
import Derived.Test.YtpfolcoijncfjaaSlabLive
import Derived.Test.YtpfolcoijncfjaaSlabLiveOf
namespace Go.Proofs.Ytpfolcoijncfjaa
open Go.RowKit

/-- A handle of what was freed: its slot has had a later turn, or has that one and holds nothing. -/
def DeadAt (s : St) (p : Int × Int) : Prop := ∃ i : Nat, p.1 = (i : Int) ∧ i < s.slots.length ∧ p.2 ≤ (s.at' i).2.1 ∧ ((s.at' i).1 ≠ 0 → p.2 < (s.at' i).2.1)
def DeadOk (s : St) (dead : List (Int × Int)) : Prop := ∀ p ∈ dead, DeadAt s p

theorem dead_look {s : St} {p : Int × Int} (h : DeadAt s p) : s.look p.1 p.2 = none := by
  obtain ⟨i, h1, h2, h3, h4⟩ := h
  rw [look_eq, if_neg]
  rintro ⟨_, hc, ht⟩
  rw [h1, Int.toNat_natCast] at hc ht
  have := h4 hc
  omega
theorem take_len (s : St) (c v : Int) : s.slots.length ≤ (s.take c v).slots.length := by
  rcases pick_cases s with ⟨hnil, hp⟩ | ⟨fs, i, hfr, hp⟩
  · unfold St.take; rw [hp]; simp
  · unfold St.take; rw [hp]; simp
theorem dead_take {s : St} (h : s.Ok) {c v : Int} {dead : List (Int × Int)} (hd : DeadOk s dead) : DeadOk (s.take c v) dead := by
  intro p hp
  obtain ⟨i, h1, h2, h3, h4⟩ := hd p hp
  have hpk := pick_free' h
  refine ⟨i, h1, Nat.lt_of_lt_of_le h2 (take_len s c v), ?_, ?_⟩
  · rw [take_at h]
    by_cases hi : i = s.pick.1
    · rw [if_pos hi]; dsimp only; rw [hi] at h3; omega
    · rw [if_neg hi]; exact h3
  · rw [take_at h]
    by_cases hi : i = s.pick.1
    · rw [if_pos hi]; intro _; dsimp only; rw [hi] at h3; omega
    · rw [if_neg hi]; exact h4
theorem dead_new {s : St} (h : s.Ok) {dead : List (Int × Int)} (hd : DeadOk s dead) : ∀ p ∈ dead, p ≠ ((s.pick.1 : Int), s.turn) := by
  intro p hp e
  obtain ⟨i, h1, h2, h3, h4⟩ := hd p hp
  have hpk := pick_free' h
  rw [e] at h1 h3
  have : i = s.pick.1 := by dsimp only at h1; omega
  rw [this] at h3
  dsimp only at h3
  omega
theorem dead_free {s : St} {x t : Int} {i : Nat} {c v : Int} (hk : s.look x t = some (i, c, v)) {dead : List (Int × Int)} (hd : DeadOk s dead) : DeadOk (s.free i t) (dead ++ [(x, t)]) := by
  obtain ⟨hx, hat, hc, hil, _⟩ := look_at hk
  intro p hp
  rcases List.mem_append.1 hp with hp | hp
  · obtain ⟨j, h1, h2, h3, h4⟩ := hd p hp
    refine ⟨j, h1, by simpa [St.free] using h2, ?_, ?_⟩
    · rw [free_at hil]
      by_cases hj : j = i
      · rw [if_pos hj]; rw [hj, hat] at h3; exact h3
      · rw [if_neg hj]; exact h3
    · rw [free_at hil]
      by_cases hj : j = i
      · rw [if_pos hj]; intro h; exact absurd rfl h
      · rw [if_neg hj]; exact h4
  · simp at hp; subst hp
    refine ⟨i, hx, by simpa [St.free] using hil, ?_, ?_⟩
    · rw [free_at hil, if_pos rfl]; exact Int.le_refl _
    · rw [free_at hil, if_pos rfl]; intro h; exact absurd rfl h

theorem two_filters {α : Type} (l : List α) (p : α → Bool) : (l.filter p).length + (l.filter fun x => !p x).length = l.length := by
  induction l with
  | nil => rfl
  | cons a l ih => by_cases h : p a <;> simp [h] <;> omega
/-- All classes: as many as there are things. -/
theorem held_count {s : St} (h : s.Ok) : (s.liveOf [1, 2, 3, 4] : Int) = (s.slots.length : Int) - (s.freed.length : Int) := by
  have hsub : s.freed.Perm ((List.range s.slots.length).filter fun i => decide ((s.at' i).1 = 0)) := by
    refine (List.perm_ext_iff_of_nodup h.nodup (List.nodup_range.filter _)).2 fun i => ?_
    simp only [List.mem_filter, List.mem_range, decide_eq_true_eq]
    constructor
    · intro hi; exact ⟨h.freed i hi, (ok_iff h (h.freed i hi)).2 hi⟩
    · rintro ⟨hi, hc⟩; exact (ok_iff h hi).1 hc
  have hlen := hsub.length_eq
  have hcnt : s.liveOf [1, 2, 3, 4] = ((List.range s.slots.length).filter fun i => !decide ((s.at' i).1 = 0)).length := by
    unfold St.liveOf countOf
    have hmap : s.slots = (List.range s.slots.length).map fun i => s.at' i := by
      refine List.ext_getElem? fun i => ?_
      by_cases hi : i < s.slots.length
      · rw [at_lt hi]; simp [hi]
      · have h1 : s.slots[i]? = none := by simp; omega
        have h2 : ((List.range s.slots.length).map fun i => s.at' i)[i]? = none := List.getElem?_eq_none (by rw [List.length_map, List.length_range]; omega)
        rw [h1, h2]
    have : s.slots.countP (fun x => asks [1, 2, 3, 4] x.1) = (List.range s.slots.length).countP (fun i => !decide ((s.at' i).1 = 0)) := by
      conv => lhs; rw [hmap]
      rw [List.countP_map]
      refine List.countP_congr fun i hi => ?_
      have hc := ok_at h i
      simp only [Function.comp, asks, Bool.not_eq_true', decide_eq_true_eq, decide_eq_false_iff_not, List.mem_cons, List.not_mem_nil, or_false]
      omega
    rw [this, List.countP_eq_length_filter]
  have hsum := two_filters (List.range s.slots.length) (fun i => decide ((s.at' i).1 = 0))
  rw [List.length_range] at hsum
  rw [hcnt]
  omega

section
variable {b : Nat} {s : St} {w w0 : World} {B : Nat} {L : List (Nat × Obj)} {Q : World → List Nat → Prop}
/-- Live of the four classes. -/
theorem live_four (hQ : Stable Q) (h : Holds B w0 (sepR (slabR b s) Q) w L) (ho : s.Ok) (gc : Nat) (hgc : w.heap[gc]? = some (.cells #[.int .i64 1, .int .i64 2, .int .i64 3, .int .i64 4] 3)) :
    Calls Try.prog 23 #[.pointer (some ⟨b, 0, none⟩), .slice (some ⟨gc, 0, none⟩) 4 4] w (Goes (.int .i64 ((s.slots.length : Int) - (s.freed.length : Int))) B w0 (sepR (slabR b s) Q) L) := by
  rw [← held_count ho]
  refine Goes.call_made (slabR_stable _ _) hQ h fun F ⟨sv, fv, hS, hF⟩ => ?_
  refine live_any hS ho [1, 2, 3, 4] gc 0 4 (by decide) (by decide) (lt_of_obj hgc) fun k c hc => ?_
  rw [Nat.zero_add, cell_of_obj hgc]
  match k, hc with
  | 0, hc => cases hc; rfl
  | 1, hc => cases hc; rfl
  | 2, hc => cases hc; rfl
  | 3, hc => cases hc; rfl
  | k + 4, hc => simp at hc
end
end Go.Proofs.Ytpfolcoijncfjaa
