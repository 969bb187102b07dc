/- A law's list of live handles. -/
import Derived.Test.YtpfolcoijncfjaaSlabOps
import Derived.Test.YtpfolcoijncfjaaHold2
namespace Go.Proofs.Ytpfolcoijncfjaa
open Go.RowKit

structure LiveOk (s : St) (live : List (Int × Int)) : Prop where
  look : ∀ p ∈ live, ∃ i c v, s.look p.1 p.2 = some (i, c, v)
  apart : live.Pairwise fun p q => p.1 ≠ q.1
  len : live.length + s.freed.length = s.slots.length

theorem liveOk_new (n r : Nat) : LiveOk ⟨n, r, [], []⟩ [] := ⟨by simp, by simp, by simp⟩
theorem take_lens (s : St) (c v : Int) : ((s.take c v).slots.length : Int) - (s.take c v).freed.length = (s.slots.length : Int) - s.freed.length + 1 := by
  have h1 := take_left s c v
  have h2 := take_room s c v
  unfold St.left at h1
  rw [h2.1] at h1
  omega
theorem liveOk_ne {s : St} (h : s.Ok) {live : List (Int × Int)} (hl : LiveOk s live) {p : Int × Int} (hp : p ∈ live) : p.1 ≠ (s.pick.1 : Int) := by
  obtain ⟨i, c, v, hk⟩ := hl.look p hp
  obtain ⟨h1, h2, h3, _⟩ := look_at hk
  have h4 := pick_free' h
  intro e
  have : i = s.pick.1 := by omega
  subst this
  rw [h2] at h4
  exact h3 h4.1
theorem liveOk_take {s : St} (h : s.Ok) {live : List (Int × Int)} (hl : LiveOk s live) {c v : Int} (hc : c ≠ 0) : LiveOk (s.take c v) (live ++ [((s.pick.1 : Int), s.turn)]) := by
  refine ⟨fun p hp => ?_, ?_, ?_⟩
  · rcases List.mem_append.1 hp with hp | hp
    · have hne := liveOk_ne h hl hp
      rw [take_look h hc, if_neg (fun e => hne e.1)]
      exact hl.look p hp
    · simp at hp; subst hp
      rw [take_look h hc, if_pos ⟨rfl, rfl⟩]
      exact ⟨_, _, _, rfl⟩
  · rw [List.pairwise_append]
    refine ⟨hl.apart, by simp, fun p hp q hq => ?_⟩
    simp at hq; subst hq
    exact liveOk_ne h hl hp
  · have h1 := take_lens s c v
    have h2 := hl.len
    simp only [List.length_append, List.length_singleton]
    omega
theorem split_at {α : Type} {l : List α} {j : Nat} {x : α} (h : l[j]? = some x) : l = l.take j ++ x :: l.drop (j + 1) := by
  obtain ⟨hj, hx⟩ := List.getElem?_eq_some_iff.1 h
  rw [← hx, List.getElem_cons_drop, List.take_append_drop]
theorem liveOk_free {s : St} {live : List (Int × Int)} (hl : LiveOk s live) {j : Nat} {x t : Int} (hj : live[j]? = some (x, t)) {i : Nat} {c v : Int} (hk : s.look x t = some (i, c, v)) : LiveOk (s.free i t) (live.take j ++ live.drop (j + 1)) := by
  obtain ⟨hxe, _, _, hil, _⟩ := look_at hk
  have hsp := split_at hj
  have hap := hl.apart
  rw [hsp, List.pairwise_append] at hap
  obtain ⟨ha1, ha2, ha3⟩ := hap
  rw [List.pairwise_cons] at ha2
  have hne : ∀ p ∈ live.take j ++ live.drop (j + 1), p.1 ≠ (i : Int) := fun p hp => by
    rcases List.mem_append.1 hp with hp | hp
    · have := ha3 p hp (x, t) (by simp); dsimp only at this; omega
    · have := ha2.1 p hp; dsimp only at this; omega
  have hmem : ∀ p ∈ live.take j ++ live.drop (j + 1), p ∈ live := fun p hp => by
    rw [hsp]
    rcases List.mem_append.1 hp with hp | hp <;> simp [hp]
  refine ⟨fun p hp => ?_, ?_, ?_⟩
  · rw [free_look hil, if_neg (hne p hp)]
    exact hl.look p (hmem p hp)
  · rw [List.pairwise_append]
    exact ⟨ha1, ha2.2, fun p hp q hq => ha3 p hp q (by simp [hq])⟩
  · have h1 := hl.len
    have h2 := congrArg List.length hsp
    simp only [List.length_append, List.length_cons] at h2
    simp only [St.free, List.length_append, List.length_set, List.length_singleton]
    omega
theorem handleCells_one : ∀ (l : List (Int × Int)), ∀ u ∈ handleCells l, u.oneCell' = true
  | [], u, h => by simp [handleCells] at h
  | (x, t) :: l, u, h => by
    simp only [handleCells, List.mem_cons] at h
    rcases h with rfl | rfl | h
    · rfl
    · rfl
    · exact handleCells_one l u h
/-- The cells of the first ones, and of those behind one. -/
theorem cells_first {w : World} {g cl : Nat} {live : List (Int × Int)} (h : w.ownsRow 0 38 2 (.slice (some ⟨g, 0, none⟩) live.length cl) live.length (handleCells live)) (j : Nat) :
    ∀ (i : Nat) (u : Value), (handleCells (live.take j))[i]? = some u → w.cell? ((⟨g, 0, none⟩ : Addr).add i) = some u := by
  intro i u hu
  rw [← handleCells_take, List.getElem?_take] at hu
  split at hu
  · exact h.cells (g := g) rfl i u hu
  · cases hu
theorem cells_last {w : World} {g cl : Nat} {live : List (Int × Int)} (h : w.ownsRow 0 38 2 (.slice (some ⟨g, 0, none⟩) live.length cl) live.length (handleCells live)) (j : Nat) :
    ∀ (i : Nat) (u : Value), (handleCells (live.drop j))[i]? = some u → w.cell? ((⟨g, j * 2, none⟩ : Addr).add i) = some u := by
  intro i u hu
  rw [← handleCells_drop, List.getElem?_drop] at hu
  have := h.cells (g := g) rfl _ u hu
  rw [addr_add, Nat.zero_add] at this
  rw [addr_add]; exact this
/-- The turns of the slots, in a row. -/
def turnCells (s : St) (n : Nat) : List Value := (List.range n).map fun i => .int .i64 (s.at' i).2.1
theorem turnCells_length (s : St) (n : Nat) : (turnCells s n).length = n := by simp [turnCells]
theorem turnCells_get (s : St) {n i : Nat} (h : i < n) : (turnCells s n)[i]? = some (.int .i64 (s.at' i).2.1) := by simp [turnCells, h]
theorem turnCells_new (n r : Nat) : turnCells ⟨n, r, [], []⟩ n = List.replicate n (.int .i64 0) := by
  refine List.ext_getElem? fun i => ?_
  by_cases hi : i < n
  · rw [turnCells_get _ hi]; simp [St.at', hi]
  · have h1 : (turnCells ⟨n, r, [], []⟩ n)[i]? = none := by simp [turnCells]; omega
    rw [h1]; simp; omega
theorem turnCells_take {s : St} (h : s.Ok) (c v : Int) (n : Nat) : turnCells (s.take c v) n = (turnCells s n).set s.pick.1 (.int .i64 s.turn) := by
  refine List.ext_getElem? fun i => ?_
  by_cases hi : i < n
  · rw [turnCells_get _ hi, take_at h, List.getElem?_set]
    by_cases hp : i = s.pick.1
    · subst hp; simp [turnCells_length, hi]
    · have : ¬ s.pick.1 = i := fun e => hp e.symm
      rw [if_neg hp, if_neg this, turnCells_get _ hi]
  · have h1 : (turnCells (s.take c v) n)[i]? = none := by simp [turnCells]; omega
    have h2 : ((turnCells s n).set s.pick.1 (.int .i64 s.turn))[i]? = none := by simp [turnCells]; omega
    rw [h1, h2]
theorem turnCells_free {s : St} {i : Nat} (hi : i < s.slots.length) {t : Int} (ht : (s.at' i).2.1 = t) (n : Nat) : turnCells (s.free i t) n = turnCells s n := by
  unfold turnCells
  refine List.map_congr_left fun j _ => ?_
  rw [free_at hi]
  by_cases hj : j = i
  · rw [if_pos hj, hj, ht]
  · rw [if_neg hj]
theorem pick_room {s : St} (h : s.Ok) (hn : 0 < s.left) : s.pick.1 < s.room := by
  have h1 := h.len
  have h2 := h.freed_le
  rcases pick_cases s with ⟨hnil, hp⟩ | ⟨fs, i, hfr, hp⟩
  · rw [hp]
    unfold St.left at hn
    simp only [hnil, List.length_nil] at hn
    dsimp only
    omega
  · rw [hp]
    have := h.freed i (by simp [hfr])
    dsimp only
    omega
/-- Which turn comes, and how many free slots there are then. -/
theorem pick_turn {s : St} (h : s.Ok) : (s.freed = [] ∧ (s.at' s.pick.1).2.1 = 0) ∨ (0 < s.freed.length ∧ 0 < (s.at' s.pick.1).2.1) := by
  rcases pick_cases s with ⟨hnil, hp⟩ | ⟨fs, i, hfr, hp⟩
  · refine .inl ⟨hnil, ?_⟩
    rw [hp, at_ge (Nat.le_refl _)]
  · refine .inr ⟨by simp [hfr], ?_⟩
    rw [hp]
    have hi := h.freed i (by simp [hfr])
    have := h.cls i (s.at' i).1 (s.at' i).2.1 (s.at' i).2.2 (at_lt hi)
    exact this.2.2.1
theorem take_freed (s : St) (c v : Int) : (s.take c v).freed.length = s.freed.length - 1 := by
  rcases pick_cases s with ⟨hnil, hp⟩ | ⟨fs, i, hfr, hp⟩
  · unfold St.take; rw [hp]; simp [hnil]
  · unfold St.take; rw [hp]; simp [hfr]
end Go.Proofs.Ytpfolcoijncfjaa
