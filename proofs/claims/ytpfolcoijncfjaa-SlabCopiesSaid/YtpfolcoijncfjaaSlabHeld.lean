/- What slots hold, gone through beside all slots: plain facts. -/
import Derived.Test.YtpfolcoijncfjaaSlabAll
namespace Go.Proofs.Ytpfolcoijncfjaa
open Go.RowKit

/-- The number behind the last one of things. -/
def nextOf : Nat → List (Nat × Int × Int) → Nat
  | i, [] => i
  | _, x :: l => nextOf (x.1 + 1) l
theorem nextOf_more (i : Nat) (l : List (Nat × Int × Int)) (x : Nat × Int × Int) : nextOf i (l ++ [x]) = x.1 + 1 := by
  induction l generalizing i with
  | nil => rfl
  | cons y l ih => exact ih _
theorem held_next : ∀ (l : List Slot3) (i : Nat) (pre post : List (Nat × Int × Int)) (x : Nat × Int × Int), heldL l i = pre ++ x :: post →
    i ≤ nextOf i pre ∧ nextOf i pre ≤ x.1 ∧ (∀ j, nextOf i pre ≤ j → j < x.1 → ∃ t v, l[j - i]? = some (0, t, v)) ∧ ∃ c, c ≠ 0 ∧ l[x.1 - i]? = some (c, x.2.1, x.2.2)
  | [], i, pre, post, x, h => by cases pre <;> simp [heldL] at h
  | (c, t, v) :: l, i, pre, post, x, h => by
    by_cases hc : c = 0
    · subst hc
      rw [heldL, if_pos rfl] at h
      obtain ⟨h1, h2, h3, c', h4, h5⟩ := held_next l (i + 1) pre post x h
      have hs : ∀ (j : Nat), i + 1 ≤ j → ((0, t, v) :: l)[j - i]? = l[j - (i + 1)]? := fun j hj => by
        rw [show j - i = (j - (i + 1)) + 1 by omega, List.getElem?_cons_succ]
      cases pre with
      | nil =>
        simp only [nextOf] at h1 h2 h3 ⊢
        refine ⟨Nat.le_refl _, by omega, fun j hj hx => ?_, c', h4, by rw [hs _ (by omega)]; exact h5⟩
        by_cases hji : j = i
        · subst hji
          exact ⟨t, v, by simp⟩
        · rw [hs _ (by omega)]
          exact h3 j (by omega) hx
      | cons p ps =>
        simp only [nextOf] at h1 h2 h3 ⊢
        exact ⟨by omega, h2, fun j hj hx => by rw [hs _ (by omega)]; exact h3 j hj hx, c', h4, by rw [hs _ (by omega)]; exact h5⟩
    · rw [heldL, if_neg hc] at h
      cases pre with
      | nil =>
        simp only [List.nil_append, List.cons.injEq] at h
        obtain ⟨rfl, _⟩ := h
        simp only [nextOf]
        exact ⟨Nat.le_refl _, Nat.le_refl _, fun j hj hx => by omega, c, hc, by simp⟩
      | cons p ps =>
        simp only [List.cons_append, List.cons.injEq] at h
        obtain ⟨rfl, h⟩ := h
        obtain ⟨h1, h2, h3, c', h4, h5⟩ := held_next l (i + 1) ps post x h
        have hs : ∀ (j : Nat), i + 1 ≤ j → ((c, t, v) :: l)[j - i]? = l[j - (i + 1)]? := fun j hj => by
          rw [show j - i = (j - (i + 1)) + 1 by omega, List.getElem?_cons_succ]
        simp only [nextOf]
        exact ⟨by omega, h2, fun j hj hx => by rw [hs _ (by omega)]; exact h3 j hj hx, c', h4, by rw [hs _ (by omega)]; exact h5⟩
theorem held_end : ∀ (l : List Slot3) (i : Nat), i ≤ nextOf i (heldL l i) ∧ nextOf i (heldL l i) ≤ i + l.length ∧ ∀ j, nextOf i (heldL l i) ≤ j → j < i + l.length → ∃ t v, l[j - i]? = some (0, t, v)
  | [], i => by simp only [heldL, nextOf, List.length_nil]; exact ⟨Nat.le_refl _, Nat.le_refl _, fun j h1 h2 => by omega⟩
  | (c, t, v) :: l, i => by
    obtain ⟨h1, h2, h3⟩ := held_end l (i + 1)
    have hs : ∀ (j : Nat), i + 1 ≤ j → ((c, t, v) :: l)[j - i]? = l[j - (i + 1)]? := fun j hj => by
      rw [show j - i = (j - (i + 1)) + 1 by omega, List.getElem?_cons_succ]
    by_cases hc : c = 0
    · subst hc
      rw [heldL, if_pos rfl, List.length_cons]
      cases hh : heldL l (i + 1) with
      | nil =>
        rw [hh] at h1 h2 h3
        simp only [nextOf] at h1 h2 h3 ⊢
        refine ⟨Nat.le_refl _, by omega, fun j hj hx => ?_⟩
        by_cases hji : j = i
        · subst hji
          exact ⟨t, v, by simp⟩
        · rw [hs _ (by omega)]
          exact h3 j (by omega) (by omega)
      | cons p ps =>
        rw [hh] at h1 h2 h3
        simp only [nextOf] at h1 h2 h3 ⊢
        exact ⟨by omega, by omega, fun j hj hx => by rw [hs _ (by omega)]; exact h3 j hj (by omega)⟩
    · rw [heldL, if_neg hc, List.length_cons]
      simp only [nextOf]
      exact ⟨by omega, by omega, fun j hj hx => by rw [hs _ (by omega)]; exact h3 j hj (by omega)⟩
/-- A beginning of things, and one that may come next. -/
theorem held_split {l : List Slot3} {pre : List (Nat × Int × Int)} {x : Nat × Int × Int} {k : Nat} (h : pre ++ [x] = (heldL l 0).take k) : ∃ post, heldL l 0 = pre ++ x :: post :=
  ⟨(heldL l 0).drop k, by
    have h1 := List.take_append_drop k (heldL l 0)
    rw [← h, List.append_assoc] at h1
    exact h1.symm⟩
end Go.Proofs.Ytpfolcoijncfjaa
