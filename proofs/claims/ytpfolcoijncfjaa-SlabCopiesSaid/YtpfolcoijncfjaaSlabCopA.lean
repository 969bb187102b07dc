/- SlabCopies: what All hands out is told by the copy; a play with more beside it. -/
import Derived.Test.YtpfolcoijncfjaaSlabPlays
namespace Go.Proofs.Ytpfolcoijncfjaa
open Go.RowKit

theorem held_cnt : ∀ (l : List Slot3) (i : Nat), (∀ x ∈ l, 0 ≤ x.1) → (heldL l i).length = l.countP (isOf 0)
  | [], _, _ => rfl
  | (c, t, v) :: l, i, h => by
    have h1 := held_cnt l (i + 1) fun x hx => h x (by simp [hx])
    have h2 := h (c, t, v) (by simp)
    dsimp only at h2
    by_cases hc : c = 0
    · subst hc
      rw [heldL, if_pos rfl, List.countP_cons, h1]
      simp [isOf]
    · have h3 : isOf 0 (c, t, v) = true := by
        unfold isOf
        simp only [beq_self_eq_true, Bool.true_or, Bool.and_true, decide_eq_true_eq]
        omega
      rw [heldL, if_neg hc, List.countP_cons, List.length_cons, h1, h3]
      rfl
theorem held_mem {l : List Slot3} {x : Nat × Int × Int} (h : x ∈ heldL l 0) : ∃ c, c ≠ 0 ∧ l[x.1]? = some (c, x.2.1, x.2.2) := by
  obtain ⟨pre, post, he⟩ := List.append_of_mem h
  obtain ⟨_, _, _, c, hc, hx⟩ := held_next l 0 pre post x he
  exact ⟨c, hc, by simpa using hx⟩
theorem held_tells {s : St} (ho : s.Ok) {x : Nat × Int × Int} (h : x ∈ heldL s.slots 0) : tellsS s.full (x.1 : Int) x.2.1 = true ∧ ∃ c, s.full[x.1]? = some (c, x.2.1, x.2.2) := by
  obtain ⟨c, hc, hx⟩ := held_mem h
  have hl := (List.getElem?_eq_some_iff.1 hx).1
  have hln := ho.len
  have hf : s.full[x.1]? = some (c, x.2.1, x.2.2) := by rw [full_get (by omega), at_some hx]
  have h0 := (ho.cls _ _ _ _ hx).1
  refine ⟨?_, c, hf⟩
  unfold tellsS
  rw [show ((x.1 : Int)).toNat = x.1 by omega, hf]
  simp only [beq_self_eq_true, Bool.and_true, Bool.and_eq_true, decide_eq_true_eq]
  omega
theorem tells_full {l : List Slot3} {i : Nat} {t : Int} (h : tellsS l (i : Int) t = true) : ∃ c v, l[i]? = some (c, t, v) := by
  unfold tellsS at h
  rw [show ((i : Int)).toNat = i by omega] at h
  cases hx : l[i]? with
  | none => rw [hx] at h; simp at h
  | some q =>
    obtain ⟨c, t', v⟩ := q
    rw [hx] at h
    simp only [Bool.and_eq_true, beq_iff_eq] at h
    obtain ⟨_, _, rfl⟩ := h
    exact ⟨c, v, rfl⟩
theorem held_live {s : St} (ho : s.Ok) : (heldL s.slots 0).length = s.full.countP (isOf 0) := by
  rw [held_cnt _ _ fun x hx => (cls_of ho hx).1, full_of ho _ (by simp [isOf])]

section
variable {B : Nat} {w0 w : World} {Q X : World → List Nat → Prop} {L : List (Nat × Obj)}
/-- What lies beside a play is taken into it. -/
theorem Conv.playIn {P hb rb : Nat} {s : St} {l : List (Int × Int)} : Conv (sepR X (playR P hb rb s l Q)) (playR P hb rb s l (sepR X Q)) := fun w F hF hl => by
  obtain ⟨F1, F2, hX, ⟨x, h0⟩, r⟩ := hF
  have hc : Conv (sepR X (play0 P hb rb s s l x.1 x.2 Q)) (play0 P hb rb s s l x.1 x.2 (sepR X Q)) := Conv.exch.trans (Conv.right (Conv.exch.trans (Conv.right (Conv.exch.trans (Conv.right Conv.exch)))))
  obtain ⟨F', h1, h2⟩ := hc w F ⟨F1, F2, hX, h0, r⟩ hl
  exact ⟨F', ⟨x, h1⟩, h2⟩
end
section
variable {X1 X2 X3 X4 X5 X6 T : World → List Nat → Prop}
theorem Conv.c6 : Conv (sepR X1 (sepR X2 (sepR X3 (sepR X4 (sepR X5 (sepR X6 T)))))) (sepR X6 (sepR X1 (sepR X2 (sepR X3 (sepR X4 (sepR X5 T)))))) :=
  (((((Conv.third.right).trans Conv.exch).right).trans Conv.exch).right).trans Conv.exch
end
end Go.Proofs.Ytpfolcoijncfjaa
