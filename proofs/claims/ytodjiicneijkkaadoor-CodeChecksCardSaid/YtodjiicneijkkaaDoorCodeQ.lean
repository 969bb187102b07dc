/- Package code: plain facts about which programs may be, and their texts. -/
import Derived.Test.YtodjiicneijkkaaDoorCodeAwake
namespace Go.Proofs.YtodjiicneijkkaaDoor
open Go.RowKit Go.Maps

theorem printP_err (p : List Ins) : (printP p).2 = (checkP p).2 := by
  unfold printP
  split
  · rename_i h; rw [h]
  · rfl
theorem printP_ok {p : List Ins} (h : (checkP p).2 = 0) : printP p = (printL p, 0) := if_pos h
theorem printP_no {p : List Ins} (h : (checkP p).2 ≠ 0) : printP p = ([], (checkP p).2) := if_neg h
theorem printL_append (p q : List Ins) : printL (p ++ q) = printL p ++ printL q := by unfold printL; rw [List.map_append, List.flatten_append]
theorem mayE_zero {x : Ins} {m : Int} : mayE x m = 0 ↔ isOp x.op ∧ ∀ k, k < 4 → okN x m k = true := by
  constructor
  · intro h
    by_cases ho : isOp x.op
    · refine ⟨ho, fun k hk => ?_⟩
      cases hb : okN x m k with
      | true => rfl
      | false => rw [mayE_bad ho hk hb] at h; omega
    · rw [mayE_none ho] at h; omega
  · rintro ⟨h1, h2⟩; exact mayE_ok h1 h2
theorem fitsB_mono {s : Nat} {n m m' : Int} (h : fitsB s n m = true) (hm : m ≤ m') : fitsB s n m' = true := by
  unfold fitsB at h ⊢
  by_cases h1 : s = 1
  · rw [if_pos h1] at h ⊢; exact h
  · rw [if_neg h1] at h ⊢
    by_cases h2 : s = 2
    · rw [if_pos h2] at h ⊢
      simp only [Bool.and_eq_true, decide_eq_true_eq] at h ⊢
      omega
    · rw [if_neg h2] at h ⊢; exact h
theorem fitsB_still {s : Nat} (hs : s ≠ 2) (n m m' : Int) : fitsB s n m = fitsB s n m' := by
  unfold fitsB
  rw [if_neg hs, if_neg hs]
theorem mayE_mono {x : Ins} {m m' : Int} (h : mayE x m = 0) (hm : m ≤ m') : mayE x m' = 0 :=
  mayE_zero.2 ⟨(mayE_zero.1 h).1, fun k hk => fitsB_mono ((mayE_zero.1 h).2 k hk) hm⟩
theorem firstBad_iff (many : Int) (p : List Ins) (k : Nat) : (firstBad many k p).2 = 0 ↔ ∀ x ∈ p, mayE x many = 0 := by
  induction p generalizing k with
  | nil => simp [firstBad]
  | cons x p ih =>
    unfold firstBad
    by_cases h : mayE x many = 0
    · rw [if_pos h, ih]; simp [h]
    · rw [if_neg h]; simp [h]
theorem checkP_iff (p : List Ins) : (checkP p).2 = 0 ↔ p.length ≤ 64 ∧ ∀ x ∈ p, mayE x p.length = 0 := by
  unfold checkP
  split
  · rename_i h; simp; omega
  · rename_i h
    rw [firstBad_iff]
    exact ⟨fun h' => ⟨by omega, h'⟩, fun h' => h'.2⟩
def stopI : Ins := ⟨15, 0, 0, 0, 0⟩
theorem stop_may (m : Int) : mayE stopI m = 0 := by
  refine mayE_zero.2 ⟨by decide, fun k hk => ?_⟩
  obtain rfl | rfl | rfl | rfl : k = 0 ∨ k = 1 ∨ k = 2 ∨ k = 3 := by omega
  all_goals rfl
theorem shift_ok {p : List Ins} (h : (checkP p).2 = 0) (hn : p.length ≤ 63) : (checkP (p ++ [stopI])).2 = 0 := by
  refine (checkP_iff _).2 ⟨by simp; omega, fun x hx => ?_⟩
  rcases List.mem_append.1 hx with hx | hx
  · exact mayE_mono (((checkP_iff p).1 h).2 x hx) (by simp; omega)
  · simp at hx; subst hx; exact stop_may _
theorem shift_text (p : List Ins) : printL (p ++ [stopI]) = printL p ++ [115, 116, 111, 112, 10] := by
  rw [printL_append]
  have : printL [stopI] = [115, 116, 111, 112, 10] := by
    have h1 : wordOf stopI.op = [115, 116, 111, 112] := by decide
    have h2 : manyOf stopI.op = 0 := by decide
    unfold printL lineL
    simp only [List.map_cons, List.map_nil, h1, h2]
    rfl
  rw [this]
theorem shift_sends (p : List Ins) : sendsP (p ++ [stopI]) = sendsP p := by unfold sendsP; rw [List.filter_append]; simp [stopI]
/-- A program without places is one just if each part of it is. -/
def Still (p : List Ins) : Prop := ∀ x ∈ p, x.op ≠ 8 ∧ x.op ≠ 9
theorem still_may {x : Ins} (h8 : x.op ≠ 8) (h9 : x.op ≠ 9) (m m' : Int) : mayE x m = mayE x m' := by
  have hk : ∀ k, okN x m k = okN x m' k := fun k => by
    unfold okN
    have hs : sortK (opK x.op) k ≠ 2 := by
      have : ∀ j : Fin 16, j.1 ≠ 8 → j.1 ≠ 9 → lastK j.1 ≠ 2 := by decide
      have h16 := opK_lt x.op
      have hop8 : opK x.op ≠ 8 := by unfold opK; split <;> omega
      have hop9 : opK x.op ≠ 9 := by unfold opK; split <;> omega
      have := this ⟨opK x.op, h16⟩ hop8 hop9
      unfold sortK
      split
      · omega
      · split
        · exact this
        · omega
    exact fitsB_still hs _ _ _
  unfold mayE
  rw [hk 0, hk 1, hk 2, hk 3]
theorem parts_ok {p : List Ins} (hs : Still p) (hn : p.length ≤ 64) (at_ : Nat) : (checkP p).2 = 0 ↔ (checkP (p.take at_)).2 = 0 ∧ (checkP (p.drop at_)).2 = 0 := by
  rw [checkP_iff, checkP_iff, checkP_iff]
  have hm : ∀ x ∈ p, ∀ m m' : Int, mayE x m = mayE x m' := fun x hx m m' => still_may (hs x hx).1 (hs x hx).2 m m'
  constructor
  · rintro ⟨_, h⟩
    exact ⟨⟨by rw [List.length_take]; omega, fun x hx => by rw [hm x (List.mem_of_mem_take hx) _ p.length]; exact h x (List.mem_of_mem_take hx)⟩,
      ⟨by rw [List.length_drop]; omega, fun x hx => by rw [hm x (List.mem_of_mem_drop hx) _ p.length]; exact h x (List.mem_of_mem_drop hx)⟩⟩
  · rintro ⟨⟨_, h1⟩, ⟨_, h2⟩⟩
    refine ⟨hn, fun x hx => ?_⟩
    rw [← List.take_append_drop at_ p] at hx
    rcases List.mem_append.1 hx with hx | hx
    · rw [hm x (List.mem_of_mem_take hx) _ (p.take at_).length]; exact h1 x hx
    · rw [hm x (List.mem_of_mem_drop hx) _ (p.drop at_).length]; exact h2 x hx
theorem parts_sends (p : List Ins) (k : Nat) : sendsP p = sendsP (p.take k) + sendsP (p.drop k) := by
  conv => lhs; rw [← List.take_append_drop k p]
  unfold sendsP
  rw [List.filter_append, List.length_append]
theorem parts_text (p : List Ins) (k : Nat) : printL p = printL (p.take k) ++ printL (p.drop k) := by
  rw [← printL_append, List.take_append_drop]
end Go.Proofs.YtodjiicneijkkaaDoor
