/- All of a slab: a copy of its slots is made; its iterator hands out what they hold. -/
import Derived.Test.YtpfolcoijncfjaaSlabRefV
import Derived.Test.YtpfolcoijncfjaaFence
import Derived.RangeFuncNested
import Derived.RangeFuncBound
import Derived.RangeFuncCalls
import Derived.RangeFuncLeaves
import Derived.Shelf.Abstract
import Derived.Shelf.RegionOpen
import Derived.OwnWalkIn
import Derived.TacticsInMore
import Derived.LoopNIn
import Derived.LoopIn
namespace Go.Proofs.Ytpfolcoijncfjaa
open Go.RowKit Go.Shelf
attribute [local go_sem] Oper.semAt_some

def slEnc (x : Slot3) : List Value := [.int .i64 x.1, .int .i64 x.2.1, .int .i64 x.2.2]
theorem slEnc_len (x : Slot3) : (slEnc x).length = 3 := rfl
theorem slEnc_one (x : Slot3) : ∀ u ∈ slEnc x, u.oneCell' = true := by simp [slEnc, Value.oneCell']
theorem flat_sl (l : List Slot3) : flat slEnc l = slotCells l := by
  induction l with
  | nil => rfl
  | cons x l ih => obtain ⟨c, t, v⟩ := x; simp [flat, slEnc, slotCells, ih]
theorem Holds.emptyRow {R : World → List Nat → Prop} {B : Nat} {w0 w : World} {L : List (Nat × Obj)} (hR : Stable R) (h : Holds B w0 R w L) (e : TypeId) (size : Nat) : Holds B w0 (sepR (rowR e size (.slice (some ⟨w.heap.size, 0, none⟩) 0 0) 0 []) R) (w.alloc (.cells #[] e)) L := by
  obtain ⟨F1, _, _, _, hk⟩ := h.empty.split hR
  refine hk _ _ [w.heap.size] ⟨⟨by simp, .inr ⟨w.heap.size, 0, #[], rfl, Nat.zero_le _, obj_new w _, Nat.le_refl _, Nat.zero_le _, by simp, by simp⟩⟩, rfl⟩ ((Frm.refl _ _).alloc _) (fun k hk => .inr ?_) (fun k hk => ?_)
  · simp at hk; omega
  · simp at hk; subst hk; simp
/-- A copy of slots. -/
def CloneS (l : List Slot3) (n : Nat) (w : World) (e : Ending) (w' : World) : Prop :=
  ∃ (a : Option Addr) (c : Nat), e = .returned (.slice a n c) ∧ Holds w.heap.size w (sepR (rowR 75 3 (.slice a n c) n (slotCells l)) noneR) w' []
set_option maxHeartbeats 1000000 in
theorem clone_any (w : World) (a : Option Addr) (n cap : Nat) (l : List Slot3) (hl : SlAt slEnc 3 w a n cap l) (hn : n ≤ 4096) (hnil : a = none → n = 0 ∧ cap = 0) : Calls Try.prog 30 #[.slice a n cap] w (CloneS l n w) := by
  have hl1 := hl.1
  have qT : ∀ (w : World) (a : Option Addr) (n c n' c' : Nat), (binOp .eql 66 (.slice a n c) (.slice none n' c')).run Try.prog w = .ok (.bool a.isNone) w := fun w a n c n' c' => Lib.run_eql_slice_nil w _ _ a n c n' c' Try.underlying66
  cases a with
  | none =>
    obtain ⟨rfl, rfl⟩ := hnil rfl
    have hle : l = [] := List.eq_nil_of_length_eq_zero hl1
    subst hle
    have H0 := Lib.hid ((Holds.start w).nilRow 75 3)
    clear hl hl1 hnil
    go_enter Try.func30, Try.ntmps30
    go_wp2_with fail
    go_ret
    exact ⟨none, 0, rfl, H0.out⟩
  | some ad =>
    have Hl := Lib.hid hl
    have H0 := Lib.hid ((Holds.start w).emptyRow noneR_stable 75 3)
    clear hl hl1 hnil
    go_enter Try.func30, Try.ntmps30
    go_wp2_with (at_builtin; refine Stop.of ?_)
    refine Stop.go ?_
    obtain ⟨i1, hj0, hj1, hj2, hj3⟩ := info_parts infoSlot
    have h5 := H0.out
    refine wpList_append_sl (enc := slEnc) _ rfl _ _ 66 rfl 75 i1 (.agg #[.int .i64 0, .int .i64 0, .int .i64 0]) 3 24 Try.underlying66 hj0 hj1 hj2 hj3 rfl (by decide) (.slice (some ⟨w.heap.size, 0, none⟩) 0 0) 0 [] rfl h5.row (some ad) n cap l rfl (Hl.out.frm ((Frm.refl _ _).alloc _)) (by simp) slEnc_len slEnc_one (by unfold maxLen; omega) (by omega) ?_
    intro a3 c3 w3 hown hF hnew
    have hs1 := h5.appended noneR_stable hown hF hnew
    simp only [Nat.zero_add, List.nil_append, flat_sl] at hs1 ⊢
    have HS1 := Lib.hid hs1
    clear hown hF hnew h5 hs1 hj0 hj1 hj2 hj3
    go_wp2_with fail
    go_ret
    exact ⟨a3, c3, rfl, HS1.out⟩

section
variable {b : Nat} {s : St} {w w0 : World} {B : Nat} {L : List (Nat × Obj)} {Q : World → List Nat → Prop}
theorem Holds.slabAt (h : Holds B w0 (sepR (slabR b s) Q) w L) : ∃ sv fv, SlabAt w b s sv fv := by
  obtain ⟨F, h, _⟩ := h
  obtain ⟨F1, F2, ⟨sv, fv, hS, _⟩, _⟩ := h.res
  exact ⟨sv, fv, hS⟩
/-- What All does: the slots' copy, in a box; a function of it. -/
def AllDoes (n : Nat) (l : List Slot3) (w : World) (e : Ending) (w' : World) : Prop :=
  ∃ (a : Option Addr) (c g : Nat), e = .returned (.func (.func 33) #[] #[.pointer (some ⟨g, 0, none⟩)]) ∧ w.heap.size ≤ g ∧ Holds w.heap.size w (sepR (rowR 75 3 (.slice a n c) n (slotCells l)) noneR) w' [(g, .cells #[.slice a n c] 66)]
set_option maxHeartbeats 1000000 in
theorem all_any {sv fv : Value} (h : SlabAt w b s sv fv) (ho : s.Ok) : Calls Try.prog 16 #[.pointer (some ⟨b, 0, none⟩)] w (AllDoes s.slots.length s.slots w) := by
  have h1 := ho.len
  have h2 := ho.room
  have c2 := h.c2
  have z0 := lt_of_obj h.box
  obtain ⟨a, cap, rfl⟩ := row_slice h.rowS
  have hrow := h.rowS
  rw [← flat_sl] at hrow
  have hnil : a = none → s.slots.length = 0 ∧ cap = 0 := fun ha => by
    subst ha
    rcases row_nil_or hrow with ⟨hv, _⟩ | ⟨g, cc, hv, _⟩
    · simp only [Value.slice.injEq] at hv
      exact ⟨hv.2.1, hv.2.2⟩
    · simp at hv
  have hc := clone_any w a s.slots.length cap s.slots (SlAt.of_row slEnc_len hrow rfl) (by omega) hnil
  have Hc := Lib.hid hc
  clear h hrow hnil hc ho
  go_enter Try.func16, Try.ntmps16
  go_wp2_with fail
  refine Hc.out.mono ?_
  rintro e w1 ⟨a1, c1, rfl, h3⟩
  have H3 := Lib.hid (h3.alloc (sepR_stable (rowR_stable _ _ _ _ _) noneR_stable) (.cells #[.slice a1 s.slots.length c1] 66))
  have Hle := Lib.hid h3.le
  clear h3
  go_wp2_with fail
  go_ret
  exact ⟨a1, c1, w1.heap.size, rfl, Hle.out, H3.out⟩
end

/-- What slots hold, with their numbers. -/
def heldL : List Slot3 → Nat → List (Nat × Int × Int)
  | [], _ => []
  | (c, t, v) :: l, i => if c = 0 then heldL l (i + 1) else (i, t, v) :: heldL l (i + 1)
theorem heldL_more (l : List Slot3) (i : Nat) (c t v : Int) : heldL (l ++ [(c, t, v)]) i = if c = 0 then heldL l i else heldL l i ++ [(i + l.length, t, v)] := by
  induction l generalizing i with
  | nil => by_cases hc : c = 0 <;> simp [heldL, hc]
  | cons x l ih =>
    obtain ⟨c', t', v'⟩ := x
    simp only [List.cons_append, heldL, ih, List.length_cons]
    by_cases hc : c = 0
    · simp [hc]
    · by_cases hc' : c' = 0
      · simp [hc, hc']; omega
      · simp [hc, hc']; omega
theorem heldL_len (l : List Slot3) (i : Nat) : (heldL l i).length ≤ l.length := by
  induction l generalizing i with
  | nil => simp [heldL]
  | cons x l ih =>
    obtain ⟨c, t, v⟩ := x
    have := ih (i + 1)
    by_cases hc : c = 0
    · simp [heldL, hc]; omega
    · simp [heldL, hc]; omega
theorem heldL_take (l : List Slot3) : ∀ (k i : Nat), heldL (l.take k) i = (heldL l i).take (heldL (l.take k) i).length := by
  induction l with
  | nil => intro k i; simp [heldL]
  | cons x l ih =>
    intro k i
    obtain ⟨c, t, v⟩ := x
    cases k with
    | zero => simp [heldL]
    | succ k =>
      have := ih k (i + 1)
      by_cases hc : c = 0
      · simpa [heldL, hc] using this
      · simpa [heldL, hc] using this
end Go.Proofs.Ytpfolcoijncfjaa
