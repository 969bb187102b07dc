/- What is left of messages in another order, or in parts: plain facts on lists. -/
import Derived.Test.YtagldjlaagphlaaKeysLeast
namespace Go.Proofs.Ytagldjlaagphlaa
open Go.RowKit Go.Maps

/-- Going round. -/
def rot (l : List Mv) (j : Nat) : List Mv := l.drop j ++ l.take j
theorem rot_perm (l : List Mv) (j : Nat) : (rot l j).Perm l := by
  unfold rot
  exact List.perm_append_comm.trans (by rw [List.take_append_drop])
theorem rot_len (l : List Mv) (j : Nat) : (rot l j).length = l.length := (rot_perm l j).length_eq
theorem rot_get {l : List Mv} {j i : Nat} (hj : j < l.length) (hi : i < l.length) : (rot l j)[i]? = l[(j + i) % l.length]? := by
  unfold rot
  by_cases h : j + i < l.length
  · rw [Nat.mod_eq_of_lt h, List.getElem?_append_left (by rw [List.length_drop]; omega), List.getElem?_drop]
  · rw [List.getElem?_append_right (by rw [List.length_drop]; omega), List.length_drop, List.getElem?_take, if_pos (by omega)]
    congr 1
    rw [show j + i = (j + i - l.length) + l.length by omega, Nat.add_mod_right, Nat.mod_eq_of_lt (by omega)]
    omega
theorem leftOf_perm {l m : List Mv} (h : l.Perm m) : (leftOf l).Perm (leftOf m) := by
  unfold leftOf
  have he : (fun x : Mv => cnt l x.id == 1) = fun x => cnt m x.id == 1 := by
    funext x
    rw [cnt_perm h]
  rw [he]
  exact h.filter _
theorem settled_perm {l m : List Mv} (h : l.Perm m) : (settled l).Perm (settled m) ∧ errOf l = errOf m := by
  unfold settled errOf
  rw [clash_perm h]
  split
  · exact ⟨List.Perm.refl _, rfl⟩
  · exact ⟨leftOf_perm h, rfl⟩
theorem cnt_leftOf (p : List Mv) (i : Iv) : cnt (leftOf p) i = if cnt p i = 1 then 1 else 0 := by
  have h : cnt (leftOf p) i = p.countP (fun m => decide (m.id = i) && (cnt p m.id == 1)) := by
    unfold cnt leftOf
    rw [List.countP_filter]
    rfl
  rw [h]
  by_cases hc : cnt p i = 1
  · rw [if_pos hc]
    have he : p.countP (fun m => decide (m.id = i) && (cnt p m.id == 1)) = p.countP (fun m => decide (m.id = i)) := by
      refine List.countP_congr fun m _ => ?_
      simp only [Bool.and_eq_true, decide_eq_true_eq, beq_iff_eq]
      exact ⟨fun h => h.1, fun h => ⟨h, by rw [h]; exact hc⟩⟩
    rw [he]
    exact hc
  · rw [if_neg hc, List.countP_eq_zero]
    intro m _
    simp only [Bool.and_eq_true, decide_eq_true_eq, beq_iff_eq]
    rintro ⟨rfl, h'⟩
    exact hc h'
theorem left_parts {p q : List Mv} (h : clash (p ++ q) = false) : clash (leftOf p ++ q) = false ∧ leftOf (leftOf p ++ q) = leftOf (p ++ q) := by
  refine ⟨clash_sub (List.Sublist.append_right (List.filter_sublist ..) q) h, ?_⟩
  have h3 := fun i => cnt_three h i
  simp only [cnt_append] at h3
  unfold leftOf
  rw [List.filter_append, List.filter_append, List.filter_filter]
  congr 1
  · refine List.filter_congr fun x hx => ?_
    have hp := cnt_mem hx
    have e1 := cnt_leftOf p x.id
    unfold leftOf at e1
    rw [Bool.eq_iff_iff]
    simp only [Bool.and_eq_true, beq_iff_eq, cnt_append, e1]
    constructor
    · rintro ⟨a, b⟩
      rw [if_pos b] at a
      omega
    · intro a
      have hx1 : cnt p x.id = 1 := by omega
      rw [if_pos hx1]
      omega
  · refine List.filter_congr fun x hx => ?_
    have hq := cnt_mem hx
    have e1 := cnt_leftOf p x.id
    unfold leftOf at e1
    have h4 := h3 x.id
    rw [Bool.eq_iff_iff]
    simp only [beq_iff_eq, cnt_append, e1]
    split <;> omega
theorem settled_parts {p q : List Mv} (h : clash (p ++ q) = false) : settled p = leftOf p ∧ errOf p = 0 ∧ settled (leftOf p ++ q) = leftOf (p ++ q) ∧ errOf (leftOf p ++ q) = 0 := by
  have h1 := settle_good (clash_left h)
  have h2 := left_parts h
  have h3 := settle_good h2.1
  exact ⟨h1.1, h1.2, h3.1.trans h2.2, h3.2⟩
/-- Of what is left no two meet. -/
theorem left_apart {l : List Mv} {i k : Nat} {a b : Mv} (hi : (leftOf l)[i]? = some a) (hk : (leftOf l)[k]? = some b) (hne : i ≠ k) : a.meets b = false := by
  cases h : a.meets b
  · rfl
  · exfalso
    have hid := meets_id h
    have hc : cnt (leftOf l) a.id = 1 := by
      have h1 := cnt_leftOf l a.id
      have h2 := (List.mem_filter.1 (List.mem_of_getElem? hi)).2
      rw [beq_iff_eq] at h2
      rw [h1, if_pos h2]
    exact hne (cnt_one_idx hc hi hk rfl hid.symm)
theorem rem_nat (j i n : Nat) : ((j : Int) + (i : Int)).tmod (n : Int) = (((j + i) % n : Nat) : Int) := by
  rw [Int.tmod_eq_emod_of_nonneg (by omega), Int.natCast_emod, Int.natCast_add]

theorem Holds.row2 {A Q : World → List Nat → Prop} {B : Nat} {w0 w : World} {L : List (Nat × Obj)} {e : TypeId} {size : Nat} {v : Value} {n : Nat} {xs : List Value} (h : Holds B w0 (sepR A (sepR (rowR e size v n xs) Q)) w L) : w.ownsRow 0 e size v n xs := by
  obtain ⟨F, h, _⟩ := h
  obtain ⟨F1, F2, _, ⟨F3, F4, hR, _⟩, _⟩ := h.res
  exact hR.1
theorem Holds.row3 {A A' Q : World → List Nat → Prop} {B : Nat} {w0 w : World} {L : List (Nat × Obj)} {e : TypeId} {size : Nat} {v : Value} {n : Nat} {xs : List Value} (h : Holds B w0 (sepR A (sepR A' (sepR (rowR e size v n xs) Q))) w L) : w.ownsRow 0 e size v n xs := by
  obtain ⟨F, h, _⟩ := h
  obtain ⟨F1, F2, _, ⟨F3, F4, _, ⟨F5, F6, hR, _⟩, _⟩, _⟩ := h.res
  exact hR.1
/-- What Settle does, its length under a name. -/
def SettleGoesN (s : List Mv) (n : Nat) (er : Int) (B : Nat) (w0 : World) (R : World → List Nat → Prop) (L : List (Nat × Obj)) (e : Ending) (w' : World) : Prop :=
  ∃ (a : Option Addr) (c : Nat), e = .returned (.tuple #[.slice a n c, .int .i64 er]) ∧ Holds B w0 (sepR (rowR 51 8 (.slice a n c) n (msgCells s)) R) w' L
theorem settle_goesN {R : World → List Nat → Prop} {B : Nat} {w0 w : World} {L : List (Nat × Obj)} (hR : Stable R) (h : Holds B w0 R w L) {a : Option Addr} {n cap : Nat} {l : List Mv} (hl : MsgsAt w a n cap l) (hn : n ≤ 200) {s : List Mv} {er : Int} (hs : settled l = s) (he : errOf l = er) {k : Nat} (hk : s.length = k) :
    Calls Try.prog 21 #[.slice a n cap] w (SettleGoesN s k er B w0 R L) := by
  subst hk
  exact settle_goes hR h hl hn hs he
theorem row_addr {w : World} {base : Nat} {e : TypeId} {size : Nat} {a : Option Addr} {n c : Nat} {xs : List Value} (h : w.ownsRow base e size (.slice a n c) n xs) (hn : 0 < n) : ∃ g, a = some ⟨g, 0, none⟩ ∧ g < w.heap.size ∧ n ≤ c := by
  obtain ⟨g, cc, hv, h1, h2, _⟩ := row_some h hn
  simp only [Value.slice.injEq] at hv
  obtain ⟨rfl, _, rfl⟩ := hv
  exact ⟨g, rfl, h1, h2⟩
end Go.Proofs.Ytagldjlaagphlaa
