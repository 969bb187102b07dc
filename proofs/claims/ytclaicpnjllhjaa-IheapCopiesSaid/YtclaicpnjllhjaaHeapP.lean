/- A heap of things by keys: plain facts on lists. -/
import Derived.Test.YtclaicpnjllhjaaKvA
namespace Go.Proofs.Ytclaicpnjllhjaa

structure Ent where
  k : Kv
  v : Int
deriving DecidableEq

/-- a's key is not behind b's, where both are there. -/
def kle (l : List Ent) (a b : Nat) : Prop := ∀ x y, l[a]? = some x → l[b]? = some y → y.k.lt x.k = false
def aheadL (l : List Ent) (i j : Nat) : Bool := match l[i]?, l[j]? with | some x, some y => x.k.lt y.k | _, _ => false
theorem aheadL_eq {l : List Ent} {i j : Nat} {x y : Ent} (hx : l[i]? = some x) (hy : l[j]? = some y) : aheadL l i j = x.k.lt y.k := by unfold aheadL; rw [hx, hy]
theorem ahead_kle {l : List Ent} {i j : Nat} (h : aheadL l i j = true) : kle l i j := by
  intro x y hx hy
  rw [aheadL_eq hx hy] at h
  exact lt_asymm h
theorem not_ahead_kle {l : List Ent} {i j : Nat} (h : aheadL l i j = false) : kle l j i := by
  intro x y hx hy
  rw [aheadL_eq hy hx] at h
  exact h
theorem ahead_lt {l : List Ent} {i j : Nat} (h : aheadL l i j = true) : i < l.length ∧ j < l.length := by
  unfold aheadL at h
  split at h
  · rename_i x y hx hy
    exact ⟨(List.getElem?_eq_some_iff.1 hx).1, (List.getElem?_eq_some_iff.1 hy).1⟩
  · cases h
theorem kle_trans {l : List Ent} {a b c : Nat} (hb : b < l.length) (h : kle l a b) (h' : kle l b c) : kle l a c := by
  intro x z hx hz
  exact le_trans' (h x _ hx (List.getElem?_eq_getElem hb)) (h' _ z (List.getElem?_eq_getElem hb) hz)

def swapL (l : List Ent) (i j : Nat) : List Ent := match l[i]?, l[j]? with | some x, some y => (l.set i y).set j x | _, _ => l
def tr (i j c : Nat) : Nat := if c = j then i else if c = i then j else c
theorem swapL_eq {l : List Ent} {i j : Nat} {x y : Ent} (hx : l[i]? = some x) (hy : l[j]? = some y) : swapL l i j = (l.set i y).set j x := by unfold swapL; rw [hx, hy]
theorem swapL_length (l : List Ent) (i j : Nat) : (swapL l i j).length = l.length := by
  unfold swapL
  split <;> simp
theorem swapL_get {l : List Ent} {i j : Nat} (hi : i < l.length) (hj : j < l.length) (c : Nat) : (swapL l i j)[c]? = l[tr i j c]? := by
  rw [swapL_eq (List.getElem?_eq_getElem hi) (List.getElem?_eq_getElem hj), List.getElem?_set, List.getElem?_set]
  unfold tr
  by_cases h1 : j = c
  · subst h1; simp [hi, hj]
  · have h1' : ¬ c = j := fun e => h1 e.symm
    by_cases h2 : i = c
    · subst h2; simp [hi, h1, h1']
    · have h2' : ¬ c = i := fun e => h2 e.symm
      simp [h1, h1', h2, h2']
theorem swapL_perm {l : List Ent} {i j : Nat} (hi : i < l.length) (hj : j < l.length) : (swapL l i j).Perm l := by
  rw [swapL_eq (List.getElem?_eq_getElem hi) (List.getElem?_eq_getElem hj)]
  exact List.set_set_perm hi hj
theorem kle_swap {l : List Ent} {i j : Nat} (hi : i < l.length) (hj : j < l.length) {a b : Nat} (h : kle l (tr i j a) (tr i j b)) : kle (swapL l i j) a b := by
  intro x y hx hy
  rw [swapL_get hi hj] at hx hy
  exact h x y hx hy

def HeapL (l : List Ent) : Prop := ∀ c, 0 < c → kle l ((c - 1) / 2) c
theorem heap_least {l : List Ent} (h : HeapL l) : ∀ c, c < l.length → kle l 0 c
  | 0, hc => by intro x y hx hy; rw [hx] at hy; cases hy; exact lt_irrefl _
  | c + 1, hc => kle_trans (b := c / 2) (by omega) (heap_least h (c / 2) (by omega)) (h (c + 1) (by omega))
termination_by c => c

/-- All is in order but for what stands at i, and what is above it. -/
def UpOk (l : List Ent) (i : Nat) : Prop := (∀ c, c ≠ i → 0 < c → kle l ((c - 1) / 2) c) ∧ (0 < i → ∀ c, 0 < c → (c - 1) / 2 = i → kle l ((i - 1) / 2) c)
def DownOk (l : List Ent) (i : Nat) : Prop := (∀ c, 0 < c → (c - 1) / 2 ≠ i → kle l ((c - 1) / 2) c) ∧ (0 < i → ∀ c, 0 < c → (c - 1) / 2 = i → kle l ((i - 1) / 2) c)
def HoleOk (l : List Ent) (i : Nat) : Prop := (∀ c, 0 < c → c ≠ i → (c - 1) / 2 ≠ i → kle l ((c - 1) / 2) c) ∧ (0 < i → ∀ c, 0 < c → (c - 1) / 2 = i → kle l ((i - 1) / 2) c)

theorem tr_other {i j c : Nat} (h1 : c ≠ i) (h2 : c ≠ j) : tr i j c = c := by unfold tr; rw [if_neg h2, if_neg h1]
theorem tr_left {i j : Nat} : tr i j i = j := by unfold tr; split <;> simp_all
theorem tr_right {i j : Nat} : tr i j j = i := by unfold tr; simp

theorem up_step {l : List Ent} {i : Nat} (h : UpOk l i) (h0 : 0 < i) (ha : aheadL l i ((i - 1) / 2) = true) : UpOk (swapL l i ((i - 1) / 2)) ((i - 1) / 2) := by
  obtain ⟨h1, h2⟩ := h
  obtain ⟨hi, hp⟩ := ahead_lt ha
  have hk := ahead_kle ha
  generalize hpp : (i - 1) / 2 = p at *
  have hpi : p < i := by omega
  refine ⟨fun c hc hc0 => kle_swap hi hp ?_, fun hp0 c hc0 hcp => kle_swap hi hp ?_⟩
  · by_cases e1 : c = i
    · subst e1
      rw [hpp, tr_right, tr_left]
      exact hk
    · rw [tr_other e1 hc]
      by_cases e2 : (c - 1) / 2 = p
      · rw [e2, tr_right]
        exact kle_trans hp hk (by have := h1 c e1 hc0; rwa [e2] at this)
      · by_cases e3 : (c - 1) / 2 = i
        · rw [e3, tr_left]
          exact h2 h0 c hc0 e3
        · rw [tr_other e3 e2]
          exact h1 c e1 hc0
  · rw [tr_other (c := (p - 1) / 2) (by omega) (by omega)]
    have hpk := h1 p (by omega) hp0
    by_cases e1 : c = i
    · subst e1
      rw [tr_left]
      exact hpk
    · rw [tr_other e1 (by omega)]
      refine kle_trans hp hpk ?_
      have := h1 c e1 hc0
      rwa [hcp] at this
theorem up_end {l : List Ent} {i : Nat} (h : UpOk l i) (he : 0 < i → aheadL l i ((i - 1) / 2) = false) : HeapL l := by
  intro c hc
  by_cases e : c = i
  · subst e; exact not_ahead_kle (he hc)
  · exact h.1 c e hc

def riseL (l : List Ent) (i : Nat) : List Ent := if _h : 0 < i ∧ aheadL l i ((i - 1) / 2) = true then riseL (swapL l i ((i - 1) / 2)) ((i - 1) / 2) else l
termination_by i
decreasing_by omega
theorem riseL_step {l : List Ent} {i : Nat} (h0 : 0 < i) (h : aheadL l i ((i - 1) / 2) = true) : riseL l i = riseL (swapL l i ((i - 1) / 2)) ((i - 1) / 2) := by
  rw [riseL, dif_pos ⟨h0, h⟩]
theorem riseL_end {l : List Ent} {i : Nat} (h : ¬ (0 < i ∧ aheadL l i ((i - 1) / 2) = true)) : riseL l i = l := by
  rw [riseL, dif_neg h]
theorem riseL_perm (l : List Ent) (i : Nat) : (riseL l i).Perm l := by
  induction i using Nat.strongRecOn generalizing l with
  | ind i ih =>
    by_cases h : 0 < i ∧ aheadL l i ((i - 1) / 2) = true
    · rw [riseL_step h.1 h.2]
      obtain ⟨hi, hp⟩ := ahead_lt h.2
      exact (ih _ (by omega) _).trans (swapL_perm hi hp)
    · rw [riseL_end h]
theorem riseL_heap (l : List Ent) (i : Nat) (hu : UpOk l i) : HeapL (riseL l i) := by
  induction i using Nat.strongRecOn generalizing l with
  | ind i ih =>
    by_cases h : 0 < i ∧ aheadL l i ((i - 1) / 2) = true
    · rw [riseL_step h.1 h.2]
      exact ih _ (by omega) _ (up_step hu h.1 h.2)
    · rw [riseL_end h]
      refine up_end hu fun h0 => ?_
      cases ha : aheadL l i ((i - 1) / 2)
      · rfl
      · exact absurd ⟨h0, ha⟩ h

def first1 (l : List Ent) (i : Nat) : Nat := if aheadL l (2 * i + 1) i = true then 2 * i + 1 else i
def firstL (l : List Ent) (i : Nat) : Nat := if aheadL l (2 * i + 2) (first1 l i) = true then 2 * i + 2 else first1 l i
theorem first1_spec (l : List Ent) (i : Nat) (hi : i < l.length) : first1 l i < l.length ∧ kle l (first1 l i) i ∧ kle l (first1 l i) (2 * i + 1) ∧ (first1 l i = i ∨ first1 l i = 2 * i + 1) := by
  unfold first1
  split
  · rename_i h
    exact ⟨(ahead_lt h).1, ahead_kle h, by intro x y hx hy; rw [hx] at hy; cases hy; exact lt_irrefl _, .inr rfl⟩
  · rename_i h
    exact ⟨hi, by intro x y hx hy; rw [hx] at hy; cases hy; exact lt_irrefl _, not_ahead_kle (by simpa using h), .inl rfl⟩
theorem firstL_spec (l : List Ent) (i : Nat) (hi : i < l.length) : firstL l i < l.length ∧ kle l (firstL l i) i ∧ kle l (firstL l i) (2 * i + 1) ∧ kle l (firstL l i) (2 * i + 2) ∧ (firstL l i = i ∨ firstL l i = 2 * i + 1 ∨ firstL l i = 2 * i + 2) := by
  obtain ⟨h1, h2, h3, h4⟩ := first1_spec l i hi
  unfold firstL
  split
  · rename_i h
    have hk := ahead_kle h
    exact ⟨(ahead_lt h).1, kle_trans h1 hk h2, kle_trans h1 hk h3, by intro x y hx hy; rw [hx] at hy; cases hy; exact lt_irrefl _, .inr (.inr rfl)⟩
  · rename_i h
    exact ⟨h1, h2, h3, not_ahead_kle (by simpa using h), by rcases h4 with h4 | h4 <;> simp [h4]⟩
theorem firstL_ge (l : List Ent) (i : Nat) (h : firstL l i ≠ i) : i < firstL l i ∧ firstL l i < l.length ∧ i < l.length ∧ (firstL l i = 2 * i + 1 ∨ firstL l i = 2 * i + 2) := by
  by_cases hi : i < l.length
  · obtain ⟨h1, _, _, _, h5⟩ := firstL_spec l i hi
    refine ⟨?_, h1, hi, ?_⟩
    · rcases h5 with h5 | h5 | h5
      · exact absurd h5 h
      · omega
      · omega
    · rcases h5 with h5 | h5 | h5
      · exact absurd h5 h
      · exact .inl h5
      · exact .inr h5
  · exfalso
    have hn : ∀ a, aheadL l a i = false := fun a => by
      cases ha : aheadL l a i
      · rfl
      · exact absurd (ahead_lt ha).2 hi
    apply h
    have e1 : first1 l i = i := by unfold first1; rw [hn]; rfl
    unfold firstL
    rw [e1, hn]; rfl
def sinkL (l : List Ent) (i : Nat) : List Ent := if h : firstL l i ≠ i then sinkL (swapL l i (firstL l i)) (firstL l i) else l
termination_by l.length - i
decreasing_by
  have := firstL_ge l i h
  rw [swapL_length]
  omega
theorem sinkL_step {l : List Ent} {i : Nat} (h : firstL l i ≠ i) : sinkL l i = sinkL (swapL l i (firstL l i)) (firstL l i) := by
  rw [sinkL, dif_pos h]
theorem sinkL_end {l : List Ent} {i : Nat} (h : firstL l i = i) : sinkL l i = l := by
  rw [sinkL, dif_neg (fun hn => hn h)]
theorem down_step {l : List Ent} {i : Nat} (h : DownOk l i) (hf : firstL l i ≠ i) : DownOk (swapL l i (firstL l i)) (firstL l i) := by
  obtain ⟨h1, h2⟩ := h
  obtain ⟨h3, h4, h5, h6⟩ := firstL_ge l i hf
  obtain ⟨_, s1, s2, s3, _⟩ := firstL_spec l i h5
  generalize firstL l i = f at *
  have hch : ∀ c, 0 < c → (c - 1) / 2 = i → kle l f c := fun c hc hci => by
    have : c = 2 * i + 1 ∨ c = 2 * i + 2 := by omega
    rcases this with rfl | rfl
    · exact s2
    · exact s3
  refine ⟨fun c hc0 hcf => kle_swap h5 h4 ?_, fun hf0 c hc0 hcf => kle_swap h5 h4 ?_⟩
  · by_cases e1 : (c - 1) / 2 = i
    · rw [e1, tr_left]
      by_cases e2 : c = f
      · subst e2; rw [tr_right]; exact s1
      · rw [tr_other (by omega) e2]; exact hch c hc0 e1
    · rw [tr_other e1 hcf]
      by_cases e2 : c = i
      · subst e2
        rw [tr_left]
        exact h2 hc0 f (by omega) (by omega)
      · rw [tr_other e2 (by intro e; subst e; omega)]
        exact h1 c hc0 e1
  · rw [show (f - 1) / 2 = i by omega, tr_left, tr_other (by omega) (by omega)]
    have := h1 c hc0 (by omega)
    rwa [hcf] at this
theorem down_end {l : List Ent} {i : Nat} (hi : i < l.length) (h : DownOk l i) (hf : firstL l i = i) : HeapL l := by
  obtain ⟨_, s1, s2, s3, _⟩ := firstL_spec l i hi
  rw [hf] at s2 s3
  intro c hc
  by_cases e : (c - 1) / 2 = i
  · rw [e]
    have : c = 2 * i + 1 ∨ c = 2 * i + 2 := by omega
    rcases this with rfl | rfl
    · exact s2
    · exact s3
  · exact h.1 c hc e
theorem sinkL_perm (l : List Ent) (i : Nat) : (sinkL l i).Perm l := by
  generalize hn : l.length - i = n
  induction n using Nat.strongRecOn generalizing l i with
  | ind n ih =>
    by_cases h : firstL l i = i
    · rw [sinkL_end h]
    · rw [sinkL_step h]
      obtain ⟨h3, h4, h5, _⟩ := firstL_ge l i h
      exact (ih _ (by rw [swapL_length]; omega) _ _ rfl).trans (swapL_perm h5 h4)
theorem sinkL_heap (l : List Ent) (i : Nat) (hi : i < l.length) (hd : DownOk l i) : HeapL (sinkL l i) := by
  generalize hn : l.length - i = n
  induction n using Nat.strongRecOn generalizing l i with
  | ind n ih =>
    by_cases h : firstL l i = i
    · rw [sinkL_end h]
      exact down_end hi hd h
    · rw [sinkL_step h]
      obtain ⟨h3, h4, h5, _⟩ := firstL_ge l i h
      exact ih _ (by rw [swapL_length]; omega) _ _ (by rw [swapL_length]; exact h4) (down_step hd h) rfl

/-- Behind a removal: what stood last stands at i now. -/
theorem hole_heap {l : List Ent} {i : Nat} (hi : i < l.length) (h : HoleOk l i) : HeapL (sinkL (riseL l i) i) := by
  obtain ⟨h1, h2⟩ := h
  have hlen : (riseL l i).length = l.length := (riseL_perm l i).length_eq
  by_cases hc : 0 < i ∧ aheadL l i ((i - 1) / 2) = true
  · obtain ⟨h0, ha⟩ := hc
    have hk := ahead_kle ha
    have hp := (ahead_lt ha).2
    have hu : UpOk l i := by
      refine ⟨fun c hci hc0 => ?_, h2⟩
      by_cases e : (c - 1) / 2 = i
      · rw [e]; exact kle_trans hp hk (h2 h0 c hc0 e)
      · exact h1 c hc0 hci e
    have hh := riseL_heap l i hu
    refine sinkL_heap _ i (by rw [hlen]; exact hi) ⟨fun c hc0 _ => hh c hc0, fun h0 c hc0 e => ?_⟩
    have h5 := hh c hc0
    rw [e] at h5
    exact kle_trans (by rw [hlen]; exact hi) (hh i h0) h5
  · rw [riseL_end hc]
    refine sinkL_heap l i hi ⟨fun c hc0 e => ?_, h2⟩
    by_cases e2 : c = i
    · subst e2
      refine not_ahead_kle ?_
      cases ha : aheadL l c ((c - 1) / 2)
      · rfl
      · exact absurd ⟨hc0, ha⟩ hc
    · exact h1 c hc0 e2 e
/-- The list behind a removal. -/
def removeL (l : List Ent) (i : Nat) : List Ent :=
  if i < l.length - 1 then sinkL (riseL ((swapL l i (l.length - 1)).take (l.length - 1)) i) i else (swapL l i (l.length - 1)).take (l.length - 1)
theorem kle_take {l : List Ent} {n a b : Nat} (h : kle l a b) : kle (l.take n) a b := by
  intro x y hx hy
  rw [List.getElem?_take] at hx hy
  split at hx
  · split at hy
    · exact h x y hx hy
    · cases hy
  · cases hx
theorem kle_cut {l : List Ent} {n a b : Nat} (h : b < n → kle l a b) : kle (l.take n) a b := by
  intro x y hx hy
  have hb : b < n := by
    rw [List.getElem?_take] at hy
    split at hy
    · assumption
    · cases hy
  exact kle_take (h hb) x y hx hy
theorem removeL_heap {l : List Ent} {i : Nat} (h : HeapL l) (hi : i < l.length) : HeapL (removeL l i) := by
  have hl : l.length - 1 < l.length := by omega
  unfold removeL
  split
  · rename_i hlt
    refine hole_heap (by rw [List.length_take, swapL_length]; omega) ⟨fun c hc0 hci hpi => kle_cut fun hb => kle_swap hi hl ?_, fun h0 c hc0 e => kle_cut fun hb => kle_swap hi hl ?_⟩
    · rw [tr_other hci (by omega), tr_other hpi (by omega)]
      exact h c hc0
    · rw [tr_other (c := (i - 1) / 2) (by omega) (by omega), tr_other (c := c) (by omega) (by omega)]
      refine kle_trans hi (h i h0) ?_
      have := h c hc0
      rwa [e] at this
  · rename_i hge
    intro c hc0
    refine kle_cut fun hb => kle_swap hi hl ?_
    rw [tr_other (by omega) (by omega), tr_other (by omega) (by omega)]
    exact h c hc0
theorem removeL_perm {l : List Ent} {i : Nat} {x : Ent} (hx : l[i]? = some x) : l.Perm (x :: removeL l i) := by
  have hi : i < l.length := (List.getElem?_eq_some_iff.1 hx).1
  have hl : l.length - 1 < l.length := by omega
  have hs := swapL_perm hi hl
  have hlast : (swapL l i (l.length - 1))[l.length - 1]? = some x := by rw [swapL_get hi hl, tr_right]; exact hx
  have hcut : (swapL l i (l.length - 1)).take (l.length - 1) ++ [x] = swapL l i (l.length - 1) := by
    have h1 := List.take_append_drop (l.length - 1) (swapL l i (l.length - 1))
    rw [List.drop_eq_getElem_cons (by rw [swapL_length]; exact hl), List.drop_eq_nil_of_le (by rw [swapL_length]; omega)] at h1
    rw [List.getElem?_eq_getElem (by rw [swapL_length]; exact hl)] at hlast
    rw [Option.some.inj hlast] at h1
    exact h1
  have h1 : l.Perm (x :: (swapL l i (l.length - 1)).take (l.length - 1)) := by
    have h2 : ((swapL l i (l.length - 1)).take (l.length - 1) ++ [x]).Perm (x :: (swapL l i (l.length - 1)).take (l.length - 1)) := List.perm_append_comm
    rw [hcut] at h2
    exact hs.symm.trans h2
  refine h1.trans (List.Perm.cons x ?_)
  unfold removeL
  split
  · exact ((sinkL_perm _ _).trans (riseL_perm _ _)).symm
  · exact List.Perm.refl _
theorem removeL_length {l : List Ent} {i : Nat} (hi : i < l.length) : (removeL l i).length = l.length - 1 := by
  have := (removeL_perm (List.getElem?_eq_getElem hi)).length_eq
  simp only [List.length_cons] at this
  omega
/-- The list behind a push. -/
def pushL (l : List Ent) (x : Ent) : List Ent := riseL (l ++ [x]) l.length
theorem pushL_perm (l : List Ent) (x : Ent) : (pushL l x).Perm (x :: l) := (riseL_perm _ _).trans List.perm_append_comm
theorem pushL_heap {l : List Ent} (x : Ent) (h : HeapL l) : HeapL (pushL l x) := by
  refine riseL_heap _ _ ⟨fun c hcl hc0 a b ha hb => ?_, fun h0 c hc0 e a b ha hb => ?_⟩
  · have hc := (List.getElem?_eq_some_iff.1 hb).1
    rw [List.length_append, List.length_singleton] at hc
    rw [List.getElem?_append_left (by omega)] at ha hb
    exact h c hc0 a b ha hb
  · have hc := (List.getElem?_eq_some_iff.1 hb).1
    rw [List.length_append, List.length_singleton] at hc
    omega

/-- In order, no two of one key. -/
def Srt (S : List Ent) : Prop := S.Pairwise fun a b => a.k.lt b.k = true
theorem srt_cons {a : Ent} {S : List Ent} : Srt (a :: S) ↔ (∀ b ∈ S, a.k.lt b.k = true) ∧ Srt S := List.pairwise_cons
theorem srt_unique : ∀ {l r : List Ent}, Srt l → Srt r → l.Perm r → l = r
  | [], r, _, _, h => by rw [List.nil_perm] at h; exact h.symm
  | a :: l, [], _, _, h => by have := h.length_eq; simp at this
  | a :: l, b :: r, ha, hb, h => by
    have ha' := srt_cons.1 ha
    have hb' := srt_cons.1 hb
    have e : a = b := by
      have h1 : a ∈ b :: r := h.mem_iff.1 (by simp)
      have h2 : b ∈ a :: l := h.mem_iff.2 (by simp)
      rcases List.mem_cons.1 h1 with e | h1
      · exact e
      · rcases List.mem_cons.1 h2 with e | h2
        · exact e.symm
        · have h3 := hb'.1 a h1
          have h4 := ha'.1 b h2
          rw [lt_asymm h3] at h4
          cases h4
    subst e
    rw [srt_unique ha'.2 hb'.2 (List.Perm.cons_inv h)]
theorem srt_key {S : List Ent} (h : Srt S) {a b : Ent} (ha : a ∈ S) (hb : b ∈ S) (e : a.k = b.k) : a = b := by
  induction S with
  | nil => cases ha
  | cons x S ih =>
    obtain ⟨h1, h2⟩ := srt_cons.1 h
    rcases List.mem_cons.1 ha with e1 | ha
    · rcases List.mem_cons.1 hb with e2 | hb
      · exact e1.trans e2.symm
      · have := h1 b hb; rw [← e1, e, lt_irrefl] at this; cases this
    · rcases List.mem_cons.1 hb with e2 | hb
      · have := h1 a ha; rw [← e2, e, lt_irrefl] at this; cases this
      · exact ih h2 ha hb
theorem srt_nodup {S : List Ent} (h : Srt S) : (S.map Ent.k).Nodup := by
  induction S with
  | nil => simp
  | cons x S ih =>
    obtain ⟨h1, h2⟩ := srt_cons.1 h
    rw [List.map_cons, List.nodup_cons]
    refine ⟨fun hm => ?_, ih h2⟩
    obtain ⟨b, hb, e⟩ := List.mem_map.1 hm
    have := h1 b hb
    rw [e, lt_irrefl] at this
    cases this
/-- A thing more, in order. -/
def insE (x : Ent) (S : List Ent) : List Ent := S.takeWhile (fun y => y.k.lt x.k) ++ x :: S.dropWhile (fun y => y.k.lt x.k)
theorem insE_nil (x : Ent) : insE x [] = [x] := rfl
theorem insE_cons (x y : Ent) (S : List Ent) : insE x (y :: S) = if y.k.lt x.k = true then y :: insE x S else x :: y :: S := by
  unfold insE
  by_cases h : y.k.lt x.k = true <;> simp [h]
theorem insE_perm (x : Ent) (S : List Ent) : (insE x S).Perm (x :: S) := by
  induction S with
  | nil => exact List.Perm.refl _
  | cons y S ih =>
    rw [insE_cons]
    split
    · exact (List.Perm.cons y ih).trans (List.Perm.swap x y S)
    · exact List.Perm.refl _
theorem insE_srt {x : Ent} {S : List Ent} (h : Srt S) (hx : ∀ y ∈ S, y.k ≠ x.k) : Srt (insE x S) := by
  induction S with
  | nil => exact List.pairwise_singleton ..
  | cons y S ih =>
    obtain ⟨h1, h2⟩ := srt_cons.1 h
    rw [insE_cons]
    split
    · rename_i hl
      refine srt_cons.2 ⟨fun b hb => ?_, ih h2 (fun z hz => hx z (by simp [hz]))⟩
      rcases List.mem_cons.1 ((insE_perm x S).mem_iff.1 hb) with rfl | hb
      · exact hl
      · exact h1 b hb
    · rename_i hl
      have hxy : x.k.lt y.k = true := by
        cases hc : x.k.lt y.k
        · exact absurd (lt_total (by simpa using hl) hc) (hx y (by simp))
        · rfl
      refine srt_cons.2 ⟨fun b hb => ?_, h⟩
      rcases List.mem_cons.1 hb with rfl | hb
      · exact hxy
      · exact lt_trans hxy (h1 b hb)
/-- The things but for that of a key. -/
def delE (k : Kv) (S : List Ent) : List Ent := S.filter fun x => decide (x.k ≠ k)
theorem delE_srt {k : Kv} {S : List Ent} (h : Srt S) : Srt (delE k S) := List.Pairwise.filter _ h
theorem delE_perm {S : List Ent} {x : Ent} (h : Srt S) (hx : x ∈ S) : S.Perm (x :: delE x.k S) := by
  induction S with
  | nil => cases hx
  | cons y S ih =>
    obtain ⟨h1, h2⟩ := srt_cons.1 h
    rcases List.mem_cons.1 hx with rfl | hm
    · have e : delE x.k (x :: S) = S := by
        unfold delE
        rw [List.filter_cons, if_neg (by simp)]
        rw [List.filter_eq_self]
        intro b hb
        have := h1 b hb
        rw [decide_eq_true_eq]
        intro e
        rw [e, lt_irrefl] at this
        cases this
      rw [e]
    · have hne : y.k ≠ x.k := fun e => by
        have := h1 x hm
        rw [e, lt_irrefl] at this
        cases this
      have e : delE x.k (y :: S) = y :: delE x.k S := by
        unfold delE
        rw [List.filter_cons, if_pos (by simpa using hne)]
      rw [e]
      exact (List.Perm.cons y (ih h2 hm)).trans (List.Perm.swap x y _)
def findE (k : Kv) (S : List Ent) : Option Ent := S.find? fun x => decide (x.k = k)
theorem findE_some {k : Kv} {S : List Ent} {x : Ent} (h : findE k S = some x) : x ∈ S ∧ x.k = k := ⟨List.mem_of_find?_eq_some h, by simpa using List.find?_some h⟩
theorem findE_none {k : Kv} {S : List Ent} (h : findE k S = none) : ∀ x ∈ S, x.k ≠ k := by
  unfold findE at h
  rw [List.find?_eq_none] at h
  exact fun x hx => by simpa using h x hx
theorem findE_of {k : Kv} {S : List Ent} (hs : Srt S) {x : Ent} (hx : x ∈ S) (e : x.k = k) : findE k S = some x := by
  cases h : findE k S with
  | none => exact absurd e (findE_none h x hx)
  | some y =>
    obtain ⟨h1, h2⟩ := findE_some h
    rw [srt_key hs h1 hx (h2.trans e.symm)]
theorem findE_not {k : Kv} {S : List Ent} (h : ∀ x ∈ S, x.k ≠ k) : findE k S = none := by
  unfold findE
  rw [List.find?_eq_none]
  exact fun x hx => by simpa using h x hx
end Go.Proofs.Ytclaicpnjllhjaa
