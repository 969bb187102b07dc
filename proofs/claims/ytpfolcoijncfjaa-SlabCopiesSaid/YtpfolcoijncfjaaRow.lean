/- Rows of structs, each of the same number of cells; boxes and maps that are held; what is held in another order. -/
import Derived.Test.YtpfolcoijncfjaaHold2
import Derived.Maps.OwnSet
import Derived.Maps.OwnOps
namespace Go.Proofs.Ytpfolcoijncfjaa
open Go.RowKit Go.Maps

section
variable {α : Type} {enc : α → List Value} {k : Nat}
def flat (enc : α → List Value) : List α → List Value
  | [] => []
  | x :: l => enc x ++ flat enc l
theorem flat_append (l m : List α) : flat enc (l ++ m) = flat enc l ++ flat enc m := by
  induction l with
  | nil => rfl
  | cons x l ih => simp [flat, ih, List.append_assoc]
theorem flat_single (x : α) : flat enc [x] = enc x := by simp [flat]
theorem flat_length (hk : ∀ x, (enc x).length = k) (l : List α) : (flat enc l).length = l.length * k := by
  induction l with
  | nil => simp [flat]
  | cons x l ih => rw [flat, List.length_append, hk, ih, List.length_cons, Nat.succ_mul]; omega
theorem flat_get (hk : ∀ x, (enc x).length = k) {l : List α} {i : Nat} {x : α} (h : l[i]? = some x) {j : Nat} {u : Value} (hj : (enc x)[j]? = some u) : (flat enc l)[i * k + j]? = some u := by
  induction l generalizing i with
  | nil => simp at h
  | cons y l ih =>
    cases i with
    | zero =>
      simp at h
      subst h
      have := (List.getElem?_eq_some_iff.1 hj).1
      rw [flat, List.getElem?_append_left (by omega), Nat.zero_mul, Nat.zero_add]
      exact hj
    | succ i =>
      have h' : l[i]? = some x := by simpa using h
      rw [flat, List.getElem?_append_right (by rw [hk, Nat.succ_mul]; omega), hk, show (i + 1) * k + j - k = i * k + j by rw [Nat.succ_mul]; omega]
      exact ih h'
theorem flat_take (hk : ∀ x, (enc x).length = k) (l : List α) (n : Nat) : (flat enc l).take (n * k) = flat enc (l.take n) := by
  induction l generalizing n with
  | nil => simp [flat]
  | cons y l ih =>
    cases n with
    | zero => simp [flat]
    | succ n =>
      rw [flat, List.take_succ_cons, flat, List.take_append, hk, show (n + 1) * k - k = n * k by rw [Nat.succ_mul]; omega, ih, List.take_of_length_le (by rw [hk, Nat.succ_mul]; omega)]
theorem flat_one (h1 : ∀ x, ∀ u ∈ enc x, u.oneCell' = true) (l : List α) : ∀ u ∈ flat enc l, u.oneCell' = true := by
  induction l with
  | nil => simp [flat]
  | cons y l ih =>
    intro u hu
    rw [flat, List.mem_append] at hu
    rcases hu with hu | hu
    · exact h1 y u hu
    · exact ih u hu
/-- One field is written. -/
theorem flat_set1 (hk : ∀ x, (enc x).length = k) {l : List α} {i : Nat} {x x' : α} (h : l[i]? = some x) {j : Nat} {u : Value} (hj : j < k) (he : (enc x).set j u = enc x') : (flat enc l).set (i * k + j) u = flat enc (l.set i x') := by
  induction l generalizing i with
  | nil => simp at h
  | cons y l ih =>
    cases i with
    | zero =>
      simp at h
      subst h
      rw [flat, Nat.zero_mul, Nat.zero_add, List.set_append_left _ _ (by rw [hk]; exact hj), he]
      rfl
    | succ i =>
      have h' : l[i]? = some x := by simpa using h
      rw [flat, List.set_append_right _ _ (by rw [hk, Nat.succ_mul]; omega), hk, show (i + 1) * k + j - k = i * k + j by rw [Nat.succ_mul]; omega, ih h']
      rfl
def setAll (xs : List Value) (o : Nat) : List Value → List Value
  | [] => xs
  | c :: cs => setAll (xs.set o c) (o + 1) cs
theorem setAll_length (xs : List Value) (o : Nat) (cs : List Value) : (setAll xs o cs).length = xs.length := by
  induction cs generalizing xs o with
  | nil => rfl
  | cons c cs ih => rw [setAll, ih, List.length_set]
theorem setAll_get (cs : List Value) : ∀ (xs : List Value) (o c : Nat), (setAll xs o cs)[c]? = if o ≤ c ∧ c < o + cs.length ∧ c < xs.length then cs[c - o]? else xs[c]? := by
  induction cs with
  | nil => intro xs o c; rw [setAll, if_neg (by simp; omega)]
  | cons x cs ih =>
    intro xs o c
    rw [setAll, ih, List.length_set, List.length_cons]
    by_cases h1 : c = o
    · subst h1
      rw [if_neg (by omega)]
      by_cases h2 : c < xs.length
      · rw [if_pos ⟨by omega, by omega, h2⟩, List.getElem?_set_self h2, Nat.sub_self]; rfl
      · rw [if_neg (by omega), List.getElem?_eq_none (by rw [List.length_set]; omega), List.getElem?_eq_none (by omega)]
    · rw [List.getElem?_set_ne (by omega)]
      by_cases h2 : o ≤ c ∧ c < o + (cs.length + 1) ∧ c < xs.length
      · rw [if_pos (by omega), if_pos h2, show c - o = c - (o + 1) + 1 by omega, List.getElem?_cons_succ]
      · rw [if_neg (by omega), if_neg h2]
theorem flat_setAll (hk : ∀ x, (enc x).length = k) {l : List α} {i : Nat} (h : i < l.length) (x : α) : setAll (flat enc l) (i * k) (enc x) = flat enc (l.set i x) := by
  refine List.ext_getElem? fun c => ?_
  rw [setAll_get, flat_length hk, hk]
  by_cases hc : c < l.length * k
  · have hk0 : 0 < k := by
      rcases Nat.eq_zero_or_pos k with e | e
      · rw [e, Nat.mul_zero] at hc; omega
      · exact e
    have hq : c / k < l.length := (Nat.div_lt_iff_lt_mul hk0).2 hc
    have hr := Nat.mod_lt c hk0
    have hd : c = c / k * k + c % k := by rw [Nat.mul_comm]; exact (Nat.div_add_mod c k).symm
    by_cases hi : c / k = i
    · have h1 : (enc x)[c % k]? = some ((enc x)[c % k]'(by rw [hk]; exact hr)) := List.getElem?_eq_getElem _
      have h2 := flat_get hk (l := l.set i x) (i := i) (x := x) (List.getElem?_set_self h) h1
      have hc2 : i * k + c % k = c := by rw [← hi]; exact hd.symm
      rw [hc2] at h2
      rw [h2, if_pos ⟨by omega, by omega, hc⟩, show c - i * k = c % k by omega]
      exact h1
    · have hn : ¬ (i * k ≤ c ∧ c < i * k + k ∧ c < l.length * k) := by
        rintro ⟨a1, a2, _⟩
        apply hi
        have b1 : i ≤ c / k := (Nat.le_div_iff_mul_le hk0).2 a1
        have b2 : c / k < i + 1 := (Nat.div_lt_iff_lt_mul hk0).2 (by rw [Nat.succ_mul]; exact a2)
        omega
      rw [if_neg hn]
      obtain ⟨y, hy⟩ : ∃ y, l[c / k]? = some y := ⟨_, List.getElem?_eq_getElem hq⟩
      have h1 : (enc y)[c % k]? = some ((enc y)[c % k]'(by rw [hk]; exact hr)) := List.getElem?_eq_getElem _
      have h2 := flat_get hk hy h1
      have h3 := flat_get hk (l := l.set i x) (i := c / k) (x := y) (by rw [List.getElem?_set_ne (fun e => hi e.symm)]; exact hy) h1
      rw [← hd] at h2 h3
      rw [h2, h3]
  · have hn : ¬ (i * k ≤ c ∧ c < i * k + k ∧ c < l.length * k) := by omega
    rw [if_neg hn, List.getElem?_eq_none (by rw [flat_length hk]; omega), List.getElem?_eq_none (by rw [flat_length hk, List.length_set]; omega)]
end

/-- All cells of a struct are written. -/
def storeAll (w : World) (g o : Nat) : List Value → World
  | [] => w
  | c :: cs => storeAll (w.setCell ⟨g, o, none⟩ c) g (o + 1) cs
section
variable {R R' Q T : World → List Nat → Prop} {B : Nat} {w0 w w' : World} {L : List (Nat × Obj)}
theorem Holds.storedAll (hQ : Stable Q) {e : TypeId} {size g n cap : Nat} (cs : List Value) : ∀ {xs : List Value} {w : World} (o : Nat), Holds B w0 (sepR (rowR e size (.slice (some ⟨g, 0, none⟩) n cap) n xs) Q) w L →
    Holds B w0 (sepR (rowR e size (.slice (some ⟨g, 0, none⟩) n cap) n (setAll xs o cs)) Q) (storeAll w g o cs) L := by
  induction cs with
  | nil => exact fun o h => h
  | cons c cs ih => exact fun o h => ih (o + 1) (h.stored hQ o c)
theorem Holds.putFlat {α : Type} {enc : α → List Value} {k : Nat} (hk : ∀ x, (enc x).length = k) (hQ : Stable Q) {e : TypeId} {g n cap : Nat} {l : List α} (h : Holds B w0 (sepR (rowR e k (.slice (some ⟨g, 0, none⟩) n cap) n (flat enc l)) Q) w L) {i : Nat} (hi : i < l.length) (x : α) :
    Holds B w0 (sepR (rowR e k (.slice (some ⟨g, 0, none⟩) n cap) n (flat enc (l.set i x))) Q) (storeAll w g (i * k) (enc x)) L := by
  have h1 := h.storedAll hQ (enc x) (i * k)
  rw [flat_setAll hk hi] at h1
  exact h1
theorem Holds.cellOf {α : Type} {enc : α → List Value} {k : Nat} (hk : ∀ x, (enc x).length = k) {e : TypeId} {g n cap : Nat} {l : List α} (h : Holds B w0 (sepR (rowR e k (.slice (some ⟨g, 0, none⟩) n cap) n (flat enc l)) Q) w L) {i : Nat} {x : α} (hx : l[i]? = some x)
    {j : Nat} {u : Value} (hj : (enc x)[j]? = some u) : w.cell? ⟨g, i * k + j, none⟩ = some u := by
  have h1 := flat_get hk hx hj
  have h2 := (List.getElem?_eq_some_iff.1 h1).1
  have hr := h.row
  rw [hr.cellAt _ (by have := hr.1; omega)]
  exact h1

/-- A box beside it is written, and forgotten. -/
theorem Holds.scratch (hR : Stable R) {k : Nat} {t : TypeId} {f : Nat × Nat} (hk : B ≤ k) (hL : ∀ p ∈ L, p.1 ≠ k) (cs : List Value) : ∀ (c : Array Value) (w : World) (o : Nat), Holds B w0 R w ((k, .cells c t f) :: L) → Holds B w0 R (storeAll w k o cs) L := by
  induction cs with
  | nil => exact fun c w o h => h.sub (fun p hp => by simp [hp])
  | cons v cs ih => exact fun c w o h => ih _ _ (o + 1) (h.put (L := []) hR hk (by simp) hL o v)

/-- What is held, in another order. -/
def Conv (R R' : World → List Nat → Prop) : Prop := ∀ w F, R w F → (∀ k ∈ F, k < w.heap.size) → ∃ F', R' w F' ∧ ∀ k, k ∈ F' ↔ k ∈ F
theorem Holds.conv (h : Holds B w0 R w L) (hc : Conv R R') : Holds B w0 R' w L := h.perm fun F hF hl => hc w F hF hl
theorem Conv.refl (R : World → List Nat → Prop) : Conv R R := fun _ F h _ => ⟨F, h, fun _ => Iff.rfl⟩
theorem Conv.trans {R1 R2 R3 : World → List Nat → Prop} (h : Conv R1 R2) (h' : Conv R2 R3) : Conv R1 R3 := fun w F hF hl => by
  obtain ⟨F', h1, h2⟩ := h w F hF hl
  obtain ⟨F'', h3, h4⟩ := h' w F' h1 (fun k hk => hl k ((h2 k).1 hk))
  exact ⟨F'', h3, fun k => (h4 k).trans (h2 k)⟩
theorem Conv.sep {R1 R2 Q1 Q2 : World → List Nat → Prop} (h : Conv R1 R2) (h' : Conv Q1 Q2) : Conv (sepR R1 Q1) (sepR R2 Q2) := fun w F hF _ => by
  obtain ⟨F1, F2, hR, hQ, hd, hl1, hl2, rfl⟩ := hF
  obtain ⟨G1, h1, h2⟩ := h w F1 hR hl1
  obtain ⟨G2, h3, h4⟩ := h' w F2 hQ hl2
  exact ⟨G1 ++ G2, ⟨G1, G2, h1, h3, fun k hk hm => hd k ((h2 k).1 hk) ((h4 k).1 hm), fun k hk => hl1 k ((h2 k).1 hk), fun k hk => hl2 k ((h4 k).1 hk), rfl⟩, fun k => by simp [h2, h4]⟩
theorem Conv.right (h : Conv Q T) : Conv (sepR R Q) (sepR R T) := (Conv.refl R).sep h
theorem Conv.left (h : Conv R R') : Conv (sepR R Q) (sepR R' Q) := h.sep (Conv.refl Q)
theorem Conv.comm : Conv (sepR R Q) (sepR Q R) := fun w F hF _ => by
  obtain ⟨F1, F2, hR, hQ, hd, hl1, hl2, rfl⟩ := hF
  exact ⟨F2 ++ F1, ⟨F2, F1, hQ, hR, fun k hk hm => hd k hm hk, hl2, hl1, rfl⟩, fun k => by simp [or_comm]⟩
theorem Conv.flat : Conv (sepR (sepR R Q) T) (sepR R (sepR Q T)) := fun w F hF _ => by
  obtain ⟨F1, F2, ⟨G1, G2, hR, hQ, hd, hl1, hl2, rfl⟩, hT, hd', hl, hl', rfl⟩ := hF
  refine ⟨G1 ++ (G2 ++ F2), ⟨G1, G2 ++ F2, hR, ⟨G2, F2, hQ, hT, fun k hk => hd' k (by simp [hk]), hl2, hl', rfl⟩, fun k hk hm => ?_, hl1, fun k hk => ?_, rfl⟩, fun k => by simp⟩
  · rcases List.mem_append.1 hm with h | h
    · exact hd k hk h
    · exact hd' k (by simp [hk]) h
  · rcases List.mem_append.1 hk with h | h
    · exact hl2 k h
    · exact hl' k h
theorem Conv.fold : Conv (sepR R (sepR Q T)) (sepR (sepR R Q) T) := fun w F hF _ => by
  obtain ⟨F1, F2, hR, ⟨G1, G2, hQ, hT, hd, hl1, hl2, rfl⟩, hd', hl, hl', rfl⟩ := hF
  refine ⟨(F1 ++ G1) ++ G2, ⟨F1 ++ G1, G2, ⟨F1, G1, hR, hQ, fun k hk hm => hd' k hk (by simp [hm]), hl, hl1, rfl⟩, hT, fun k hk hm => ?_, fun k hk => ?_, hl2, rfl⟩, fun k => by simp⟩
  · rcases List.mem_append.1 hk with h | h
    · exact hd' k h (by simp [hm])
    · exact hd k h hm
  · rcases List.mem_append.1 hk with h | h
    · exact hl k h
    · exact hl1 k h
theorem Conv.exch : Conv (sepR R (sepR Q T)) (sepR Q (sepR R T)) := Conv.fold.trans (Conv.comm.left.trans Conv.flat)
/-- The third one comes first, and back. -/
theorem Conv.third {X Y Z : World → List Nat → Prop} : Conv (sepR X (sepR Y (sepR Z T))) (sepR Z (sepR X (sepR Y T))) := Conv.exch.right.trans Conv.exch
theorem Conv.toThird {X Y Z : World → List Nat → Prop} : Conv (sepR Z (sepR X (sepR Y T))) (sepR X (sepR Y (sepR Z T))) := Conv.exch.trans Conv.exch.right

theorem Holds.ex {α : Type} {R : α → World → List Nat → Prop} (h : Holds B w0 (sepR (fun w F => ∃ x, R x w F) Q) w L) : ∃ x, Holds B w0 (sepR (R x) Q) w L := by
  obtain ⟨F, h, r⟩ := h
  obtain ⟨F1, F2, ⟨x, hR⟩, s⟩ := h.res
  exact ⟨x, F, ⟨⟨F1, F2, hR, s⟩, h.lt, h.box⟩, r⟩
theorem Holds.ofEx {α : Type} {R : α → World → List Nat → Prop} (x : α) (h : Holds B w0 (sepR (R x) Q) w L) : Holds B w0 (sepR (fun w F => ∃ x, R x w F) Q) w L :=
  h.conv (Conv.left fun _ F hF _ => ⟨F, ⟨x, hF⟩, fun _ => Iff.rfl⟩)
/-- A fact beside what is held. -/
def factR (p : Prop) (R : World → List Nat → Prop) : World → List Nat → Prop := fun w F => p ∧ R w F
theorem factR_stable {p : Prop} (hR : Stable R) : Stable (factR p R) := fun S w w' F h hf hd => ⟨h.1, hR S w w' F h.2 hf hd⟩
theorem Holds.fact {p : Prop} (h : Holds B w0 (sepR (factR p R) Q) w L) : p ∧ Holds B w0 (sepR R Q) w L := by
  have h' := h
  obtain ⟨F, h, r⟩ := h
  obtain ⟨F1, F2, ⟨hp, _⟩, s⟩ := h.res
  exact ⟨hp, h'.conv (Conv.left fun _ F hF _ => ⟨F, hF.2, fun _ => Iff.rfl⟩)⟩
theorem Holds.ofFact {p : Prop} (hp : p) (h : Holds B w0 (sepR R Q) w L) : Holds B w0 (sepR (factR p R) Q) w L :=
  h.conv (Conv.left fun _ F hF _ => ⟨F, ⟨hp, hF⟩, fun _ => Iff.rfl⟩)
theorem exR_stable {α : Type} {R : α → World → List Nat → Prop} (hR : ∀ x, Stable (R x)) : Stable (fun w F => ∃ x, R x w F) := fun S w w' F h hf hd => by
  obtain ⟨x, h⟩ := h
  exact ⟨x, hR x S w w' F h hf hd⟩

/-- A block of cells. -/
def boxR (b : Nat) (cs : Array Value) (t : TypeId) : World → List Nat → Prop := fun w F => w.heap[b]? = some (.cells cs t) ∧ F = [b]
theorem boxR_stable (b : Nat) (cs : Array Value) (t : TypeId) : Stable (boxR b cs t) := by
  rintro S w w' F ⟨h, rfl⟩ hf hd
  exact ⟨hf.obj h (hd b (by simp)), rfl⟩
theorem Holds.theBox {b : Nat} {cs : Array Value} {t : TypeId} (h : Holds B w0 (sepR (boxR b cs t) Q) w L) : w.heap[b]? = some (.cells cs t) := by
  obtain ⟨F, h, _⟩ := h
  obtain ⟨F1, F2, hR, _⟩ := h.res
  exact hR.1
theorem Holds.boxPut {b : Nat} {cs : Array Value} {t : TypeId} (hQ : Stable Q) (h : Holds B w0 (sepR (boxR b cs t) Q) w L) (j : Nat) (v : Value) : Holds B w0 (sepR (boxR b (cs.setIfInBounds j v) t) Q) (w.setCell ⟨b, j, none⟩ v) L := by
  obtain ⟨F1, ⟨hb, rfl⟩, hlt, _, hk⟩ := h.split hQ
  have hl := lt_of_obj hb
  refine hk _ _ [b] ⟨obj_setCell hb j v, rfl⟩ ((Frm.refl _ _).setCell (a := ⟨b, j, none⟩) (.inl (by simp)) v) (fun k hk => .inl hk) (fun k hk => ?_)
  simp at hk
  subst hk
  simpa using hl
theorem Holds.newBox (hQ : Stable Q) (h : Holds B w0 Q w L) (cs : Array Value) (t : TypeId) : Holds B w0 (sepR (boxR w.heap.size cs t) Q) (w.alloc (.cells cs t)) L := by
  obtain ⟨F1, _, _, _, hk⟩ := h.empty.split hQ
  refine hk _ _ [w.heap.size] ⟨obj_new w _, rfl⟩ ((Frm.refl _ _).alloc _) (fun k hk => .inr ?_) (fun k hk => ?_)
  · simp at hk; omega
  · simp at hk; subst hk; simp

/-- A map that is held. -/
def mapR (P : Program) (k e : TypeId) (M : Nat) (D : DataW Unit) : World → List Nat → Prop := fun w F => w.ownsMap P k (plainElem P e) M (Maps.size D) D ∧ F = [M]
theorem mapR_stable (P : Program) (k e : TypeId) (M : Nat) (D : DataW Unit) : Stable (mapR P k e M D) := by
  rintro S w w' F ⟨h, rfl⟩ hf hd
  obtain ⟨es, clock, hb, r⟩ := h
  exact ⟨⟨es, clock, hf.obj hb (hd M (by simp)), r⟩, rfl⟩
theorem ownsMap_sized {P : Program} {k : TypeId} {R : Value → Option (DataW Unit × List MemPlace)} {M n : Nat} {D : DataW Unit} (h : w.ownsMap P k R M n D) : w.ownsMap P k R M (Maps.size D) D := by
  obtain ⟨es, clock, hb, F, _, rfl⟩ := h
  exact ⟨es, clock, hb, F, by rw [Maps.size, length_sorted]; simp, rfl⟩
theorem Holds.newMapR {P : Program} {k e : TypeId} (hQ : Stable Q) (h : Holds B w0 Q w L) : Holds B w0 (sepR (mapR P k e w.heap.size (.map [])) Q) (w.alloc (.map #[] 0)) L := by
  obtain ⟨F1, _, _, _, hk⟩ := h.empty.split hQ
  refine hk _ _ [w.heap.size] ⟨ownsMap_sized (World.ownsMap_made w P k _), rfl⟩ ((Frm.refl _ _).alloc _) (fun k hk => .inr ?_) (fun k hk => ?_)
  · simp at hk; omega
  · simp at hk; subst hk; simp
theorem Holds.mapAt {P : Program} {k e : TypeId} {M : Nat} {D : DataW Unit} (h : Holds B w0 (sepR (mapR P k e M D) Q) w L) : w.ownsMap P k (plainElem P e) M (Maps.size D) D := by
  obtain ⟨F, h, _⟩ := h
  obtain ⟨F1, F2, hR, _⟩ := h.res
  exact hR.1
theorem Holds.mapGrown {P : Program} {k e : TypeId} {M n : Nat} {D D' : DataW Unit} (hQ : Stable Q) (h : Holds B w0 (sepR (mapR P k e M D) Q) w L) (h' : w'.ownsMap P k (plainElem P e) M n D') (hg : w.grownBy w' (some M)) : Holds B w0 (sepR (mapR P k e M D') Q) w' L := by
  obtain ⟨F1, ⟨hm, rfl⟩, hlt, _, hk⟩ := h.split hQ
  have hl := hm.lt
  refine hk _ _ [M] ⟨ownsMap_sized h', rfl⟩ (Frm.of_grown hg (fun k hk => .inl (by simp at hk; simp [hk]))) (fun k hk => .inl hk) (fun k hk => ?_)
  simp at hk
  subst hk
  exact Nat.lt_of_lt_of_le hl hg.size
end

/-- A slice that is read: what its cells hold. -/
def SlAt {α : Type} (enc : α → List Value) (k : Nat) (w : World) (a : Option Addr) (n cap : Nat) (l : List α) : Prop :=
  l.length = n ∧ n ≤ cap ∧ cap ≤ maxLen ∧ (n = 0 ∨ ∃ b off, a = some ⟨b, off, none⟩ ∧ b < w.heap.size ∧
      ∀ (i : Nat) (x : α), l[i]? = some x → ∀ (j : Nat) (u : Value), (enc x)[j]? = some u → w.cell? ⟨b, off + i * k + j, none⟩ = some u)
section
variable {α : Type} {enc : α → List Value} {k : Nat} {w w' : World} {a : Option Addr} {n cap : Nat} {l : List α}
theorem SlAt.at_ (h : SlAt enc k w a n cap l) {i : Nat} (hi : i < n) : ∃ b off x, a = some ⟨b, off, none⟩ ∧ b < w.heap.size ∧ l[i]? = some x ∧ ∀ (j : Nat) (u : Value), (enc x)[j]? = some u → w.cell? ⟨b, off + i * k + j, none⟩ = some u := by
  obtain ⟨hl1, hl2, hl3, hl5⟩ := h
  rcases hl5 with h0 | ⟨bl, off, rfl, hbl, hcells⟩
  · omega
  obtain ⟨o, hok⟩ : ∃ o, l[i]? = some o := ⟨_, List.getElem?_eq_getElem (by omega)⟩
  exact ⟨bl, off, o, rfl, hbl, hok, hcells i o hok⟩
theorem SlAt.frm (h : SlAt enc k w a n cap l) (hf : Frm [] w w') : SlAt enc k w' a n cap l := by
  obtain ⟨hl1, hl2, hl3, hl5⟩ := h
  refine ⟨hl1, hl2, hl3, ?_⟩
  rcases hl5 with h0 | ⟨bl, off, rfl, hbl, hcells⟩
  · exact .inl h0
  · exact .inr ⟨bl, off, rfl, Nat.lt_of_lt_of_le hbl hf.size, fun i m hi j u hj => hf.cell (hcells i m hi j u hj) (by simp)⟩
theorem SlAt.nil (enc : α → List Value) (k : Nat) (w : World) (a : Option Addr) : SlAt enc k w a 0 0 [] := ⟨rfl, Nat.le_refl _, by unfold maxLen; omega, .inl rfl⟩
theorem SlAt.of_row (hk : ∀ x, (enc x).length = k) {base : Nat} {e : TypeId} (h : w.ownsRow base e k (.slice a n cap) n (flat enc l)) (hl : l.length = n) : SlAt enc k w a n cap l := by
  rcases row_nil_or h with ⟨h0, rfl⟩ | ⟨g, c, hv, hg, hn, hc⟩
  · simp only [Value.slice.injEq] at h0
    obtain ⟨rfl, _, rfl⟩ := h0
    exact ⟨hl, Nat.le_refl _, by unfold maxLen; omega, .inl rfl⟩
  · simp only [Value.slice.injEq] at hv
    obtain ⟨rfl, _, rfl⟩ := hv
    refine ⟨hl, hn, hc, .inr ⟨g, 0, rfl, hg, fun i m hi j u hj => ?_⟩⟩
    have h1 := flat_get hk hi hj
    have h2 := (List.getElem?_eq_some_iff.1 h1).1
    rw [h.cellAt _ (by rw [flat_length hk] at h2; rw [← hl]; omega), Nat.zero_add]
    exact h1
/-- Its cells, for an append. -/
theorem SlAt.news (hk : ∀ x, (enc x).length = k) (hk0 : 0 < k) {b off : Nat} (h : SlAt enc k w (some ⟨b, off, none⟩) n cap l) : ∀ (j : Nat) (u : Value), (flat enc l)[j]? = some u → w.cell? ((⟨b, off, none⟩ : Addr).add j) = some u := by
  obtain ⟨hl1, hl2, hl3, hl5⟩ := h
  intro j u hj
  have hjl := (List.getElem?_eq_some_iff.1 hj).1
  rw [flat_length hk] at hjl
  rcases hl5 with h0 | ⟨bl, o, he, hbl, hcells⟩
  · rw [hl1, h0] at hjl; omega
  · simp only [Option.some.injEq, Addr.mk.injEq, and_true] at he
    obtain ⟨rfl, rfl⟩ := he
    have hq : j / k < l.length := (Nat.div_lt_iff_lt_mul hk0).2 hjl
    have hr := Nat.mod_lt j hk0
    have hd : j / k * k + j % k = j := by rw [Nat.mul_comm]; exact Nat.div_add_mod j k
    obtain ⟨m, hm⟩ : ∃ m, l[j / k]? = some m := ⟨_, List.getElem?_eq_getElem hq⟩
    obtain ⟨v, hv⟩ : ∃ v, (enc m)[j % k]? = some v := ⟨_, List.getElem?_eq_getElem (by rw [hk]; exact hr)⟩
    have h1 := flat_get hk hm hv
    rw [hd, hj] at h1
    cases h1
    have h2 := hcells (j / k) m hm (j % k) u hv
    rw [addr_add, ← hd]
    rw [Nat.add_assoc] at h2
    rw [hd] at h2 ⊢
    exact h2
theorem SlAt.take (h : SlAt enc k w a n cap l) {m : Nat} (hm : m ≤ n) : SlAt enc k w a m cap (l.take m) := by
  obtain ⟨hl1, hl2, hl3, hl5⟩ := h
  refine ⟨by rw [List.length_take]; omega, by omega, hl3, ?_⟩
  rcases hl5 with h0 | ⟨bl, off, rfl, hbl, hcells⟩
  · exact .inl (by omega)
  · refine .inr ⟨bl, off, rfl, hbl, fun i x hi j u hj => ?_⟩
    rw [List.getElem?_take] at hi
    split at hi
    · exact hcells i x hi j u hj
    · cases hi
theorem SlAt.drop {b off : Nat} (h : SlAt enc k w (some ⟨b, off, none⟩) n cap l) {m : Nat} (hm : m ≤ n) : SlAt enc k w (some ⟨b, off + m * k, none⟩) (n - m) (cap - m) (l.drop m) := by
  obtain ⟨hl1, hl2, hl3, hl5⟩ := h
  refine ⟨by rw [List.length_drop]; omega, by omega, by omega, ?_⟩
  rcases hl5 with h0 | ⟨bl, o, he, hbl, hcells⟩
  · exact .inl (by omega)
  · simp only [Option.some.injEq, Addr.mk.injEq, and_true] at he
    obtain ⟨rfl, rfl⟩ := he
    refine .inr ⟨_, _, rfl, hbl, fun i x hi j u hj => ?_⟩
    rw [List.getElem?_drop] at hi
    have := hcells (m + i) x hi j u hj
    rw [show off + m * k + i * k + j = off + (m + i) * k + j by rw [Nat.add_mul]; omega]
    exact this
end
/-- Numbers. -/
def intEnc (x : Int) : List Value := [.int .i64 x]
theorem intEnc_len (x : Int) : (intEnc x).length = 1 := rfl
theorem intEnc_one (x : Int) : ∀ u ∈ intEnc x, u.oneCell' = true := by intro u hu; simp [intEnc] at hu; subst hu; rfl
theorem SlAt.intAt {w : World} {a : Option Addr} {n cap : Nat} {l : List Int} (h : SlAt intEnc 1 w a n cap l) {i : Nat} (hi : i < n) : ∃ b off x, a = some ⟨b, off, none⟩ ∧ b < w.heap.size ∧ l[i]? = some x ∧ w.cell? ⟨b, off + i, none⟩ = some (.int .i64 x) := by
  obtain ⟨b, off, x, h1, h2, h3, h4⟩ := h.at_ hi
  have := h4 0 (.int .i64 x) rfl
  rw [Nat.mul_one, Nat.add_zero] at this
  exact ⟨b, off, x, h1, h2, h3, this⟩
theorem list_ext {α : Type} {l m : List α} (hl : l.length = m.length) (h : ∀ (i : Nat) (a b : α), l[i]? = some a → m[i]? = some b → a = b) : l = m := by
  refine List.ext_getElem? fun i => ?_
  by_cases hi : i < l.length
  · rw [List.getElem?_eq_getElem hi, List.getElem?_eq_getElem (by omega)]
    exact congrArg some (h i _ _ (List.getElem?_eq_getElem hi) (List.getElem?_eq_getElem (by omega)))
  · rw [List.getElem?_eq_none (by omega), List.getElem?_eq_none (by omega)]
end Go.Proofs.Ytpfolcoijncfjaa
