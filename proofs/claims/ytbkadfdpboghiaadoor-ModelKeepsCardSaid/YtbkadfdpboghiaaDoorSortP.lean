/- Stable sorting: plain facts on lists of events. -/
import Derived.Test.YtbkadfdpboghiaaDoorModKeys
namespace Go.Proofs.YtbkadfdpboghiaaDoor
open Go.RowKit Go.Maps

/-- Of each key the same events, in the same order. -/
def Alike (l r : List Ev) : Prop := ∀ k : Kv, l.filter (fun e => decide (e.k = k)) = r.filter (fun e => decide (e.k = k))
theorem Alike.refl (l : List Ev) : Alike l l := fun _ => rfl
theorem Alike.trans {l m r : List Ev} (h : Alike l m) (h' : Alike m r) : Alike l r := fun k => (h k).trans (h' k)
theorem Alike.symm {l m : List Ev} (h : Alike l m) : Alike m l := fun k => (h k).symm
theorem Alike.append {l l' m m' : List Ev} (h : Alike l l') (h' : Alike m m') : Alike (l ++ m) (l' ++ m') := fun k => by
  rw [List.filter_append, List.filter_append, h k, h' k]
/-- Two parts that have no key in common change places. -/
theorem Alike.swap {x y : List Ev} (h : ∀ a ∈ x, ∀ b ∈ y, a.k ≠ b.k) : Alike (x ++ y) (y ++ x) := fun k => by
  rw [List.filter_append, List.filter_append]
  by_cases hx : x.filter (fun e => decide (e.k = k)) = []
  · rw [hx]; simp
  · have hy : y.filter (fun e => decide (e.k = k)) = [] := by
      rw [List.filter_eq_nil_iff]
      intro b hb hk
      obtain ⟨a, ha⟩ := List.exists_mem_of_ne_nil _ hx
      rw [List.mem_filter] at ha
      exact h a ha.1 b hb ((of_decide_eq_true ha.2).trans (of_decide_eq_true hk).symm)
    rw [hy]; simp
theorem Alike.mem {l r : List Ev} (h : Alike l r) {e : Ev} : e ∈ l ↔ e ∈ r := by
  have hk : ∀ (l : List Ev), e ∈ l ↔ e ∈ l.filter (fun x => decide (x.k = e.k)) := fun l => by simp [List.mem_filter]
  rw [hk l, hk r, h e.k]
theorem Alike.count {l r : List Ev} (h : Alike l r) (e : Ev) : l.countP (fun x => decide (x = e)) = r.countP (fun x => decide (x = e)) := by
  have hk : ∀ (l : List Ev), l.countP (fun x => decide (x = e)) = (l.filter (fun x => decide (x.k = e.k))).countP (fun x => decide (x = e)) := fun l => by
    rw [List.countP_filter]
    refine List.countP_congr fun x _ => ?_
    simp only [Bool.and_eq_true, decide_eq_true_eq]
    exact ⟨fun h => ⟨h, by rw [h]⟩, fun h => h.1⟩
  rw [hk l, hk r, h e.k]

/-- None is ahead of one that stands before it. -/
def Asc (l : List Ev) : Prop := l.Pairwise fun a b => b.k.lt a.k = false
theorem le_trans' {a b c : Kv} (h : b.lt a = false) (h' : c.lt b = false) : c.lt a = false := by
  cases hc : c.lt a
  · rfl
  · exfalso
    have h1 : ¬ (b.lt a = true) := by rw [h]; simp
    have h2 : ¬ (c.lt b = true) := by rw [h']; simp
    rw [lt_iff] at *
    omega
theorem lt_le_trans {a b c : Kv} (h : a.lt b = true) (h' : c.lt b = false) : a.lt c = true := by
  have h2 : ¬ (c.lt b = true) := by rw [h']; simp
  rw [lt_iff] at *
  omega
theorem le_lt_trans {a b c : Kv} (h : b.lt a = false) (h' : b.lt c = true) : a.lt c = true := by
  have h2 : ¬ (b.lt a = true) := by rw [h]; simp
  rw [lt_iff] at *
  omega
theorem asc_append {l m : List Ev} : Asc (l ++ m) ↔ Asc l ∧ Asc m ∧ ∀ a ∈ l, ∀ b ∈ m, b.k.lt a.k = false := List.pairwise_append
theorem asc_cons {a : Ev} {l : List Ev} : Asc (a :: l) ↔ (∀ b ∈ l, b.k.lt a.k = false) ∧ Asc l := List.pairwise_cons
theorem asc_nil : Asc [] := List.Pairwise.nil
/-- Sorted, and alike: there is one. -/
theorem asc_unique : ∀ {l r : List Ev}, Asc l → Asc r → Alike l r → l = r
  | [], r, _, _, h => by
    cases r with
    | nil => rfl
    | cons b r => exact absurd (h.mem.2 (by simp : b ∈ b :: r)) (by simp)
  | a :: l, [], _, _, h => absurd (h.mem.1 (by simp : a ∈ a :: l)) (by simp)
  | a :: l, b :: r, ha, hb, h => by
    have ha' := asc_cons.1 ha
    have hb' := asc_cons.1 hb
    have e1 : a.k = b.k := by
      have h1 : a.k.lt b.k = false := by
        rcases List.mem_cons.1 (h.mem.1 (by simp : a ∈ a :: l)) with e | hm
        · rw [e]; exact lt_irrefl _
        · exact hb'.1 a hm
      have h2 : b.k.lt a.k = false := by
        rcases List.mem_cons.1 (h.mem.2 (by simp : b ∈ b :: r)) with e | hm
        · rw [e]; exact lt_irrefl _
        · exact ha'.1 b hm
      exact lt_total h1 h2
    have h3 := h a.k
    rw [List.filter_cons, List.filter_cons, if_pos (by simp), if_pos (by simp [e1])] at h3
    have e2 : a = b := (List.cons.inj h3).1
    subst e2
    have h4 : Alike l r := fun k => by
      have h5 := h k
      rw [List.filter_cons, List.filter_cons] at h5
      split at h5
      · exact (List.cons.inj h5).2
      · exact h5
    rw [asc_unique ha'.2 hb'.2 h4]
theorem lt_asc_ne {a b : Ev} (h : a.k.lt b.k = true) : b.k ≠ a.k := fun e => by rw [e, lt_irrefl] at h; cases h

/-- One step of an insertion: what stands at its place, what is inserted, and what it has passed. -/
theorem insert_step {p q : List Ev} {y x : Ev} (h : x.k.lt y.k = true) : Alike (p ++ [y] ++ [x] ++ q) (p ++ [x] ++ [y] ++ q) := by
  have h1 : Alike ([y] ++ [x]) ([x] ++ [y]) := Alike.swap fun a ha b hb => by
    simp at ha hb
    subst ha hb
    exact lt_asc_ne h
  have h2 := ((Alike.refl p).append h1).append (Alike.refl q)
  simpa [List.append_assoc] using h2
/-- It stands where it belongs. -/
theorem insert_done {p q : List Ev} {x : Ev} (hp : Asc (p ++ q)) (h1 : ∀ y ∈ p.getLast?, x.k.lt y.k = false) (h2 : ∀ y ∈ q, x.k.lt y.k = true) : Asc (p ++ [x] ++ q) := by
  obtain ⟨hpa, hqa, hpq⟩ := asc_append.1 hp
  have hpx : ∀ a ∈ p, x.k.lt a.k = false := by
    rcases List.eq_nil_or_concat p with rfl | ⟨p', z, rfl⟩
    · simp
    · intro a ha
      have hz := h1 z (by simp)
      rw [List.concat_eq_append] at ha hpa
      rcases List.mem_append.1 ha with ha | ha
      · exact le_trans' ((asc_append.1 hpa).2.2 a ha z (by simp)) hz
      · simp at ha; subst ha; exact hz
  rw [asc_append, asc_append]
  refine ⟨⟨hpa, List.pairwise_singleton .., fun a ha b hb => by simp at hb; subst hb; exact hpx a ha⟩, hqa, fun a ha b hb => ?_⟩
  rcases List.mem_append.1 ha with ha | ha
  · exact hpq a ha b hb
  · simp at ha; subst ha; exact lt_asymm (h2 b hb)
end Go.Proofs.YtbkadfdpboghiaaDoor
