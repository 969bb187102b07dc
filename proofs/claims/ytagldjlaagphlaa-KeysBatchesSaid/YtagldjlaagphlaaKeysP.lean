/- What is left of messages: plain facts on lists. -/
import Derived.Test.YtagldjlaagphlaaKeysM
namespace Go.Proofs.Ytagldjlaagphlaa
open Go.RowKit Go.Maps

def cnt (l : List Mv) (i : Iv) : Nat := l.countP (fun m => decide (m.id = i))
def clash : List Mv → Bool
  | [] => false
  | m :: l => l.any (fun x => decide (x.id = m.id) && !m.meets x) || clash l
def leftOf (l : List Mv) : List Mv := l.filter (fun m => cnt l m.id == 1)

theorem meets_comm (a b : Mv) : a.meets b = b.meets a := by
  rw [Bool.eq_iff_iff]
  simp only [Mv.meets, Bool.and_eq_true, bne_iff_ne, ne_eq, decide_eq_true_eq]
  exact ⟨fun h => ⟨fun e => h.1 e.symm, h.2.symm⟩, fun h => ⟨fun e => h.1 e.symm, h.2.symm⟩⟩
theorem meets_anti {a b : Mv} (h : a.meets b = true) : a.anti ≠ b.anti := by
  simp only [Mv.meets, Bool.and_eq_true, bne_iff_ne, ne_eq] at h
  exact h.1
theorem meets_id {a b : Mv} (h : a.meets b = true) : a.id = b.id := by
  simp only [Mv.meets, Bool.and_eq_true, decide_eq_true_eq] at h
  simp [Mv.id, h.2]
theorem clash_iff {l : List Mv} : clash l = false ↔ l.Pairwise fun a b => a.id = b.id → a.meets b = true := by
  induction l with
  | nil => simp [clash]
  | cons m l ih =>
    simp only [clash, Bool.or_eq_false_iff, ih, List.pairwise_cons]
    refine and_congr_left fun _ => ?_
    rw [List.any_eq_false]
    refine forall_congr' fun x => forall_congr' fun _ => ?_
    cases hm : m.meets x
    · simp; exact ⟨fun h e => h e.symm, fun h e => h e.symm⟩
    · simp
theorem clash_perm {l l' : List Mv} (h : l.Perm l') : clash l = clash l' := by
  have hs : ∀ {a b : Mv}, (a.id = b.id → a.meets b = true) → (b.id = a.id → b.meets a = true) := fun h e => (meets_comm _ _).trans (h e.symm)
  have : clash l = false ↔ clash l' = false := by
    rw [clash_iff, clash_iff]
    exact h.pairwise_iff hs
  cases h1 : clash l <;> cases h2 : clash l' <;> simp_all
theorem clash_left {l m : List Mv} (h : clash (l ++ m) = false) : clash l = false := by
  rw [clash_iff] at h ⊢
  exact (List.pairwise_append.1 h).1
theorem clash_sub {l m : List Mv} (hs : l.Sublist m) (h : clash m = false) : clash l = false := by
  rw [clash_iff] at h ⊢
  exact h.sublist hs
theorem clash_snoc {l : List Mv} {m : Mv} (h : clash l = false) (hm : ∀ x ∈ l, x.id = m.id → x.meets m = true) : clash (l ++ [m]) = false := by
  rw [clash_iff] at h ⊢
  rw [List.pairwise_append]
  exact ⟨h, by simp, fun a ha b hb => by simp at hb; subst hb; exact hm a ha⟩
theorem clash_snoc_iff {l : List Mv} {m : Mv} (h : clash (l ++ [m]) = false) : clash l = false ∧ ∀ x ∈ l, x.id = m.id → x.meets m = true := by
  rw [clash_iff] at h
  rw [clash_iff]
  have := List.pairwise_append.1 h
  exact ⟨this.1, fun x hx => this.2.2 x hx m (by simp)⟩
theorem clash_take {l : List Mv} (h : clash l = false) (k : Nat) : clash (l.take k) = false := clash_sub (List.take_sublist _ _) h

theorem cnt_append (l m : List Mv) (i : Iv) : cnt (l ++ m) i = cnt l i + cnt m i := List.countP_append
theorem cnt_one (m : Mv) (i : Iv) : cnt [m] i = if m.id = i then 1 else 0 := by
  unfold cnt
  by_cases h : m.id = i <;> simp [h]
theorem cnt_pos {l : List Mv} {i : Iv} : 0 < cnt l i ↔ ∃ m ∈ l, m.id = i := by
  unfold cnt
  rw [List.countP_pos_iff]
  simp
theorem cnt_perm {l m : List Mv} (h : l.Perm m) (i : Iv) : cnt l i = cnt m i := h.countP_eq _
theorem cnt_sub {l m : List Mv} (h : l.Sublist m) (i : Iv) : cnt l i ≤ cnt m i := h.countP_le
theorem cnt_mem {l : List Mv} {m : Mv} (h : m ∈ l) : 0 < cnt l m.id := cnt_pos.2 ⟨m, h, rfl⟩
theorem cnt_two {l : List Mv} {i : Iv} (h : clash l = false) (h2 : 2 ≤ cnt l i) : ∃ a ∈ l, ∃ b ∈ l, a.id = i ∧ b.id = i ∧ a.anti ≠ b.anti := by
  induction l with
  | nil => simp [cnt] at h2
  | cons x t ih =>
    have hc := clash_iff.1 h
    rw [List.pairwise_cons] at hc
    by_cases hx : x.id = i
    · have h3 : 0 < cnt t i := by
        have h4 := cnt_append [x] t i
        simp only [List.singleton_append] at h4
        rw [cnt_one, if_pos hx] at h4
        omega
      obtain ⟨y, hy, hyi⟩ := cnt_pos.1 h3
      exact ⟨x, by simp, y, by simp [hy], hx, hyi, meets_anti (hc.1 y hy (hx.trans hyi.symm))⟩
    · have h4 := cnt_append [x] t i
      simp only [List.singleton_append] at h4
      rw [cnt_one, if_neg hx] at h4
      obtain ⟨a, ha, b, hb, r⟩ := ih (clash_iff.2 hc.2) (by omega)
      exact ⟨a, by simp [ha], b, by simp [hb], r⟩
/-- Three of one ID: two are of one kind. -/
theorem cnt_three {l : List Mv} (h : clash l = false) (i : Iv) : cnt l i ≤ 2 := by
  induction l with
  | nil => simp [cnt]
  | cons x t ih =>
    have hc := clash_iff.1 h
    rw [List.pairwise_cons] at hc
    have ht := clash_iff.2 hc.2
    have h4 := cnt_append [x] t i
    simp only [List.singleton_append] at h4
    rw [cnt_one] at h4
    by_cases hx : x.id = i
    · rw [if_pos hx] at h4
      by_cases h2 : 2 ≤ cnt t i
      · obtain ⟨a, ha, b, hb, ea, eb, hab⟩ := cnt_two ht h2
        have h5 := meets_anti (hc.1 a ha (hx.trans ea.symm))
        have h6 := meets_anti (hc.1 b hb (hx.trans eb.symm))
        cases ha' : a.anti <;> cases hb' : b.anti <;> cases hx' : x.anti <;> simp_all
      · omega
    · rw [if_neg hx] at h4
      have := ih ht
      omega
theorem cnt_one_idx {l : List Mv} {i : Iv} (h : cnt l i = 1) {p q : Nat} {a b : Mv} (hp : l[p]? = some a) (hq : l[q]? = some b) (ha : a.id = i) (hb : b.id = i) : p = q := by
  induction l generalizing p q with
  | nil => simp at hp
  | cons x t ih =>
    have h4 := cnt_append [x] t i
    simp only [List.singleton_append] at h4
    rw [cnt_one] at h4
    have hz : x.id = i → ∀ (j : Nat) (c : Mv), t[j]? = some c → c.id ≠ i := fun hx j c hj hc => by
      rw [if_pos hx] at h4
      have := cnt_pos.2 ⟨c, List.mem_of_getElem? hj, hc⟩
      omega
    match p, q with
    | 0, 0 => rfl
    | 0, q + 1 =>
      simp at hp hq
      subst hp
      exact absurd hb (hz ha q b hq)
    | p + 1, 0 =>
      simp at hp hq
      subst hq
      exact absurd ha (hz hb p a hp)
    | p + 1, q + 1 =>
      simp at hp hq
      by_cases hx : x.id = i
      · exact absurd ha (hz hx p a hp)
      · rw [if_neg hx] at h4
        rw [ih (by omega) hp hq]

theorem take_succ_of {l : List Mv} {k : Nat} {m : Mv} (h : l[k]? = some m) : l.take (k + 1) = l.take k ++ [m] := by
  rw [List.take_add_one, h]; rfl
theorem cnt_take {l : List Mv} {k : Nat} {m : Mv} (h : l[k]? = some m) (i : Iv) : cnt (l.take (k + 1)) i = cnt (l.take k) i + if m.id = i then 1 else 0 := by
  rw [take_succ_of h, cnt_append, cnt_one]
theorem get_take {l : List Mv} {k j : Nat} {m : Mv} (h : l[j]? = some m) (hj : j < k) : (l.take k)[j]? = some m := by
  rw [List.getElem?_take, if_pos hj]; exact h

def Mv.Wf (m : Mv) : Prop := m.id.Wf

/-- What the first loop has found out behind k messages. -/
structure Upk (l : List Mv) (k : Nat) (D : DataW Unit) (g : List Bool) : Prop where
  no : clash (l.take k) = false
  len : g.length = l.length
  gone : ∀ i m, l[i]? = some m → g[i]? = some (decide (i < k ∧ 2 ≤ cnt (l.take k) m.id))
  map : IsMap D
  has : ∀ i : Iv, i.Wf → Maps.has D i.lit = decide (0 < cnt (l.take k) i)
  at_ : ∀ i : Iv, i.Wf → 0 < cnt (l.take k) i → ∃ j m, j < k ∧ l[j]? = some m ∧ m.id = i ∧ D.atKey i.lit (.lit (.int .i64 0)) = .lit (.int .i64 ((j : Nat) : Int))

theorem upk_start (l : List Mv) : Upk l 0 (.map []) (List.replicate l.length false) := by
  refine ⟨by simp [clash], by simp, fun i m h => ?_, isMap_empty, fun i _ => ?_, fun i _ h => ?_⟩
  · have hl := (List.getElem?_eq_some_iff.1 h).1
    simp [hl]
  · rw [has_eq]; simp [cnt]
  · simp [cnt] at h
theorem upk_new {l : List Mv} {k : Nat} {D : DataW Unit} {g : List Bool} {m : Mv} (h : Upk l k D g) (hm : l[k]? = some m) (hw : ∀ x ∈ l, x.Wf) (hn : Maps.has D m.id.lit = false) : Upk l (k + 1) (D.put m.id.lit (.lit (.int .i64 ((k : Nat) : Int)))) g := by
  have hmw : m.id.Wf := hw m (List.mem_of_getElem? hm)
  have h0 : cnt (l.take k) m.id = 0 := by
    have := h.has m.id hmw
    rw [hn] at this
    have := of_decide_eq_false this.symm
    omega
  refine ⟨?_, h.len, fun i x hx => ?_, h.map.put _ _, fun i hi => ?_, fun i hi hp => ?_⟩
  · rw [take_succ_of hm]
    refine clash_snoc h.no fun x hx e => ?_
    have := cnt_pos.2 ⟨x, hx, e⟩
    omega
  · rw [h.gone i x hx]
    congr 1
    rw [cnt_take hm]
    by_cases hik : i < k
    · have : 0 < cnt (l.take k) x.id := cnt_pos.2 ⟨x, List.mem_of_getElem? (get_take hx hik), rfl⟩
      have hne : m.id ≠ x.id := fun e => by rw [← e] at this; omega
      rw [if_neg hne, decide_eq_decide]
      omega
    · by_cases he : i = k
      · subst he
        rw [hm] at hx
        cases hx
        rw [if_pos rfl, h0, decide_eq_decide]
        omega
      · rw [decide_eq_decide]
        omega
  · rw [cnt_take hm]
    by_cases he : m.id = i
    · subst he
      rw [has_put_same h.map (lit_key _ hmw), if_pos rfl]
      simp
    · rw [has_put_other (fun e => he (lit_inj hi hmw e).symm), if_neg he]
      simpa using h.has i hi
  · by_cases he : m.id = i
    · subst he
      exact ⟨k, m, by omega, hm, rfl, atKey_put_same h.map (lit_key _ hmw) _ _⟩
    · rw [cnt_take hm, if_neg he] at hp
      obtain ⟨j, x, hj, hx, hxi, ha⟩ := h.at_ i hi (by omega)
      exact ⟨j, x, by omega, hx, hxi, by rw [atKey_put_other (fun e => he (lit_inj hi hmw e).symm)]; exact ha⟩
/-- What is there is told. -/
theorem upk_there {l : List Mv} {k : Nat} {D : DataW Unit} {g : List Bool} {m : Mv} (h : Upk l k D g) (hm : l[k]? = some m) (hw : ∀ x ∈ l, x.Wf) (hn : Maps.has D m.id.lit = true) :
    ∃ j a b, j < k ∧ l[j]? = some a ∧ a.id = m.id ∧ D.atKey m.id.lit (.lit (.int .i64 0)) = .lit (.int .i64 ((j : Nat) : Int)) ∧ g[j]? = some b ∧ (b = true → clash l = true) ∧ (a.meets m = false → clash l = true) ∧
      (b = false → a.meets m = true → Upk l (k + 1) D ((g.set k true).set j true)) := by
  have hmw : m.id.Wf := hw m (List.mem_of_getElem? hm)
  have h0 : 0 < cnt (l.take k) m.id := by
    have := h.has m.id hmw
    rw [hn] at this
    exact of_decide_eq_true this.symm
  obtain ⟨j, a, hj, ha, hai, hat⟩ := h.at_ m.id hmw h0
  have hka := h.gone j a ha
  have hc : clash l = false → clash (l.take k ++ [m]) = false := fun hc => by rw [← take_succ_of hm]; exact clash_take hc _
  refine ⟨j, a, _, hj, ha, hai, hat, hka, fun hb => ?_, fun hb => ?_, fun hb hme => ?_⟩
  · cases hcl : clash l
    · exfalso
      have h3 := cnt_three (hc hcl) m.id
      rw [cnt_append, cnt_one, if_pos rfl] at h3
      have := (of_decide_eq_true hb).2
      rw [hai] at this
      omega
    · rfl
  · cases hcl : clash l
    · exfalso
      have := (clash_snoc_iff (hc hcl)).2 a (List.mem_of_getElem? (get_take ha hj)) hai
      rw [hb] at this
      cases this
    · rfl
  · have h1 : cnt (l.take k) m.id = 1 := by
      have := of_decide_eq_false hb
      rw [hai] at this
      omega
    have hjl : j < l.length := (List.getElem?_eq_some_iff.1 ha).1
    have hkl : k < l.length := (List.getElem?_eq_some_iff.1 hm).1
    refine ⟨?_, by simp [h.len], fun i x hx => ?_, h.map, fun i hi => ?_, fun i hi hp => ?_⟩
    · rw [take_succ_of hm]
      refine clash_snoc h.no fun x hx e => ?_
      obtain ⟨p, hp⟩ := List.mem_iff_getElem?.1 hx
      have := cnt_one_idx h1 hp (get_take ha hj) e hai
      subst this
      rw [get_take ha hj] at hp
      cases hp
      exact hme
    · rw [List.getElem?_set, List.getElem?_set, cnt_take hm]
      by_cases e1 : j = i
      · subst e1
        rw [ha] at hx
        cases hx
        rw [if_pos rfl, if_pos (by rw [List.length_set, h.len]; omega), hai, if_pos rfl]
        congr 1
        symm
        rw [decide_eq_true_eq]
        omega
      · rw [if_neg e1]
        by_cases e2 : k = i
        · subst e2
          rw [hm] at hx
          cases hx
          rw [if_pos rfl, if_pos (by rw [h.len]; omega), if_pos rfl]
          congr 1
          symm
          rw [decide_eq_true_eq]
          omega
        · rw [if_neg e2, h.gone i x hx]
          congr 1
          rw [decide_eq_decide]
          by_cases hik : i < k
          · have hne : m.id ≠ x.id := fun e => e1 (cnt_one_idx h1 (get_take ha hj) (get_take hx hik) hai e.symm)
            rw [if_neg hne]
            omega
          · omega
    · rw [cnt_take hm, h.has i hi, decide_eq_decide]
      by_cases he : m.id = i
      · subst he
        rw [if_pos rfl]
        omega
      · rw [if_neg he]
        omega
    · have hp' : 0 < cnt (l.take k) i := by
        rw [cnt_take hm] at hp
        by_cases he : m.id = i
        · subst he; omega
        · rw [if_neg he] at hp; omega
      obtain ⟨j', x, hj', hx, hxi, ha'⟩ := h.at_ i hi hp'
      exact ⟨j', x, by omega, hx, hxi, ha'⟩

/-- At the end of the first loop. -/
theorem upk_end {l : List Mv} {D : DataW Unit} {g : List Bool} (h : Upk l l.length D g) : clash l = false ∧ ∀ (i : Nat) (m : Mv), l[i]? = some m → g[i]? = some (!(cnt l m.id == 1)) := by
  have h1 := h.no
  rw [List.take_length] at h1
  refine ⟨h1, fun i m hm => ?_⟩
  rw [h.gone i m hm, List.take_length]
  have hl := (List.getElem?_eq_some_iff.1 hm).1
  have hp := cnt_mem (List.mem_of_getElem? hm)
  congr 1
  rw [Bool.eq_iff_iff, decide_eq_true_eq]
  simp
  omega
/-- What the second loop has gathered. -/
def leftK (l : List Mv) (k : Nat) : List Mv := (l.take k).filter (fun m => cnt l m.id == 1)
theorem leftK_succ {l : List Mv} {k : Nat} {m : Mv} (h : l[k]? = some m) : leftK l (k + 1) = leftK l k ++ if (cnt l m.id == 1) = true then [m] else [] := by
  unfold leftK
  rw [take_succ_of h, List.filter_append]
  by_cases hc : (cnt l m.id == 1) = true <;> simp [hc]
theorem leftK_end (l : List Mv) : leftK l l.length = leftOf l := by simp [leftK, leftOf]
theorem leftK_len (l : List Mv) (k : Nat) : (leftK l k).length ≤ k := by
  unfold leftK
  exact Nat.le_trans (List.length_filter_le _ _) (List.length_take_le _ _)
end Go.Proofs.Ytagldjlaagphlaa
