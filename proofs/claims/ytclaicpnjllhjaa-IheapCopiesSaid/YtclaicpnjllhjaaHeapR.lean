/- A heap in memory: its struct, the row of its entries, the map of their places. -/
import Derived.Test.YtclaicpnjllhjaaHeapP
import Derived.Test.YtclaicpnjllhjaaKvM
import Derived.Test.YtclaicpnjllhjaaRow
namespace Go.Proofs.Ytclaicpnjllhjaa
open Go.RowKit Go.Maps

def Ent.cells (e : Ent) : List Value := [.int .i64 e.k.at_, .int .i64 e.k.src, .int .i64 e.k.sent, .int .i64 e.k.no, .int .i64 e.v]
theorem ent_len (e : Ent) : e.cells.length = 5 := rfl
theorem ent_one (e : Ent) : ∀ u ∈ e.cells, u.oneCell' = true := by
  intro u hu
  simp only [Ent.cells, List.mem_cons, List.not_mem_nil, or_false] at hu
  rcases hu with rfl | rfl | rfl | rfl | rfl <;> rfl

/-- Where each key stands. -/
structure Places (D : DataW Unit) (l : List Ent) : Prop where
  tidy : Tidy D
  wf : ∀ e ∈ l, e.k.Wf
  nodup : (l.map Ent.k).Nodup
  has : ∀ k : Kv, k.Wf → Maps.has D k.lit = decide (∃ e ∈ l, e.k = k)
  at_ : ∀ (i : Nat) (e : Ent), l[i]? = some e → D.atKey e.k.lit (.lit (.int .i64 0)) = .lit (.int .i64 ((i : Nat) : Int))
  size : Maps.size D = l.length

theorem places_empty : Places (.map []) [] :=
  ⟨tidy_empty, by simp, by simp, fun k _ => by rw [has_eq]; simp, by simp, rfl⟩
theorem Places.key {D : DataW Unit} {l : List Ent} (h : Places D l) {i j : Nat} {a b : Ent} (hi : l[i]? = some a) (hj : l[j]? = some b) (e : a.k = b.k) : i = j := by
  have hn := h.nodup
  have h1 : (l.map Ent.k)[i]? = some a.k := by rw [List.getElem?_map, hi]; rfl
  have h2 : (l.map Ent.k)[j]? = some a.k := by rw [List.getElem?_map, hj, e]; rfl
  obtain ⟨hi', e1⟩ := List.getElem?_eq_some_iff.1 h1
  obtain ⟨hj', e2⟩ := List.getElem?_eq_some_iff.1 h2
  rw [List.Nodup, List.pairwise_iff_getElem] at hn
  rcases Nat.lt_trichotomy i j with h3 | h3 | h3
  · exact absurd (e1.trans e2.symm) (hn i j hi' hj' h3)
  · exact h3
  · exact absurd (e2.trans e1.symm) (hn j i hj' hi' h3)
/-- A thing is pushed behind all. -/
theorem Places.snoc {D : DataW Unit} {l : List Ent} (h : Places D l) {x : Ent} (hx : x.k.Wf) (hn : Maps.has D x.k.lit = false) : Places (D.put x.k.lit (.lit (.int .i64 ((l.length : Nat) : Int)))) (l ++ [x]) := by
  have hno : ∀ e ∈ l, e.k ≠ x.k := fun e he ek => by
    have := h.has x.k hx
    rw [hn] at this
    exact of_decide_eq_false this.symm ⟨e, he, ek⟩
  refine ⟨h.tidy.put (lit_key _ hx) _, fun e he => ?_, ?_, fun k hk => ?_, fun i e hi => ?_, ?_⟩
  · rcases List.mem_append.1 he with he | he
    · exact h.wf e he
    · simp at he; subst he; exact hx
  · rw [List.map_append, List.nodup_append]
    refine ⟨h.nodup, by simp, fun a ha b hb => ?_⟩
    obtain ⟨e, he, rfl⟩ := List.mem_map.1 ha
    simp at hb
    subst hb
    exact hno e he
  · by_cases e : k = x.k
    · subst e
      rw [has_put_same h.tidy.isMap (lit_key _ hx)]
      symm
      rw [decide_eq_true_eq]
      exact ⟨x, by simp, rfl⟩
    · rw [has_put_other (fun e' => e (lit_inj hk hx e')), h.has k hk, decide_eq_decide]
      refine ⟨fun ⟨y, hy, ey⟩ => ⟨y, by simp [hy], ey⟩, fun ⟨y, hy, ey⟩ => ?_⟩
      rcases List.mem_append.1 hy with hy | hy
      · exact ⟨y, hy, ey⟩
      · simp at hy; subst hy; exact absurd ey.symm e
  · by_cases hlt : i < l.length
    · rw [List.getElem?_append_left hlt] at hi
      have hm := List.mem_of_getElem? hi
      rw [atKey_put_other (fun e' => hno e hm (lit_inj (h.wf e hm) hx e'))]
      exact h.at_ i e hi
    · have hlen := (List.getElem?_eq_some_iff.1 hi).1
      rw [List.length_append, List.length_singleton] at hlen
      have hil : i = l.length := by omega
      subst hil
      rw [List.getElem?_append_right (Nat.le_refl _), Nat.sub_self] at hi
      simp at hi
      subst hi
      exact atKey_put_same h.tidy.isMap (lit_key _ hx) _ _
  · rw [size_put h.tidy, hn, List.length_append]
    simp [h.size]
theorem map_key_get (l : List Ent) (c : Nat) : (l.map Ent.k)[c]? = (l[c]?).map Ent.k := List.getElem?_map ..
/-- Two entries change places. -/
theorem Places.swap {D : DataW Unit} {l : List Ent} (h : Places D l) {i j : Nat} {x y : Ent} (hi : l[i]? = some x) (hj : l[j]? = some y) :
    Places ((D.put y.k.lit (.lit (.int .i64 ((i : Nat) : Int)))).put x.k.lit (.lit (.int .i64 ((j : Nat) : Int)))) (swapL l i j) := by
  have hil := (List.getElem?_eq_some_iff.1 hi).1
  have hjl := (List.getElem?_eq_some_iff.1 hj).1
  have hxm := List.mem_of_getElem? hi
  have hym := List.mem_of_getElem? hj
  have hxw := h.wf x hxm
  have hyw := h.wf y hym
  have hp := swapL_perm hil hjl
  have t1 := h.tidy.put (lit_key _ hyw) (.lit (.int .i64 ((i : Nat) : Int)))
  have hhx : Maps.has D x.k.lit = true := by rw [h.has _ hxw, decide_eq_true_eq]; exact ⟨x, hxm, rfl⟩
  have hhy : Maps.has D y.k.lit = true := by rw [h.has _ hyw, decide_eq_true_eq]; exact ⟨y, hym, rfl⟩
  have hhx' : Maps.has (D.put y.k.lit (.lit (.int .i64 ((i : Nat) : Int)))) x.k.lit = true := by
    by_cases e : x.k = y.k
    · rw [e]; exact has_put_same h.tidy.isMap (lit_key _ hyw) _
    · rw [has_put_other (fun e' => e (lit_inj hxw hyw e'))]; exact hhx
  refine ⟨t1.put (lit_key _ hxw) _, fun e he => h.wf e (hp.mem_iff.1 he), (hp.map Ent.k).nodup_iff.2 h.nodup, fun k hk => ?_, fun c e hc => ?_, ?_⟩
  · have hd : decide (∃ e ∈ swapL l i j, e.k = k) = decide (∃ e ∈ l, e.k = k) := by
      rw [decide_eq_decide]
      exact ⟨fun ⟨e, he, h'⟩ => ⟨e, hp.mem_iff.1 he, h'⟩, fun ⟨e, he, h'⟩ => ⟨e, hp.mem_iff.2 he, h'⟩⟩
    rw [hd, ← h.has k hk]
    by_cases e1 : k = x.k
    · subst e1
      rw [has_put_same t1.isMap (lit_key _ hxw), hhx]
    · rw [has_put_other (fun e' => e1 (lit_inj hk hxw e'))]
      by_cases e2 : k = y.k
      · subst e2
        rw [has_put_same h.tidy.isMap (lit_key _ hyw), hhy]
      · rw [has_put_other (fun e' => e2 (lit_inj hk hyw e'))]
  · rw [swapL_get hil hjl] at hc
    unfold tr at hc
    by_cases c1 : c = j
    · rw [if_pos c1, hi] at hc
      cases hc
      subst c1
      exact atKey_put_same t1.isMap (lit_key _ hxw) _ _
    · rw [if_neg c1] at hc
      by_cases c2 : c = i
      · rw [if_pos c2, hj] at hc
        cases hc
        subst c2
        have hne : y.k ≠ x.k := fun e => c1 (h.key hi hj e.symm)
        rw [atKey_put_other (fun e' => hne (lit_inj hyw hxw e'))]
        exact atKey_put_same h.tidy.isMap (lit_key _ hyw) _ _
      · rw [if_neg c2] at hc
        have hew := h.wf e (List.mem_of_getElem? hc)
        have n1 : e.k ≠ x.k := fun e' => c2 (h.key hc hi e')
        have n2 : e.k ≠ y.k := fun e' => c1 (h.key hc hj e')
        rw [atKey_put_other (fun e' => n1 (lit_inj hew hxw e')), atKey_put_other (fun e' => n2 (lit_inj hew hyw e'))]
        exact h.at_ c e hc
  · rw [size_put t1, hhx', if_pos rfl, size_put h.tidy, hhy, if_pos rfl, swapL_length]
    exact h.size
/-- The last one is gone. -/
theorem Places.cut {D : DataW Unit} {l : List Ent} {x : Ent} (h : Places D (l ++ [x])) : Places (D.del x.k.lit) l := by
  have hxw := h.wf x (by simp)
  have hnd := h.nodup
  rw [List.map_append, List.nodup_append] at hnd
  have hne : ∀ e ∈ l, e.k ≠ x.k := fun e he => hnd.2.2 e.k (List.mem_map.2 ⟨e, he, rfl⟩) x.k (by simp)
  have hhx : Maps.has D x.k.lit = true := by rw [h.has _ hxw, decide_eq_true_eq]; exact ⟨x, by simp, rfl⟩
  refine ⟨h.tidy.del _, fun e he => h.wf e (by simp [he]), hnd.1, fun k hk => ?_, fun i e hi => ?_, ?_⟩
  · by_cases e : k = x.k
    · subst e
      rw [has_del_same]
      symm
      rw [decide_eq_false_iff_not]
      rintro ⟨y, hy, ey⟩
      exact hne y hy ey
    · rw [has_del_other (fun e' => e (lit_inj hk hxw e')), h.has k hk, decide_eq_decide]
      refine ⟨fun ⟨y, hy, ey⟩ => ?_, fun ⟨y, hy, ey⟩ => ⟨y, by simp [hy], ey⟩⟩
      rcases List.mem_append.1 hy with hy | hy
      · exact ⟨y, hy, ey⟩
      · simp at hy; subst hy; exact absurd ey.symm e
  · have hm := List.mem_of_getElem? hi
    rw [atKey_del_other (fun e' => hne e hm (lit_inj (h.wf e (by simp [hm])) hxw e'))]
    exact h.at_ i e (by rw [List.getElem?_append_left (List.getElem?_eq_some_iff.1 hi).1]; exact hi)
  · have h1 := size_del (k := x.k.lit) h.tidy
    rw [hhx, if_pos rfl, h.size, List.length_append, List.length_singleton] at h1
    omega

/-- The parts of a heap. -/
abbrev entR (ev : Value) (l : List Ent) : World → List Nat → Prop := rowR 68 5 ev l.length (flat Ent.cells l)
abbrev plR (M : Nat) (D : DataW Unit) : World → List Nat → Prop := mapR Try.prog 33 3 M D
def heap0 (b : Nat) (ev : Value) (M : Nat) (D : DataW Unit) (l : List Ent) : World → List Nat → Prop := sepR (boxR b #[ev, .map (some M)] 64) (sepR (plR M D) (entR ev l))
/-- A heap with these entries, in whatever order. -/
def rawR (b : Nat) (l : List Ent) : World → List Nat → Prop := fun w F => ∃ x : Value × Nat × DataW Unit, factR (Places x.2.2 l) (heap0 b x.1 x.2.1 x.2.2 l) w F
theorem heap0_stable (b : Nat) (ev : Value) (M : Nat) (D : DataW Unit) (l : List Ent) : Stable (heap0 b ev M D l) := sepR_stable (boxR_stable _ _ _) (sepR_stable (mapR_stable _ _ _ _ _) (rowR_stable _ _ _ _ _))
theorem rawR_stable (b : Nat) (l : List Ent) : Stable (rawR b l) := exR_stable fun _ => factR_stable (heap0_stable _ _ _ _ _)
section
variable {B : Nat} {w0 w w' : World} {Q : World → List Nat → Prop} {L : List (Nat × Obj)} {b : Nat} {l : List Ent}
theorem Holds.rawOpen (h : Holds B w0 (sepR (rawR b l) Q) w L) : ∃ ev M D, Places D l ∧ Holds B w0 (sepR (heap0 b ev M D l) Q) w L := by
  obtain ⟨⟨ev, M, D⟩, h1⟩ := h.ex
  obtain ⟨h2, h3⟩ := h1.fact
  exact ⟨ev, M, D, h2, h3⟩
theorem Holds.rawShut {ev : Value} {M : Nat} {D : DataW Unit} (hp : Places D l) (h : Holds B w0 (sepR (heap0 b ev M D l) Q) w L) : Holds B w0 (sepR (rawR b l) Q) w L := Holds.ofEx (ev, M, D) (Holds.ofFact hp h)
variable {ev : Value} {M : Nat} {D : DataW Unit}
/-- Each part, first. -/
theorem Holds.hBox (h : Holds B w0 (sepR (heap0 b ev M D l) Q) w L) : Holds B w0 (sepR (boxR b #[ev, .map (some M)] 64) (sepR (sepR (plR M D) (entR ev l)) Q)) w L := h.conv Conv.flat
theorem Holds.hBox' (h : Holds B w0 (sepR (boxR b #[ev, .map (some M)] 64) (sepR (sepR (plR M D) (entR ev l)) Q)) w L) : Holds B w0 (sepR (heap0 b ev M D l) Q) w L := h.conv Conv.fold
theorem Holds.hMap (h : Holds B w0 (sepR (heap0 b ev M D l) Q) w L) : Holds B w0 (sepR (plR M D) (sepR (sepR (boxR b #[ev, .map (some M)] 64) (entR ev l)) Q)) w L := h.conv ((Conv.exch).left.trans Conv.flat)
theorem Holds.hMap' (h : Holds B w0 (sepR (plR M D) (sepR (sepR (boxR b #[ev, .map (some M)] 64) (entR ev l)) Q)) w L) : Holds B w0 (sepR (heap0 b ev M D l) Q) w L := h.conv (Conv.fold.trans (Conv.exch).left)
theorem Holds.hRow (h : Holds B w0 (sepR (heap0 b ev M D l) Q) w L) : Holds B w0 (sepR (entR ev l) (sepR (sepR (boxR b #[ev, .map (some M)] 64) (plR M D)) Q)) w L :=
  h.conv ((Conv.fold.trans Conv.comm).left.trans Conv.flat)
theorem Holds.hRow' (h : Holds B w0 (sepR (entR ev l) (sepR (sepR (boxR b #[ev, .map (some M)] 64) (plR M D)) Q)) w L) : Holds B w0 (sepR (heap0 b ev M D l) Q) w L :=
  h.conv (Conv.fold.trans (Conv.comm.trans Conv.flat).left)
theorem Holds.hCell0 (h : Holds B w0 (sepR (heap0 b ev M D l) Q) w L) : w.cell? ⟨b, 0, none⟩ = some ev ∧ w.cell? ⟨b, 1, none⟩ = some (.map (some M)) ∧ w.frozen? ⟨b, 0, none⟩ = false ∧ b < w.heap.size := by
  have h1 := h.hBox.theBox
  exact ⟨(cells2 h1).1, (cells2 h1).2, frozen_of_obj h1 0, lt_of_obj h1⟩
theorem Holds.entAt {g n cap : Nat} (hQ : Holds B w0 (sepR (heap0 b (.slice (some ⟨g, 0, none⟩) n cap) M D l) Q) w L) {i : Nat} {e : Ent} (he : l[i]? = some e) :
    w.cell? ⟨g, i * 5, none⟩ = some (.int .i64 e.k.at_) ∧ w.cell? ⟨g, i * 5 + 1, none⟩ = some (.int .i64 e.k.src) ∧ w.cell? ⟨g, i * 5 + 2, none⟩ = some (.int .i64 e.k.sent) ∧ w.cell? ⟨g, i * 5 + 3, none⟩ = some (.int .i64 e.k.no) ∧
      w.cell? ⟨g, i * 5 + 4, none⟩ = some (.int .i64 e.v) := by
  have hr := hQ.hRow.row
  have hl := (List.getElem?_eq_some_iff.1 he).1
  have hx : ∀ (j : Nat) (u : Value), e.cells[j]? = some u → w.cell? ⟨g, i * 5 + j, none⟩ = some u := fun j u hj => by
    have h1 := flat_get ent_len he hj
    have h2 := (List.getElem?_eq_some_iff.1 h1).1
    have hn : n = l.length := by
      rcases row_nil_or hr with ⟨h0, _⟩ | ⟨_, _, hv, _⟩
      · simp at h0
      · simp only [Value.slice.injEq] at hv; exact hv.2.1
    subst hn
    rw [hr.cellAt _ (by rw [flat_length ent_len] at h2; exact h2)]
    exact h1
  exact ⟨hx 0 _ rfl, hx 1 _ rfl, hx 2 _ rfl, hx 3 _ rfl, hx 4 _ rfl⟩
/-- The row's value, where there is an entry. -/
theorem Holds.rowVal (h : Holds B w0 (sepR (heap0 b ev M D l) Q) w L) (hl : 0 < l.length) : ∃ g cap, ev = .slice (some ⟨g, 0, none⟩) l.length cap ∧ g < w.heap.size ∧ l.length ≤ cap ∧ cap ≤ maxLen := row_some h.hRow.row hl
end
section
variable {B : Nat} {w0 w w' : World} {Q : World → List Nat → Prop} {L : List (Nat × Obj)} {b M : Nat} {D : DataW Unit} {l : List Ent}
theorem Holds.hApart {g n cap : Nat} (h : Holds B w0 (sepR (heap0 b (.slice (some ⟨g, 0, none⟩) n cap) M D l) Q) w L) : b ≠ g ∧ b ≠ M ∧ M ≠ g := by
  obtain ⟨F, h, _⟩ := h
  obtain ⟨F1, F2, ⟨G1, G2, ⟨_, rfl⟩, ⟨G3, G4, ⟨_, rfl⟩, ⟨_, rfl⟩, hd1, _, _, rfl⟩, hd2, _⟩, _⟩ := h.res
  refine ⟨fun e => ?_, fun e => ?_, fun e => ?_⟩
  · subst e; exact hd2 b (by simp) (by simp [Value.ownBlock])
  · subst e; exact hd2 b (by simp) (by simp)
  · subst e; exact hd1 M (by simp) (by simp [Value.ownBlock])
/-- Two entries of the row are written. -/
theorem Holds.hSwap {g cap : Nat} (hQ : Stable Q) (h : Holds B w0 (sepR (heap0 b (.slice (some ⟨g, 0, none⟩) l.length cap) M D l) Q) w L) {i j : Nat} {x y : Ent} (hi : l[i]? = some x) (hj : l[j]? = some y) :
    Holds B w0 (sepR (heap0 b (.slice (some ⟨g, 0, none⟩) l.length cap) M D (swapL l i j)) Q) (storeAll (storeAll w g (i * 5) y.cells) g (j * 5) x.cells) L := by
  have hil := (List.getElem?_eq_some_iff.1 hi).1
  have hjl := (List.getElem?_eq_some_iff.1 hj).1
  have hS : Stable (sepR (sepR (boxR b #[.slice (some ⟨g, 0, none⟩) l.length cap, .map (some M)] 64) (plR M D)) Q) := sepR_stable (sepR_stable (boxR_stable _ _ _) (mapR_stable _ _ _ _ _)) hQ
  have h1 := h.hRow.putFlat ent_len hS hil y
  have h2 := h1.putFlat ent_len hS (l := l.set i y) (i := j) (by rw [List.length_set]; exact hjl) x
  refine Holds.hRow' ?_
  unfold entR
  rw [swapL_length, swapL_eq hi hj]
  exact h2
end
theorem infoEntry : (Try.prog.info? 68).map (fun i => (i.zero, i.size, i.bytes)) = some (some (.agg #[.int .i64 0, .int .i64 0, .int .i64 0, .int .i64 0, .int .i64 0]), 5, 40) := by kernel_rfl
end Go.Proofs.Ytclaicpnjllhjaa
