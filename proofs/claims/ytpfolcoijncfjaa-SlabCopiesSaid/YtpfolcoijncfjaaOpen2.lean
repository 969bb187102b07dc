/- What comes in, opened into values of one's own: whatever has an encoding. -/
import Derived.Test.YtpfolcoijncfjaaOpen
import Derived.Test.YtpfolcoijncfjaaRow
namespace Go.Proofs.Ytpfolcoijncfjaa
open Go.RowKit Go.ChangeShapes Go.WideShapes Go.Deep

/-- A row of values that fits these kinds. -/
def FitsAll (ks : List Kd) (vs : List Value) : Prop := vs.length = ks.length ∧ ∀ (j : Nat) (k : Kd), ks[j]? = some k → ∃ v, vs[j]? = some v ∧ Fits k v
/-- Whatever fits is one's own. -/
def Makes {α : Type} (ks : List Kd) (enc : α → List Value) (W : α → Prop) : Prop := ∀ vs, FitsAll ks vs → ∃ x, enc x = vs ∧ W x

section
variable {P : Program} {t e : TypeId} {ks : List Kd} {α : Type} {enc' : α → List Value} {W : α → Prop}
variable {H : Type} {enc : TypeId × Value → H} {w : World} {base : Nat} {spare : Nat → Bool} {held : Bool} {d : DataW H} {ps : List MemPlace}

theorem open_slAt (ht : P.underlying t = some (.slice e)) (he : P.cellsOf e = ks.length) (hp : Plain P e ks) (hk0 : 0 < ks.length) (hm : Makes ks enc' W) {a : Option Addr} {n cap : Nat}
    (h : DataW.Trod enc P w base spare held t (.slice a n cap) d ps) : ∃ l, SlAt enc' ks.length w a n cap l ∧ ∀ x ∈ l, W x := by
  obtain ⟨h1, h2, h3⟩ := open_plain_slice ht he hp hk0 h
  rcases h3 with h0 | ⟨b, off, rfl, hb, hcells⟩
  · subst h0
    exact ⟨[], ⟨rfl, h1, h2, .inl rfl⟩, by simp⟩
  · obtain ⟨l, hl, hq⟩ := list_of (Q := fun i (x : α) => W x ∧ ∀ (j : Nat) (u : Value), (enc' x)[j]? = some u → w.cell? ⟨b, off + i * ks.length + j, none⟩ = some u) n (fun i hi => by
      obtain ⟨vs, hvl, hvs⟩ := list_of (Q := fun j (v : Value) => w.cell? ⟨b, off + i * ks.length + j, none⟩ = some v ∧ ∀ k, ks[j]? = some k → Fits k v) ks.length (fun j hj => by
        obtain ⟨v, c0, hf⟩ := hcells i hi j _ (List.getElem?_eq_getElem hj)
        exact ⟨v, c0, fun k hk => by rw [List.getElem?_eq_getElem hj] at hk; cases hk; exact hf⟩)
      obtain ⟨x, hx, hw⟩ := hm vs ⟨hvl, fun j k hk => by
        have hj := (List.getElem?_eq_some_iff.1 hk).1
        have hj' : j < vs.length := by omega
        exact ⟨vs[j], List.getElem?_eq_getElem hj', (hvs j _ (List.getElem?_eq_getElem hj')).2 k hk⟩⟩
      exact ⟨x, hw, fun j u hj => by rw [hx] at hj; exact (hvs j u hj).1⟩)
    exact ⟨l, ⟨hl, h1, h2, .inr ⟨b, off, rfl, hb, fun k o hk => (hq k o hk).2⟩⟩, fun o ho => by
      obtain ⟨i, hi⟩ := List.mem_iff_getElem?.1 ho
      exact (hq i o hi).1⟩
theorem open_sl_nil (ht : P.underlying t = some (.slice e)) {a : Option Addr} {n cap : Nat} (h : DataW.Trod enc P w base spare held t (.slice a n cap) d ps) (ha : a = none) : n = 0 ∧ cap = 0 := by
  subst ha
  obtain ⟨fuel, hf⟩ := h
  rcases open_slice ht hf with ⟨hcs, _⟩ | ⟨ad, len', cap', m, n, D, Pl, hcs, _⟩
  · simp [Value.cells] at hcs
    exact hcs
  · simp [Value.cells] at hcs
theorem open_agg {fs : Array Field} (hs : P.underlying t = some (.struct fs)) (hp : Plain P t ks) (hm : Makes ks enc' W) {r : Reach} {b0 : Nat} {v : Value} (hv : Value.okWide P w r b0 t v) (h : DataW.Trod enc P w base spare held t v d ps) :
    ∃ x, v = .agg (enc' x).toArray ∧ W x := by
  obtain ⟨cs, rfl, hc⟩ := okWide_struct hs hv
  obtain ⟨fuel, hf⟩ := h
  obtain ⟨hl, hk⟩ := hp H enc w base spare held fuel _ _ hf
  simp only [Value.cells] at hl hk
  obtain ⟨x, hx, hw⟩ := hm cs.toList ⟨hl, hk⟩
  exact ⟨x, by rw [hx], hw⟩
end

/-- A row of numbers. -/
theorem fits_ints {n : Nat} {vs : List Value} (h : FitsAll (List.replicate n (.int .i64)) vs) : ∃ ns : List Int, vs = ns.map (Value.int .i64) ∧ ns.length = n ∧ ∀ x ∈ ns, (Lit.int .i64 x).wf = true := by
  obtain ⟨h1, h2⟩ := h
  rw [List.length_replicate] at h1
  have h3 : ∀ v ∈ vs, ∃ n : Int, v = .int .i64 n ∧ (Lit.int .i64 n).wf = true := fun v hv => by
    obtain ⟨j, hj⟩ := List.mem_iff_getElem?.1 hv
    obtain ⟨u, hu, hf⟩ := h2 j (.int .i64) (by rw [List.getElem?_replicate]; simp; have := (List.getElem?_eq_some_iff.1 hj).1; omega)
    rw [hj] at hu
    cases hu
    exact hf
  clear h2
  induction vs generalizing n with
  | nil => exact ⟨[], rfl, by simpa using h1, by simp⟩
  | cons v vs ih =>
    obtain ⟨x, rfl, hx⟩ := h3 v (by simp)
    obtain ⟨ns, rfl, hl, hw⟩ := ih (n := vs.length) rfl (fun u hu => h3 u (by simp [hu]))
    refine ⟨x :: ns, rfl, by simp at h1; simpa using h1, fun y hy => ?_⟩
    rcases List.mem_cons.1 hy with rfl | hy
    · exact hx
    · exact hw y hy
theorem makes_int : Makes [.int .i64] intEnc (fun x => (Lit.int .i64 x).wf = true) := fun vs h => by
  obtain ⟨ns, rfl, hl, hw⟩ := fits_ints (n := 1) h
  match ns, hl with
  | [x], _ => exact ⟨x, rfl, hw x (by simp)⟩
end Go.Proofs.Ytpfolcoijncfjaa
