/- What comes in as data, opened to its cells: numbers, bools, texts, structs and arrays of these (whatever they hold), and slices of them. -/
import Derived.Test.YtpfolcoijncfjaaHold
import Derived.ProofKit
import Derived.OpenShut
import Derived.Deep.Slices
namespace Go.Proofs.Ytpfolcoijncfjaa
open Go.RowKit Go.ChangeShapes Go.WideShapes Go.Deep

inductive Kd where
  | int (k : IntKind)
  | bool
  | str
def Fits : Kd → Value → Prop
  | .int k, v => ∃ n, v = .int k n ∧ (Lit.int k n).wf = true
  | .bool, v => ∃ b, v = .bool b
  | .str, v => ∃ s, v = .string s ∧ s.size ≤ maxLen

/-- Whatever reads as a value of the type has these cells. -/
def Plain (P : Program) (t : TypeId) (ks : List Kd) : Prop :=
  ∀ (H : Type) (enc : TypeId × Value → H) (w : World) (base : Nat) (spare : Nat → Bool) (held : Bool) (fuel : Nat) (cs : List Value) (x : DataW H × List MemPlace),
    DataW.trod enc P w base spare held fuel t cs = some x → cs.length = ks.length ∧ ∀ (j : Nat) (k : Kd), ks[j]? = some k → ∃ v, cs[j]? = some v ∧ Fits k v

section
variable {P : Program} {t e : TypeId}

theorem plain_int {k : IntKind} (ht : P.underlying t = some (.int k)) : Plain P t [.int k] := by
  intro H enc w base spare held fuel cs x h
  obtain ⟨n, rfl, _, hw⟩ := DataW.trod_int ht h
  refine ⟨rfl, fun j k' hj => ?_⟩
  cases j with
  | zero => simp at hj; subst hj; exact ⟨_, rfl, n, rfl, hw⟩
  | succ j => simp at hj
theorem plain_bool (ht : P.underlying t = some .bool) : Plain P t [.bool] := by
  intro H enc w base spare held fuel cs x h
  obtain ⟨b, rfl, _⟩ := DataW.trod_bool ht h
  refine ⟨rfl, fun j k' hj => ?_⟩
  cases j with
  | zero => simp at hj; subst hj; exact ⟨_, rfl, b, rfl⟩
  | succ j => simp at hj
theorem plain_str (ht : P.underlying t = some .string) : Plain P t [.str] := by
  intro H enc w base spare held fuel cs x h
  obtain ⟨s, rfl, _, hs⟩ := DataW.trod_string ht h
  refine ⟨rfl, fun j k' hj => ?_⟩
  cases j with
  | zero => simp at hj; subst hj; exact ⟨_, rfl, s, rfl, hs⟩
  | succ j => simp at hj

theorem flatten_at {α : Type} : ∀ (kss : List (List α)) (j : Nat) (k : α), kss.flatten[j]? = some k → ∃ (i : Nat) (ks : List α), kss[i]? = some ks ∧ (kss.take i).flatten.length ≤ j ∧ ks[j - (kss.take i).flatten.length]? = some k
  | [], j, k, h => by simp at h
  | a :: kss, j, k, h => by
    by_cases hj : j < a.length
    · refine ⟨0, a, rfl, by simp, ?_⟩
      rw [List.flatten_cons, List.getElem?_append_left hj] at h
      simpa using h
    · rw [List.flatten_cons, List.getElem?_append_right (by omega)] at h
      obtain ⟨i, ks, h1, h2, h3⟩ := flatten_at kss _ k h
      refine ⟨i + 1, ks, by simpa using h1, by simp only [List.take_succ_cons, List.flatten_cons, List.length_append]; omega, ?_⟩
      simp only [List.take_succ_cons, List.flatten_cons, List.length_append]
      rw [show j - (a.length + ((kss.take i).flatten).length) = j - a.length - (kss.take i).flatten.length by omega]
      exact h3

theorem plain_struct {fs : Array Field} (kss : List (List Kd)) (ht : P.underlying t = some (.struct fs)) (hC : P.cellsOf t = kss.flatten.length) (hs : kss.length = fs.size)
    (hf : ∀ (i : Nat) (f : Field) (ks : List Kd), fs[i]? = some f → kss[i]? = some ks → Plain P f.type ks ∧ f.offset = (kss.take i).flatten.length ∧ P.cellsOf f.type = ks.length) : Plain P t kss.flatten := by
  intro H enc w base spare held fuel cs x h
  obtain ⟨xs, n, _, _, hlen, hxl, hg⟩ := DataW.trod_struct ht h
  refine ⟨hlen.trans hC, fun j k hj => ?_⟩
  obtain ⟨i, ks, h1, h2, h3⟩ := flatten_at kss j k hj
  have hi : i < fs.size := by have := (List.getElem?_eq_some_iff.1 h1).1; omega
  have hfi : fs[i]? = some fs[i] := by simp [hi]
  obtain ⟨hp, ho, hc⟩ := hf i fs[i] ks hfi h1
  have hx := hg i fs[i] hfi
  obtain ⟨y, hy⟩ : ∃ y, xs[i]? = some y := ⟨_, List.getElem?_eq_getElem (by omega)⟩
  rw [hy] at hx
  obtain ⟨_, hk⟩ := hp H enc w base spare held n _ y hx
  obtain ⟨v, hv, hfit⟩ := hk _ k h3
  refine ⟨v, ?_, hfit⟩
  rw [List.getElem?_take] at hv
  split at hv
  · rw [List.getElem?_drop, ho] at hv
    rw [show (kss.take i).flatten.length + (j - (kss.take i).flatten.length) = j by omega] at hv
    exact hv
  · cases hv

theorem plain_array {n : Nat} {ks : List Kd} (ht : P.underlying t = some (.array n e)) (hC : P.cellsOf t = n * ks.length) (he : P.cellsOf e = ks.length) (hp : Plain P e ks) : Plain P t (List.replicate n ks).flatten := by
  intro H enc w base spare held fuel cs x h
  obtain ⟨xs, m, _, _, hlen, hxl, hg⟩ := DataW.trod_array ht h
  have hfl : ∀ i, (((List.replicate n ks).take i).flatten).length = (min i n) * ks.length := fun i => by simp [List.take_replicate]
  have hfn : ((List.replicate n ks).flatten).length = n * ks.length := by simp
  refine ⟨by rw [hlen, hC, hfn], fun j k hj => ?_⟩
  obtain ⟨i, ks', h1, h2, h3⟩ := flatten_at _ j k hj
  have hi : i < n := by have := (List.getElem?_eq_some_iff.1 h1).1; simpa using this
  have hks : ks' = ks := by rw [List.getElem?_replicate] at h1; simp [hi] at h1; exact h1.symm
  subst hks
  have hx := hg i hi
  obtain ⟨y, hy⟩ : ∃ y, xs[i]? = some y := ⟨_, List.getElem?_eq_getElem (by omega)⟩
  rw [hy] at hx
  obtain ⟨_, hk⟩ := hp H enc w base spare held m _ y hx
  obtain ⟨v, hv, hfit⟩ := hk _ k h3
  refine ⟨v, ?_, hfit⟩
  rw [hfl, Nat.min_eq_left (by omega)] at h2 hv
  rw [List.getElem?_take] at hv
  split at hv
  · rw [List.getElem?_drop, he] at hv
    rw [show i * ks'.length + (j - i * ks'.length) = j by omega] at hv
    exact hv
  · cases hv

theorem okWide_array {n : Nat} {w : World} {r : Reach} {base : Nat} {v : Value} (ht : P.underlying t = some (.array n e)) (h : Value.okWide P w r base t v) : ∃ cs, v = .agg cs ∧ cs.size = P.cellsOf t := by
  unfold Value.okWide at h
  rw [ht] at h
  obtain ⟨cs, h1, h2, _⟩ := h
  exact ⟨cs, h1, h2⟩

theorem add_cell {w : World} {a : Addr} {v : Value} (h : w.cell? a = some v) : a.spot = none := by
  unfold World.cell? at h
  split at h
  · split at h
    · cases h
    · cases hs : a.spot with
      | none => rfl
      | some s => rename_i h'; simp [hs] at h'
  · cases h

/-- A slice of such values. -/
theorem open_plain_slice {ks : List Kd} (ht : P.underlying t = some (.slice e)) (he : P.cellsOf e = ks.length) (hp : Plain P e ks) (hk0 : 0 < ks.length)
    {H : Type} {enc : TypeId × Value → H} {w : World} {base : Nat} {spare : Nat → Bool} {held : Bool} {a : Option Addr} {len cap : Nat} {d : DataW H} {ps : List MemPlace}
    (h : DataW.Trod enc P w base spare held t (.slice a len cap) d ps) :
    len ≤ cap ∧ cap ≤ maxLen ∧ (len = 0 ∨ ∃ b off, a = some ⟨b, off, none⟩ ∧ b < w.heap.size ∧
      ∀ (i : Nat), i < len → ∀ (j : Nat) (k : Kd), ks[j]? = some k → ∃ v, w.cell? ⟨b, off + i * ks.length + j, none⟩ = some v ∧ Fits k v) := by
  obtain ⟨fuel, hf⟩ := h
  rcases open_slice ht hf with ⟨hcs, _⟩ | ⟨ad, len', cap', m, n, D, Pl, hcs, hb, hl, hm, hmm, hx, hi⟩
  · simp [Value.cells] at hcs
    obtain ⟨rfl, rfl, rfl⟩ := hcs
    exact ⟨Nat.le_refl _, by unfold maxLen; omega, .inl rfl⟩
  · simp [Value.cells] at hcs
    obtain ⟨rfl, rfl, rfl⟩ := hcs
    refine ⟨hl, hm, ?_⟩
    by_cases h0 : len = 0
    · exact .inl h0
    · right
      have hlm : len ≤ m := by rw [hmm]; split <;> omega
      have hcells : ∀ i, i < len → ∀ (j : Nat) (k : Kd), ks[j]? = some k → ∃ v, w.cell? ((ad.add (i * ks.length)).add j) = some v ∧ Fits k v := by
        intro i hi' j k hk
        obtain ⟨cs', hc, ht'⟩ := hi i (by omega)
        rw [he] at hc
        obtain ⟨_, hcl, hat⟩ := World.cells?_some hc
        obtain ⟨_, hk'⟩ := hp H enc w base spare held n cs' _ ht'
        obtain ⟨v, hv, hfit⟩ := hk' j k hk
        refine ⟨v, ?_, hfit⟩
        rw [hat j (by have := (List.getElem?_eq_some_iff.1 hk).1; omega)]
        exact hv
      obtain ⟨k0, hk0'⟩ : ∃ k, ks[0]? = some k := ⟨_, List.getElem?_eq_getElem hk0⟩
      obtain ⟨v0, hv0, _⟩ := hcells 0 (by omega) 0 k0 hk0'
      have hz : (ad.add (0 * ks.length)).add 0 = ad := by simp [Addr.add]
      rw [hz] at hv0
      obtain ⟨b, off, spot⟩ := ad
      have hsp : spot = none := add_cell hv0
      subst hsp
      refine ⟨b, off, rfl, World.block_lt_of_cell? w _ hv0, fun i hi' j k hk => ?_⟩
      obtain ⟨v, hv, hfit⟩ := hcells i hi' j k hk
      rw [addr_add, addr_add] at hv
      exact ⟨v, hv, hfit⟩

/-- For each index one: a list. -/
theorem list_of {α : Type} {Q : Nat → α → Prop} : ∀ (n : Nat), (∀ i, i < n → ∃ o, Q i o) → ∃ l : List α, l.length = n ∧ ∀ i o, l[i]? = some o → Q i o
  | 0, _ => ⟨[], rfl, fun i o h => by simp at h⟩
  | n + 1, h => by
    obtain ⟨l, hl, hq⟩ := list_of n (fun i hi => h i (by omega))
    obtain ⟨o, ho⟩ := h n (by omega)
    refine ⟨l ++ [o], by simp [hl], fun i o' hi => ?_⟩
    by_cases hlt : i < n
    · rw [List.getElem?_append_left (by omega)] at hi
      exact hq i o' hi
    · have hlen := (List.getElem?_eq_some_iff.1 hi).1
      simp at hlen
      have : i = n := by omega
      subst this
      rw [List.getElem?_append_right (by omega), hl] at hi
      simp at hi
      subst hi
      exact ho
end
end Go.Proofs.Ytpfolcoijncfjaa
