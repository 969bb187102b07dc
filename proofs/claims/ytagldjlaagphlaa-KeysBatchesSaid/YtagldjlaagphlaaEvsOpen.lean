/- What comes in: events. -/
import Derived.Test.YtagldjlaagphlaaKeysOpen
import Derived.Test.YtagldjlaagphlaaSortV
namespace Go.Proofs.Ytagldjlaagphlaa
open Go.RowKit Go.ChangeShapes Go.WideShapes Go.ChangeAt Go.Deep

section
variable {H : Type} {enc : TypeId × Value → H} {w : World} {d : DataW H} {ps : List MemPlace} {base : Nat} {spare : Nat → Bool} {held : Bool}

theorem open_evs {a : Option Addr} {n cap : Nat} (h : DataW.Trod enc Try.prog w base spare held 35 (.slice a n cap) d ps) : ∃ l, EvsAt w a n cap l := by
  obtain ⟨h1, h2, h3⟩ := open_plain_slice (P := Try.prog) Try.underlying35 (by kernel_rfl) plain_Event (by decide) h
  rcases h3 with h0 | ⟨b, off, rfl, hb, hcells⟩
  · subst h0
    exact ⟨[], rfl, h1, h2, .inl rfl⟩
  · obtain ⟨l, hl, hq⟩ := list_of (Q := fun i (m : Ev) => ∀ (j : Nat) (u : Value), m.cells[j]? = some u → w.cell? ⟨b, off + i * 7 + j, none⟩ = some u) n (fun i hi => by
      obtain ⟨_, c0, n0, rfl, w0⟩ := hcells i hi 0 _ rfl
      obtain ⟨_, c1, n1, rfl, w1⟩ := hcells i hi 1 _ rfl
      obtain ⟨_, c2, n2, rfl, w2⟩ := hcells i hi 2 _ rfl
      obtain ⟨_, c3, n3, rfl, w3⟩ := hcells i hi 3 _ rfl
      obtain ⟨_, c4, n4, rfl, w4⟩ := hcells i hi 4 _ rfl
      obtain ⟨_, c5, n5, rfl, w5⟩ := hcells i hi 5 _ rfl
      obtain ⟨_, c6, n6, rfl, w6⟩ := hcells i hi 6 _ rfl
      refine ⟨⟨⟨n0, n1, n2, n3⟩, n4, n5, n6⟩, fun j u hj => ?_⟩
      match j with
      | 0 => cases hj; exact c0
      | 1 => cases hj; exact c1
      | 2 => cases hj; exact c2
      | 3 => cases hj; exact c3
      | 4 => cases hj; exact c4
      | 5 => cases hj; exact c5
      | 6 => cases hj; exact c6
      | j + 7 => simp [Ev.cells] at hj)
    exact ⟨l, hl, h1, h2, .inr ⟨b, off, rfl, hb, fun k o hk => hq k o hk⟩⟩
theorem open_evs_nil {a : Option Addr} {n cap : Nat} (h : DataW.Trod enc Try.prog w base spare held 35 (.slice a n cap) d ps) (ha : a = none) : n = 0 ∧ cap = 0 := by
  subst ha
  obtain ⟨fuel, hf⟩ := h
  rcases open_slice Try.underlying35 hf with ⟨hcs, _⟩ | ⟨ad, len', cap', m, n, D, Pl, hcs, _⟩
  · simp [Value.cells] at hcs
    exact hcs
  · simp [Value.cells] at hcs
end
end Go.Proofs.Ytagldjlaagphlaa
