/- does: a play's step, whole. -/
import Derived.Test.YtpfolcoijncfjaaSlabDoesT
import Derived.Test.YtpfolcoijncfjaaSlabDoesU
import Derived.Test.YtpfolcoijncfjaaSlabDoesV
namespace Go.Proofs.Ytpfolcoijncfjaa
open Go.RowKit

section
variable {B : Nat} {w0 w : World} {Q : World → List Nat → Prop} {L : List (Nat × Obj)}
theorem does_any (hQ : Stable Q) {P hb rb : Nat} {s : St} {l : List (Int × Int)} (h : Holds B w0 (playR P hb rb s l Q) w L) (ho : s.Ok) (ht : s.turn ≤ 1000000) (hl : l.length ≤ 1000) (o : OpV) (hL : ∀ p ∈ L, p.1 < w.heap.size) :
    Calls Try.prog 13 #[.pointer (some ⟨P, 0, none⟩), o.val] w (Goes (.bool true) B w0 (playR P hb rb (doesS s l o) (l ++ [doesH s o]) Q) L) := by
  obtain ⟨k, cls, urg, v, at_, hx, hz⟩ := o
  by_cases hk : k = 0
  · subst hk
    exact does_take hQ h ho ht hl cls v at_ hx hz urg hL
  · have e1 : doesH s ⟨k, cls, urg, v, at_, hx, hz⟩ = (-1, 0) := if_neg hk
    rw [e1]
    cases hlk : s.look (handleAt l ⟨k, cls, urg, v, at_, hx, hz⟩).1 (handleAt l ⟨k, cls, urg, v, at_, hx, hz⟩).2 with
    | none =>
      have e2 : doesS s l ⟨k, cls, urg, v, at_, hx, hz⟩ = s := by
        unfold doesS
        rw [if_neg hk, hlk]
      rw [e2]
      exact does_none hQ h ho hl k cls v at_ hx hz urg hL hk hlk
    | some q =>
      obtain ⟨i, c, u⟩ := q
      exact does_some hQ h ho hl k cls v at_ hx hz urg hL hk hlk
end
end Go.Proofs.Ytpfolcoijncfjaa
