/- What comes in to a law of slabs: numbers, pairs of numbers, calls. -/
import Derived.Test.YtpfolcoijncfjaaSlabOps
import Derived.Test.YtpfolcoijncfjaaOpen
namespace Go.Proofs.Ytpfolcoijncfjaa
open Go.RowKit Go.ChangeShapes Go.WideShapes Go.ChangeAt

theorem own : ownKnob Try.prog.godebug = none := by kernel_rfl
theorem laidOut : laidOutB Try.prog = true := by kernel_rfl

theorem plain_Int : Plain Try.prog 3 [.int .i64] := plain_int Try.underlying3
theorem plain_Bool : Plain Try.prog 4 [.bool] := plain_bool Try.underlying4
theorem plain_Handle : Plain Try.prog 38 [.int .i64, .int .i64] := by
  refine plain_struct [[.int .i64], [.int .i64]] Try.underlying38 (by kernel_rfl) rfl ?_
  intro i f ks h1 h2
  match i with
  | 0 => cases h1; cases h2; exact ⟨plain_Int, rfl, by kernel_rfl⟩
  | 1 => cases h1; cases h2; exact ⟨plain_Int, rfl, by kernel_rfl⟩
  | i + 2 => simp at h2
theorem plain_Op : Plain Try.prog 40 [.int .i64, .int .i64, .bool, .int .i64, .int .i64, .int .i64, .int .i64] := by
  refine plain_struct [[.int .i64], [.int .i64], [.bool], [.int .i64], [.int .i64], [.int .i64, .int .i64]] Try.underlying40 (by kernel_rfl) rfl ?_
  intro i f ks h1 h2
  match i with
  | 0 => cases h1; cases h2; exact ⟨plain_Int, rfl, by kernel_rfl⟩
  | 1 => cases h1; cases h2; exact ⟨plain_Int, rfl, by kernel_rfl⟩
  | 2 => cases h1; cases h2; exact ⟨plain_Bool, rfl, by kernel_rfl⟩
  | 3 => cases h1; cases h2; exact ⟨plain_Int, rfl, by kernel_rfl⟩
  | 4 => cases h1; cases h2; exact ⟨plain_Int, rfl, by kernel_rfl⟩
  | 5 => cases h1; cases h2; exact ⟨plain_Handle, rfl, by kernel_rfl⟩
  | i + 6 => simp at h2
theorem plain_two : Plain Try.prog 22 [.int .i64, .int .i64] := plain_array (n := 2) (ks := [.int .i64]) Try.underlying22 (by kernel_rfl) (by kernel_rfl) plain_Int

section
variable {H : Type} {enc : TypeId × Value → H} {w : World} {d : DataW H} {ps : List MemPlace} {base : Nat} {spare : Nat → Bool} {held : Bool}

theorem open_ops {a : Option Addr} {n cap : Nat} (h : DataW.Trod enc Try.prog w base spare held 23 (.slice a n cap) d ps) : ∃ l, OpsAt w a n cap l := by
  obtain ⟨h1, h2, h3⟩ := open_plain_slice (P := Try.prog) Try.underlying23 (by kernel_rfl) plain_Op (by decide) h
  rcases h3 with h0 | ⟨b, off, rfl, hb, hcells⟩
  · subst h0
    exact ⟨[], rfl, h1, h2, by simp, .inl rfl⟩
  · obtain ⟨l, hl, hq⟩ := list_of (Q := fun i (o : OpV) => o.Wf ∧ ∀ (j : Nat) (u : Value), o.cells[j]? = some u → w.cell? ⟨b, off + i * 7 + j, none⟩ = some u) n (fun i hi => by
      obtain ⟨_, c0, n0, rfl, w0⟩ := hcells i hi 0 _ rfl
      obtain ⟨_, c1, n1, rfl, w1⟩ := hcells i hi 1 _ rfl
      obtain ⟨_, c2, n2, rfl⟩ := hcells i hi 2 _ rfl
      obtain ⟨_, c3, n3, rfl, w3⟩ := hcells i hi 3 _ rfl
      obtain ⟨_, c4, n4, rfl, w4⟩ := hcells i hi 4 _ rfl
      obtain ⟨_, c5, n5, rfl, w5⟩ := hcells i hi 5 _ rfl
      obtain ⟨_, c6, n6, rfl, w6⟩ := hcells i hi 6 _ rfl
      refine ⟨⟨n0, n1, n2, n3, n4, n5, n6⟩, ⟨w0, w1, w3, w4, w5, w6⟩, fun j u hj => ?_⟩
      match j with
      | 0 => cases hj; exact c0
      | 1 => cases hj; exact c1
      | 2 => cases hj; exact c2
      | 3 => cases hj; exact c3
      | 4 => cases hj; exact c4
      | 5 => cases hj; exact c5
      | 6 => cases hj; exact c6
      | j + 7 => simp [OpV.cells] at hj)
    exact ⟨l, hl, h1, h2, fun o ho => by
      obtain ⟨i, hi⟩ := List.mem_iff_getElem?.1 ho
      exact (hq i o hi).1, .inr ⟨b, off, rfl, hb, fun k o hk => (hq k o hk).2⟩⟩

theorem open_op {r : Reach} {b0 : Nat} {v : Value} (hv : Value.okWide Try.prog w r b0 40 v) (h : DataW.Trod enc Try.prog w base spare held 40 v d ps) :
    ∃ o : OpV, v = .agg #[.int .i64 o.ask, .int .i64 o.cls, .bool o.urg, .int .i64 o.v, .int .i64 o.at_, .int .i64 o.hs, .int .i64 o.ht] ∧ o.Wf := by
  obtain ⟨cs, rfl, hc⟩ := okWide_struct Try.underlying40 hv
  obtain ⟨fuel, hf⟩ := h
  obtain ⟨hl, hk⟩ := plain_Op H enc w base spare held fuel _ _ hf
  obtain ⟨l⟩ := cs
  match l, hl with
  | [c0, c1, c2, c3, c4, c5, c6], _ =>
    obtain ⟨_, e0, n0, rfl, w0⟩ := hk 0 _ rfl
    obtain ⟨_, e1, n1, rfl, w1⟩ := hk 1 _ rfl
    obtain ⟨_, e2, n2, rfl⟩ := hk 2 _ rfl
    obtain ⟨_, e3, n3, rfl, w3⟩ := hk 3 _ rfl
    obtain ⟨_, e4, n4, rfl, w4⟩ := hk 4 _ rfl
    obtain ⟨_, e5, n5, rfl, w5⟩ := hk 5 _ rfl
    obtain ⟨_, e6, n6, rfl, w6⟩ := hk 6 _ rfl
    simp [Value.cells] at e0 e1 e2 e3 e4 e5 e6
    subst e0 e1 e2 e3 e4 e5 e6
    exact ⟨⟨n0, n1, n2, n3, n4, n5, n6⟩, rfl, ⟨w0, w1, w3, w4, w5, w6⟩⟩

theorem open_two {r : Reach} {b0 : Nat} {v : Value} (hv : Value.okWide Try.prog w r b0 22 v) (h : DataW.Trod enc Try.prog w base spare held 22 v d ps) :
    ∃ x y, v = .agg #[.int .i64 x, .int .i64 y] ∧ (Lit.int .i64 x).wf = true ∧ (Lit.int .i64 y).wf = true := by
  obtain ⟨cs, rfl, hc⟩ := okWide_array Try.underlying22 hv
  obtain ⟨fuel, hf⟩ := h
  obtain ⟨hl, hk⟩ := plain_two H enc w base spare held fuel _ _ hf
  obtain ⟨l⟩ := cs
  match l, hl with
  | [c0, c1], _ =>
    obtain ⟨_, e0, n0, rfl, w0⟩ := hk 0 _ rfl
    obtain ⟨_, e1, n1, rfl, w1⟩ := hk 1 _ rfl
    simp [Value.cells] at e0 e1
    subst e0
    subst e1
    exact ⟨n0, n1, rfl, w0, w1⟩
end
end Go.Proofs.Ytpfolcoijncfjaa
