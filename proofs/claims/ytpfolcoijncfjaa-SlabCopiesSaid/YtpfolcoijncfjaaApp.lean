/- append of a slice that is read, the nil one too; slices that are only read, held. -/
import Derived.Test.YtpfolcoijncfjaaRow
namespace Go.Proofs.Ytpfolcoijncfjaa
open Go.RowKit Go.Maps

section
variable {α : Type} {enc : α → List Value} {P : Program}
theorem run_append_nilsrc (w : World) (t ty e : TypeId) (i : TypeInfo) (ht : P.underlying t = some (.slice e)) (hi : P.info? e = some i) (v : Value) (n size : Nat) (xs : List Value) (hown : w.ownsRow 0 e size v n xs) :
    (Builtin.append_ #[t, t] ty #[v, .slice none 0 0]).run P w = .ok v w := by
  rcases row_nil_or hown with ⟨rfl, rfl⟩ | ⟨g, cap, rfl, _, hn, _⟩
  · simp [Builtin.append_, run_underlying ht, sizeOf, typeInfo, hi, Builtin.lenOf, Builtin.firstCells]
  · simp [Builtin.append_, run_underlying ht, sizeOf, typeInfo, hi, Builtin.lenOf, Builtin.firstCells, hn, storeCells]
theorem wp_append_sl (w : World) {o : Oper} {a : Act} {K : Act → World → Prop} {Q : Exit → Act → World → Prop} (s x : Operand) (t : TypeId)
    (ho : o.op = .call { callee := .builtin .append, args := #[s, x], argTypes := #[t, t] })
    (e : TypeId) (i : TypeInfo) (z : Value) (size bytes : Nat) (ht : P.underlying t = some (.slice e)) (hi : P.info? e = some i) (hz : i.zero = some z)
    (hsize : i.size = size) (hby : i.bytes = bytes) (hzs : z.cells.size = size) (hsz : 0 < size)
    (v : Value) (n : Nat) (xs : List Value) (hs : a.eval s = v) (hown : w.ownsRow 0 e size v n xs)
    (A : Option Addr) (m c : Nat) (l : List α) (hx : a.eval x = .slice A m c) (hsl : SlAt enc size w A m c l) (hnil : A = none → m = 0 ∧ c = 0) (hk : ∀ x, (enc x).length = size) (h1 : ∀ x, ∀ u ∈ enc x, u.oneCell' = true)
    (h63 : n + m ≤ maxLen) (hbytes : (n + m) * bytes ≤ 140737488355328)
    (h : ∀ (a' : Option Addr) (c' : Nat) (w' : World), w'.ownsRow 0 e size (.slice a' (n + m) c') (n + m) (xs ++ flat enc l) → Frm v.ownBlock.toList w w' → (∀ k, (Value.slice a' (n + m) c').ownBlock = some k → v.ownBlock = some k ∨ w.heap.size ≤ k) → K (a.put o.dst (.slice a' (n + m) c')) w') : o.wp P a w K Q := by
  have hl := hsl.1
  cases A with
  | none =>
    obtain ⟨rfl, rfl⟩ := hnil rfl
    have hle : l = [] := List.eq_nil_of_length_eq_zero hl
    subst hle
    have hr := run_append_nilsrc (P := P) w t o.type e i ht hi v n size xs hown
    unfold Oper.wp execOp
    simp only [ho, resolve, invoke, builtin, Sem.run_bind, Sem.run_pure, Result.andThen_ok, List.map_toArray, List.map_cons, List.map_nil, hs, hx, hr]
    obtain ⟨a', c', rfl⟩ := row_slice hown
    exact h a' c' w (by simpa [flat] using hown) (Frm.refl _ _) (fun k hk => .inl hk)
  | some ad =>
    have hsp : l = [] ∨ ∃ b off, ad = ⟨b, off, none⟩ := by
      rcases hsl.2.2.2 with h0 | ⟨b, off, he, _⟩
      · exact .inl (List.eq_nil_of_length_eq_zero (by omega))
      · exact .inr ⟨b, off, Option.some.inj he⟩
    refine wp_append_foot w s x t ho e i z size bytes ht hi hz hsize hby hzs hsz v n xs hs hown ad m c (flat enc l) hx (by rw [flat_length hk, hl]) ?_ (flat_one h1 l) h63 hbytes h
    rcases hsp with rfl | ⟨b, off, rfl⟩
    · intro j u hj; simp [flat] at hj
    · exact hsl.news hk hsz
theorem wpList_append_sl (w : World) {ops : Array Oper} {rest : List Oper} {o : Oper} {a : Act} {Q : Exit → Act → World → Prop} (hgd : o.guard = none) (s x : Operand) (t : TypeId)
    (ho : o.op = .call { callee := .builtin .append, args := #[s, x], argTypes := #[t, t] })
    (e : TypeId) (i : TypeInfo) (z : Value) (size bytes : Nat) (ht : P.underlying t = some (.slice e)) (hi : P.info? e = some i) (hz : i.zero = some z)
    (hsize : i.size = size) (hby : i.bytes = bytes) (hzs : z.cells.size = size) (hsz : 0 < size)
    (v : Value) (n : Nat) (xs : List Value) (hs : a.eval s = v) (hown : w.ownsRow 0 e size v n xs)
    (A : Option Addr) (m c : Nat) (l : List α) (hx : a.eval x = .slice A m c) (hsl : SlAt enc size w A m c l) (hnil : A = none → m = 0 ∧ c = 0) (hk : ∀ x, (enc x).length = size) (h1 : ∀ x, ∀ u ∈ enc x, u.oneCell' = true)
    (h63 : n + m ≤ maxLen) (hbytes : (n + m) * bytes ≤ 140737488355328)
    (h : ∀ (a' : Option Addr) (c' : Nat) (w' : World), w'.ownsRow 0 e size (.slice a' (n + m) c') (n + m) (xs ++ flat enc l) → Frm v.ownBlock.toList w w' → (∀ k, (Value.slice a' (n + m) c').ownBlock = some k → v.ownBlock = some k ∨ w.heap.size ≤ k) → wpList P ops Q rest (a.put o.dst (.slice a' (n + m) c')) w') : wpList P ops Q (o :: rest) a w :=
  wpList_plain hgd fun _ hK => wp_append_sl w s x t ho e i z size bytes ht hi hz hsize hby hzs hsz v n xs hs hown A m c l hx hsl hnil hk h1 h63 hbytes fun a' c' w' h2 h3 h4 => hK _ _ (h a' c' w' h2 h3 h4)

/-- A slice that is only read, held. -/
def readR (enc : α → List Value) (k : Nat) (a : Option Addr) (n c : Nat) (l : List α) : World → List Nat → Prop := fun w F => SlAt enc k w a n c l ∧ (a = none → n = 0 ∧ c = 0) ∧ F = (a.map Addr.block).toList
theorem readR_stable (k : Nat) (a : Option Addr) (n c : Nat) (l : List α) : Stable (readR enc k a n c l) := by
  rintro S w w' F ⟨⟨h1, h2, h3, h4⟩, hn, rfl⟩ hf hd
  refine ⟨⟨h1, h2, h3, ?_⟩, hn, rfl⟩
  rcases h4 with h0 | ⟨b, off, rfl, hb, hc⟩
  · exact .inl h0
  · exact .inr ⟨b, off, rfl, Nat.lt_of_lt_of_le hb hf.size, fun i x hi j u hj => hf.cell (hc i x hi j u hj) (hd b (by simp))⟩
variable {R Q : World → List Nat → Prop} {B : Nat} {w0 w w' : World} {L : List (Nat × Obj)} {k n c : Nat} {a : Option Addr} {l : List α}
theorem Holds.reads (h : Holds B w0 (sepR (readR enc k a n c l) Q) w L) : SlAt enc k w a n c l ∧ (a = none → n = 0 ∧ c = 0) := by
  obtain ⟨F, h, _⟩ := h
  obtain ⟨F1, F2, hR, _⟩ := h.res
  exact ⟨hR.1, hR.2.1⟩
/-- A row of one's own, from now on only read. -/
theorem Holds.toRead (hk : ∀ x, (enc x).length = k) {e : TypeId} (hl : l.length = n) (h : Holds B w0 (sepR (rowR e k (.slice a n c) n (flat enc l)) Q) w L) : Holds B w0 (sepR (readR enc k a n c l) Q) w L := by
  refine h.conv (Conv.left fun w F hF _ => ⟨F, ⟨SlAt.of_row hk hF.1 hl, fun ha => ?_, ?_⟩, fun _ => Iff.rfl⟩)
  · rcases row_nil_or hF.1 with ⟨h0, rfl⟩ | ⟨g, cap, h0, _⟩
    · simp only [Value.slice.injEq] at h0; exact ⟨rfl, h0.2.2⟩
    · simp only [Value.slice.injEq] at h0; rw [ha] at h0; exact absurd h0.1 (by simp)
  · rw [hF.2]
    rcases row_nil_or hF.1 with ⟨h0, _⟩ | ⟨g, cap, h0, _⟩
    · simp only [Value.slice.injEq] at h0; obtain ⟨rfl, _⟩ := h0; rfl
    · simp only [Value.slice.injEq] at h0; obtain ⟨rfl, _⟩ := h0; rfl
end
end Go.Proofs.Ytpfolcoijncfjaa
