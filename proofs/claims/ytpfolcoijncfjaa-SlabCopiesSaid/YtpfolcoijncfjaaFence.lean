/- What is held, while a range over a function goes on. -/
import Derived.Test.YtpfolcoijncfjaaHold2
import Derived.RangeFuncNested
namespace Go.Proofs.Ytpfolcoijncfjaa
open Go.RowKit

theorem ownFrom_frm {β : Type} {S : List Nat} {w₀ : World} {B : Nat} (hB : w₀.heap.size ≤ B) : OwnFrom B (fun (_ : β) W => Frm S w₀ W) := fun _ _ _ row hs hg hr =>
  hs.trans (Frm.of_grown (S := row.toList) hg (fun k e => .inl (by simp [e]))) (fun k hk => by
    cases row with
    | none => simp at hk
    | some r => simp at hk; subst hk; exact .inr (Nat.le_trans hB (hr _ rfl).1))
theorem ownFrom_obj {β : Type} (B k : Nat) (t : TypeId) (f : β → Array Value) : OwnFrom B (fun s W => W.heap[k]? = some (.cells (f s) t)) := fun s X Y row hs hg hr =>
  (hg.block k (lt_of_obj hs) (fun e => by obtain ⟨_, o, ho, hc⟩ := hr k e.symm; rw [hs] at ho; cases ho; cases hc)).trans hs
section
variable {B : Nat} {w0 : World} {R : World → List Nat → Prop} {w w' : World} {L : List (Nat × Obj)}
theorem Holds.frmBox (hs : Stable R) {k : Nat} {o o' : Obj} (h : Holds B w0 R w ((k, o) :: L)) (hf : Frm [k] w w') (hk : B ≤ k) (hL : ∀ p ∈ L, p.1 ≠ k) (ho : w'.heap[k]? = some o') : Holds B w0 R w' ((k, o') :: L) := by
  obtain ⟨F, h, h1, h2, h3⟩ := h
  have hkF : k ∉ F := (h.box (k, o) (by simp)).2
  refine ⟨F, ⟨hs [k] w w' F h.res hf (fun x hx hm => by simp at hm; subst hm; exact hkF hx), fun x hx => Nat.lt_of_lt_of_le (h.lt x hx) hf.size, fun p hp => ?_⟩, h1.trans (hf.below h3 (by simpa using hk)), h2, Nat.le_trans h3 hf.size⟩
  rcases List.mem_cons.1 hp with rfl | hp
  · exact ⟨ho, hkF⟩
  · have h4 := h.box p (by simp [hp])
    exact ⟨hf.obj h4.1 (by simpa using hL p hp), h4.2⟩
/-- .. and a block more that was laid since. -/
theorem Holds.frmMore (hs : Stable R) {k : Nat} {o o' : Obj} (h : Holds B w0 R w ((k, o) :: L)) (hf : Frm [k] w w') (hk : B ≤ k) (hL : ∀ p ∈ L, p.1 ≠ k) (ho : w'.heap[k]? = some o') {D : Nat} {oD : Obj} (hD : w.heap.size ≤ D) (hoD : w'.heap[D]? = some oD) : Holds B w0 R w' ((k, o') :: (D, oD) :: L) := by
  have h0 := h.frmBox hs hf hk hL ho
  obtain ⟨F, h, h1, h2, h3⟩ := h
  have hkF : k ∉ F := (h.box (k, o) (by simp)).2
  refine ⟨F, ⟨hs [k] w w' F h.res hf (fun x hx hm => by simp at hm; subst hm; exact hkF hx), fun x hx => Nat.lt_of_lt_of_le (h.lt x hx) hf.size, fun p hp => ?_⟩, h1.trans (hf.below h3 (by simpa using hk)), h2, Nat.le_trans h3 hf.size⟩
  rcases List.mem_cons.1 hp with rfl | hp
  · exact ⟨ho, hkF⟩
  · rcases List.mem_cons.1 hp with rfl | hp
    · exact ⟨hoD, fun hm => by have := h.lt _ hm; dsimp only at this; omega⟩
    · have h4 := h.box p (by simp [hp])
      exact ⟨hf.obj h4.1 (by simpa using hL p hp), h4.2⟩
theorem Holds.grown (hs : Stable R) {row : Option Nat} (h : Holds B w0 R w L) (hg : w.grownBy w' row) (hr : ∀ k, row = some k → B ≤ k ∧ (∀ p ∈ L, p.1 ≠ k) ∧ ∀ F, R w F → k ∉ F) : Holds B w0 R w' L := by
  obtain ⟨F, h, h1, h2, h3⟩ := h
  have hf : Frm row.toList w w' := Frm.of_grown hg (fun k e => .inl (by simp [e]))
  refine ⟨F, ⟨hs row.toList w w' F h.res hf (fun x hx hm => by cases row with | none => simp at hm | some r => simp at hm; subst hm; exact (hr _ rfl).2.2 F h.res hx), fun x hx => Nat.lt_of_lt_of_le (h.lt x hx) hf.size, fun p hp => ?_⟩,
    h1.trans (hf.below h3 (fun k hk => by cases row with | none => simp at hk | some r => simp at hk; subst hk; exact (hr _ rfl).1)), h2, Nat.le_trans h3 hf.size⟩
  have h4 := h.box p hp
  exact ⟨hf.obj h4.1 (fun hm => by cases row with | none => simp at hm | some r => simp at hm; exact (hr _ rfl).2.1 p hp hm), h4.2⟩
/-- A block is taken into the boxes, ahead of what is done to it. -/
theorem Holds.more' (hs : Stable R) (h : Holds B w0 R w L) (hf : Frm [] w w') {k : Nat} {o : Obj} (hk : w.heap.size ≤ k) (ho : w'.heap[k]? = some o) : Holds B w0 R w' ((k, o) :: L) := by
  obtain ⟨F, h, h1, h2, h3⟩ := h
  have h5 := h.made hs hf
  refine ⟨F, ⟨h5.res, h5.lt, fun p hp => ?_⟩, h1.trans (hf.below h3 (by simp)), h2, Nat.le_trans h3 hf.size⟩
  rcases List.mem_cons.1 hp with rfl | hp
  · exact ⟨ho, fun hm => by have := h.lt _ hm; dsimp only at this; omega⟩
  · exact h5.box p hp
end

/-- The law of a range over a function whose one loop variable is boxed: the frame's form is read off the assign code. -/
theorem wpIn_rangeFunc_box {F : Fence} {n : Nat} {P : Program} {α : Type} {g : Operand} {ps : Array Tmp} {assign body : Code} {Q : Exit → Act → World → Prop} {a : Act} {w : World}
    (hro : F.round = none) (h1 : 1 ≤ n) {gf : Nat} {lb : Array Value} (hg : a.eval g = .func (.func gf) #[] lb) (hFg : F.fn gf) (eg : ∀ args w, (callFunc gf args).run P w = .ok (.enter gf args) w)
    {encs : α → Array Value} {Kp : World → World → Prop} {S Sp : List α → Prop} {N : Nat} {w0 : World} (hseq : SeqStopsK F (n - 1) P gf lb encs Kp S Sp N w0)
    (hKt : ∀ {A B C : World}, Kp A B → Kp B C → Kp A C) (hKb : ∀ (W : World) (l : Nat) (o o' : Obj), w.heap.size ≤ l → W.heap[l]? = some o → o.isCells = false → o.isWalk = false → Kp W (W.putObj l o')) (hb0 : Below w0.heap.size w0 w) (hps : ∀ x, (encs x).size = ps.size)
    (I : List α → World → Prop) (Ix : Code → List α → World → Prop) (hI : OwnFrom w.heap.size I) (hIx : ∀ c, OwnFrom w.heap.size (Ix c)) (h0 : I [] w) (t : TypeId) (cs : α → Array Value) (frm : α → Nat → Act)
    (hassign : ∀ (l : Nat) (pre : List α) (x : α) (W : World) (K : Act → World → Prop), I pre W → (∀ Bx W', KeepsFrom w.heap.size W W' → Kp W W' → I pre W' → w.heap.size ≤ Bx → W'.heap[Bx]? = some (.cells (cs x) t) → K (frm x Bx) W') →
      assign.wpIn (F.inRound l) (n - 1 - 1) P (Exit.then K (fun _ _ _ => False)) { tmps := (ps.zip (encs x)).foldl (fun t (p, v) => t.setIfInBounds p v) a.tmps, defers := [] } W)
    (hbody : ∀ (l : Nat) (pre : List α) (x : α) (Bx : Nat) (W : World), w.heap.size ≤ l → I pre W → w.heap.size ≤ Bx → W.heap[Bx]? = some (.cells (cs x) t) → pre.length < N → body.wpIn (F.inRound l) (n - 1 - 1) P (ownPostG w.heap.size Kp I Ix (pre ++ [x]) W) (frm x Bx) W)
    (hdone : ∀ (D : Nat) (xs : List α) (W : World), w.heap.size ≤ D → S xs → I xs W → W.heap[D]? = some (.deferred (some [])) → Q .normal { a with defers := { target := .collected D, args := #[] } :: a.defers } W)
    (hstop : ∀ (D : Nat) (c : Code) (pre : List α) (W : World), w.heap.size ≤ D → Sp pre → Ix c pre W → W.heap[D]? = some (.deferred (some [])) → c.wpIn F n P Q { a with defers := { target := .collected D, args := #[] } :: a.defers } W) :
    (Code.rangeFunc g ps assign body).wpIn F n P Q a w :=
  wpIn_rangeFunc_ownH hro h1 hg hFg eg hseq (fun h k => hKt h k) hKb hb0 hps I Ix hI hIx h0
    (fun x a' W => ∃ Bx, w.heap.size ≤ Bx ∧ W.heap[Bx]? = some (.cells (cs x) t) ∧ a' = frm x Bx)
    (fun x a' _ X Y row hs hg hr => by obtain ⟨Bx, e1, e2, e3⟩ := hs; exact ⟨Bx, e1, ownFrom_obj _ Bx t (fun _ : Unit => cs x) () X Y row e2 hg hr, e3⟩)
    (fun l pre x W K hi hK => hassign l pre x W K hi (fun Bx W' h1 h2 h3 h4 h5 => hK _ _ h1 h2 h3 ⟨Bx, h4, h5, rfl⟩))
    (fun l pre x a' W hl _ hi ha hlt => by obtain ⟨Bx, e1, e2, rfl⟩ := ha; exact hbody l pre x Bx W hl hi e1 e2 hlt) hdone hstop
end Go.Proofs.Ytpfolcoijncfjaa
