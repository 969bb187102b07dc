/- A range over a function that lays something anew for each round: the body is told of it (El), and goes on each time. -/
import Derived.Test.YtagldjlaagphlaaFence
namespace Go.Proofs.Ytagldjlaagphlaa
open Go.RowKit

section
variable {F : Fence} {n : Nat} {P : Program} {α : Type}
/-- What the iterator keeps: whoever answers 'true' to all, keeping Kp, hears all of S; of what is handed to him El holds when it is. -/
def SeqEach (F : Fence) (n : Nat) (P : Program) (g : Nat) (lb : Array Value) (encs : α → Array Value) (El : List α → α → World → Prop) (Kp : World → World → Prop) (S : List α → Prop) (w : World) : Prop :=
  ∀ (l : Nat) (J : List α → World → Prop) (W : World), Below w.heap.size w W → AbidesFrom W.heap.size J →
    (∀ pre x W1, J pre W1 → El pre x W1 → YieldAt F (n - 1) P l (encs x) W1 fun e W' => e = .returned (.bool true) ∧ J (pre ++ [x]) W' ∧ Kp W1 W') →
    J [] W →
    CallsIn F n P g (#[.func (.yield l) #[] #[]] ++ lb) W fun e W' => (∃ v, e = .returned v) ∧ ∃ xs, S xs ∧ J xs W'
/-- A round that goes on. -/
def eachPost (B : Nat) (Kp : World → World → Prop) (I : List α → World → Prop) (xs : List α) (W : World) : Exit → Act → World → Prop
  | .normal, _, W' => KeepsFrom B W W' ∧ Kp W W' ∧ I xs W'
  | _, _, _ => False

theorem wpIn_rangeFunc_each {g : Operand} {ps : Array Tmp} {assign body : Code} {Q : Exit → Act → World → Prop} {a : Act} {w : World}
    (hro : F.round = none) (h1 : 1 ≤ n) {gf : Nat} {lb : Array Value} (hg : a.eval g = .func (.func gf) #[] lb) (hFg : F.fn gf) (eg : ∀ args w, (callFunc gf args).run P w = .ok (.enter gf args) w)
    {encs : α → Array Value} {El : List α → α → World → Prop} {Kp : World → World → Prop} {S : List α → Prop} (hseq : SeqEach F (n - 1) P gf lb encs El Kp S w)
    (hKt : ∀ {A B C : World}, Kp A B → Kp B C → Kp A C) (hKb : ∀ (W : World) (l : Nat) (o o' : Obj), w.heap.size ≤ l → W.heap[l]? = some o → o.isCells = false → o.isWalk = false → Kp W (W.putObj l o')) (hps : ∀ x, (encs x).size = ps.size)
    (I : List α → World → Prop) (hI : OwnFrom w.heap.size I) (hEl : ∀ pre x, OwnFrom w.heap.size (fun (_ : Unit) W => El pre x W)) (h0 : I [] w) (a₁ : α → Act)
    (hassign : ∀ (l : Nat) (x : α) (W : World) (K : Act → World → Prop), K (a₁ x) W →
      assign.wpIn (F.inRound l) (n - 1 - 1) P (Exit.then K (fun _ _ _ => False)) { tmps := (ps.zip (encs x)).foldl (fun t (p, v) => t.setIfInBounds p v) a.tmps, defers := [] } W)
    (hbody : ∀ (l : Nat) (pre : List α) (x : α) (W : World), w.heap.size ≤ l → I pre W → El pre x W → body.wpIn (F.inRound l) (n - 1 - 1) P (eachPost w.heap.size Kp I (pre ++ [x]) W) (a₁ x) W)
    (hdone : ∀ (D : Nat) (xs : List α) (W : World), w.heap.size ≤ D → S xs → I xs W → W.heap[D]? = some (.deferred (some [])) → Q .normal { a with defers := { target := .collected D, args := #[] } :: a.defers } W) :
    (Code.rangeFunc g ps assign body).wpIn F n P Q a w := by
  refine wpIn_rangeFunc ?_
  intro fn hfn
  rw [hro]
  obtain ⟨rc, hrc⟩ : ∃ rc : LoopState → Option Code → Loop, rc = fun st pe => { state := st, pending := pe, fn, tmps := a.tmps, params := ps, assign, body, defers := w.heap.size } := ⟨_, rfl⟩
  obtain ⟨W1, hW1⟩ : ∃ W1, (w.alloc (.deferred (some []))).alloc (.loop (rc .ready none)) = W1 := ⟨_, rfl⟩
  have hsz : W1.heap.size = w.heap.size + 2 := by rw [← hW1]; simp
  have bL : W1.heap[w.heap.size + 1]? = some (.loop (rc .ready none)) := by
    have := obj_new (w.alloc (.deferred (some []))) (.loop (rc .ready none))
    rw [World.size_alloc] at this
    rwa [← hW1]
  have bD : W1.heap[w.heap.size]? = some (.deferred (some [])) := by rw [← hW1]; exact obj_alloc (obj_new w _) _
  have bI : I [] W1 := by rw [← hW1]; exact hI.alloc _ (hI.alloc _ h0)
  have bB : Below w.heap.size w W1 := by rw [← hW1]; exact ((Below.refl _ w).alloc (Nat.le_refl _) _).alloc (by simp) _
  refine ⟨w.heap.size + 1, [{ target := .collected w.heap.size, args := #[] }], W1, { target := .fn (.func gf) lb, args := #[.func (.yield (w.heap.size + 1)) #[] #[]] }, W1, gf,
    #[.func (.yield (w.heap.size + 1)) #[] #[]] ++ lb, W1, ?_, ?_, ?_, ?_, fun _ => h1, ?_⟩
  · rw [← hW1, hrc]; exact run_enterLoop_outer _ _ _ _ _
  · simp only [resolve, hg]; simp [go_sem]
  · intro f' hf'; simp [Target.leads] at hf'; subst hf'; exact hFg
  · simp [invoke, go_sem, eg]
  refine (hseq (w.heap.size + 1) (fun pre W => I pre W ∧ W.heap[w.heap.size + 1]? = some (.loop (rc .ready none)) ∧ W.heap[w.heap.size]? = some (.deferred (some []))) W1 bB ?_ ?_ ⟨bI, bL, bD⟩).mono ?_
  · -- what the caller says abides
    intro s A B row hs hgr hr
    have hr' : ∀ r, row = some r → w.heap.size ≤ r ∧ ∃ o : Obj, A.heap[r]? = some o ∧ o.isCells = false := fun r e => by
      obtain ⟨h1, o, ho, hw⟩ := hr r e
      exact ⟨by omega, o, ho, Obj.not_cells_of_walk hw⟩
    have hr2 : ∀ r, row = some r → W1.heap.size ≤ r := fun r e => (hr r e).1
    have keep : ∀ {k : Nat} {o : Obj}, k < W1.heap.size → A.heap[k]? = some o → B.heap[k]? = some o := fun hk ho => (hgr.block _ (lt_of_obj ho) (fun e => by have := hr2 _ e.symm; omega)).trans ho
    exact ⟨hI s A B row hs.1 hgr hr', keep (by omega) hs.2.1, keep (by omega) hs.2.2⟩
  · -- one round
    rintro pre x W ⟨hi, hl, hd⟩ hel
    have hlt := lt_of_obj hl
    have hy := run_yield (P := P) (args := encs x) hl (by rw [hrc]; exact hps x)
    rw [hrc] at hy
    refine ⟨fn, _, assign, body, hy, roundIn_of_wpIn hfn (hassign _ x W _ ⟨_, run_beginRound hl (by rw [hrc]), ?_⟩)⟩
    clear hy
    obtain ⟨V, hV⟩ : ∃ V, W.putObj (w.heap.size + 1) (.loop { rc .ready none with state := .busy }) = V := ⟨_, rfl⟩
    have vL : V.heap[w.heap.size + 1]? = some (.loop { rc .ready none with state := .busy }) := by rw [← hV]; exact World.putObj_heap_same hlt
    have vD : V.heap[w.heap.size]? = some (.deferred (some [])) := by rw [← hV]; exact (World.putObj_heap_other (by omega)).trans hd
    have vK : Kp W V := by rw [← hV]; exact hKb _ _ _ _ (by omega) hl rfl rfl
    have vI : I pre V := by rw [← hV]; exact hI.putObj _ hi (by omega) hl rfl
    have vE : El pre x V := by rw [← hV]; exact (hEl pre x).putObj (s := ()) _ hel (by omega) hl rfl
    rw [hV]
    refine wpIn_mono (hbody _ pre x V (by omega) vI vE) ?_
    rintro e a3 W3 hp
    cases e with
    | normal =>
      obtain ⟨p1, p2, p3⟩ := hp
      have q1 := p1.same _ _ (by omega) vL rfl
      have q2 := p1.same _ _ (Nat.le_refl _) vD rfl
      have hr := run_endRound (P := P) none (by rw [hrc] at q1; exact q1)
      refine ⟨_, _, hr, rfl, ⟨hI.putObj _ p3 (by omega) q1 rfl, ?_, (World.putObj_heap_other (by omega)).trans q2⟩, hKt vK (hKt p2 (hKb _ _ _ _ (by omega) q1 rfl rfl))⟩
      rw [World.putObj_heap_same (lt_of_obj q1), hrc]
      rfl
    | _ => exact hp.elim
  · -- behind the iterator
    rintro e W2 ⟨⟨v, rfl⟩, xs, hS, hi, hl, hd⟩
    have hr := run_endLoop (P := P) hl (by rw [hrc]; simp)
    rw [hrc] at hr
    exact ⟨none, _, hr, hdone _ xs _ (Nat.le_refl _) hS (hI.putObj _ hi (by omega) hl rfl) ((World.putObj_heap_other (by omega)).trans hd)⟩
end
end Go.Proofs.Ytagldjlaagphlaa
