/- What is held in memory while a law runs: things in blocks of their own (R), apart from each other (sepR), and boxes beside them (L); what the calls do to them. -/
import Derived.Test.YtpfolcoijncfjaaLib
namespace Go.Proofs.Ytpfolcoijncfjaa
open Go.RowKit

theorem cells_at (w : World) (l : List Value) (t : TypeId) (g : Nat) (hg : g = w.heap.size) : ∀ (j : Nat) (u : Value), l[j]? = some u → (w.alloc (.cells l.toArray t)).cell? ((⟨g, 0, none⟩ : Addr).add j) = some u := by
  subst hg; exact cells_new w l t

/-- The laws' index: 'at % n + n) % n'. -/
theorem idx_mod (a : Int) (n : Nat) (hn : 0 < n) (hn' : n ≤ 100000) : ∃ j : Nat, (wrap64 (a.tmod ↑n + ↑n)).tmod ↑n = (j : Int) ∧ j < n := by
  have h1 : a.tmod n < n := Int.tmod_lt_of_pos _ (by omega)
  have h2 : -(n : Int) < a.tmod n := by
    have := Int.natAbs_tmod a n
    have h3 := Nat.mod_lt a.natAbs hn
    simp only [Int.natAbs_natCast] at this
    omega
  rw [IntWalk.wrap64_in _ ⟨by omega, by omega⟩]
  refine ⟨((a.tmod ↑n + ↑n).tmod ↑n).toNat, ?_, ?_⟩
  · have := Int.tmod_nonneg (a := a.tmod ↑n + ↑n) (n : Int) (by omega)
    omega
  · have := Int.tmod_lt_of_pos (a.tmod ↑n + ↑n) (b := (n : Int)) (by omega)
    omega

/-- What is held in memory (R, in the blocks F), and boxes beside it (L: a block's number, and what lies there). -/
def Stable (R : World → List Nat → Prop) : Prop := ∀ (S : List Nat) (w w' : World) (F : List Nat), R w F → Frm S w w' → (∀ k ∈ F, k ∉ S) → R w' F
structure Ctx (R : World → List Nat → Prop) (w : World) (F : List Nat) (L : List (Nat × Obj)) : Prop where
  res : R w F
  lt : ∀ k ∈ F, k < w.heap.size
  box : ∀ p ∈ L, w.heap[p.1]? = some p.2 ∧ p.1 ∉ F
theorem Ctx.step {R R' : World → List Nat → Prop} {w w' : World} {F F' : List Nat} {L : List (Nat × Obj)} (h : Ctx R w F L) (hr : R' w' F') (hf : Frm F w w') (hn : ∀ k ∈ F', k ∈ F ∨ w.heap.size ≤ k) (hl : ∀ k ∈ F', k < w'.heap.size) : Ctx R' w' F' L :=
  ⟨hr, hl, fun p hp => by
    obtain ⟨h1, h2⟩ := h.box p hp
    refine ⟨hf.obj h1 h2, fun hm => ?_⟩
    rcases hn _ hm with h3 | h3
    · exact h2 h3
    · have := lt_of_obj h1; omega⟩
theorem Ctx.alloc {R : World → List Nat → Prop} (hs : Stable R) {w : World} {F : List Nat} {L : List (Nat × Obj)} (h : Ctx R w F L) (o : Obj) : Ctx R (w.alloc o) F ((w.heap.size, o) :: L) :=
  ⟨hs [] w _ F h.res ((Frm.refl _ _).alloc o) (by simp), fun k hk => by have := h.lt k hk; simp; omega, fun p hp => by
    rcases List.mem_cons.1 hp with rfl | hp
    · exact ⟨obj_new w o, fun hm => by have := h.lt _ hm; omega⟩
    · exact ⟨obj_alloc (h.box p hp).1 o, (h.box p hp).2⟩⟩
theorem Ctx.made {R : World → List Nat → Prop} (hs : Stable R) {w w' : World} {F : List Nat} {L : List (Nat × Obj)} (h : Ctx R w F L) (hf : Frm [] w w') : Ctx R w' F L :=
  ⟨hs [] w _ F h.res hf (by simp), fun k hk => by have := h.lt k hk; have := hf.size; omega, fun p hp => ⟨hf.obj (h.box p hp).1 (by simp), (h.box p hp).2⟩⟩
theorem Ctx.drewN {R : World → List Nat → Prop} (hs : Stable R) {w : World} {F : List Nat} {L : List (Nat × Obj)} (h : Ctx R w F L) (n : Nat) : Ctx R (w.drewN n) F L := h.made hs ((Frm.refl _ _).drewN n)
/-- A box is written. -/
theorem Ctx.put {R : World → List Nat → Prop} (hs : Stable R) {w : World} {F : List Nat} {L M : List (Nat × Obj)} {k : Nat} {c : Array Value} {t : TypeId} {f : Nat × Nat} (h : Ctx R w F (L ++ (k, .cells c t f) :: M)) (hL : ∀ p ∈ L, p.1 ≠ k) (hM : ∀ p ∈ M, p.1 ≠ k) (j : Nat) (v : Value) :
    Ctx R (w.setCell ⟨k, j, none⟩ v) F (L ++ (k, .cells (c.setIfInBounds j v) t f) :: M) := by
  obtain ⟨h1, h2⟩ := h.box (k, .cells c t f) (by simp)
  have hf : Frm [k] w (w.setCell ⟨k, j, none⟩ v) := (Frm.refl _ _).setCell (a := ⟨k, j, none⟩) (.inl (by simp)) v
  refine ⟨hs [k] w _ F h.res hf (fun x hx hm => ?_), fun x hx => by have := h.lt x hx; simp; omega, fun p hp => ?_⟩
  · simp at hm; subst hm; exact h2 hx
  · rcases List.mem_append.1 hp with hp | hp
    · have h3 := h.box p (by simp [hp])
      exact ⟨hf.obj h3.1 (by simpa using hL p hp), h3.2⟩
    · rcases List.mem_cons.1 hp with rfl | hp
      · exact ⟨obj_setCell h1 j v, h2⟩
      · have h3 := h.box p (by simp [hp])
        exact ⟨hf.obj h3.1 (by simpa using hM p hp), h3.2⟩
theorem Ctx.sub {R : World → List Nat → Prop} {w : World} {F : List Nat} {L M : List (Nat × Obj)} (h : Ctx R w F L) (hm : ∀ p ∈ M, p ∈ L) : Ctx R w F M := ⟨h.res, h.lt, fun p hp => h.box p (hm p hp)⟩

/-- The same, of the world that stands there, since the call began (w0; nothing below block B has turned). -/
def Holds (B : Nat) (w0 : World) (R : World → List Nat → Prop) (w : World) (L : List (Nat × Obj)) : Prop :=
  ∃ F, Ctx R w F L ∧ Below B w0 w ∧ (∀ k ∈ F, B ≤ k) ∧ B ≤ w.heap.size
section
variable {B : Nat} {w0 : World} {R R' : World → List Nat → Prop} {w w' : World} {L M : List (Nat × Obj)}
theorem Holds.below (h : Holds B w0 R w L) : Below B w0 w := by obtain ⟨_, _, h, _⟩ := h; exact h
theorem Holds.le (h : Holds B w0 R w L) : B ≤ w.heap.size := by obtain ⟨_, _, _, _, h⟩ := h; exact h
theorem Holds.res (h : Holds B w0 R w L) : ∃ F, R w F := by obtain ⟨F, h, _⟩ := h; exact ⟨F, h.res⟩
theorem Holds.box (h : Holds B w0 R w L) {k : Nat} {o : Obj} (hm : (k, o) ∈ L) : w.heap[k]? = some o := by obtain ⟨F, h, _⟩ := h; exact (h.box _ hm).1
theorem Holds.sub (h : Holds B w0 R w L) (hm : ∀ p ∈ M, p ∈ L) : Holds B w0 R w M := by obtain ⟨F, h, r⟩ := h; exact ⟨F, h.sub hm, r⟩
theorem Holds.made (hs : Stable R) (h : Holds B w0 R w L) (hf : Frm [] w w') : Holds B w0 R w' L := by
  obtain ⟨F, h, h1, h2, h3⟩ := h
  exact ⟨F, h.made hs hf, h1.trans (hf.below h3 (by simp)), h2, Nat.le_trans h3 hf.size⟩
theorem Holds.alloc (hs : Stable R) (h : Holds B w0 R w L) (o : Obj) : Holds B w0 R (w.alloc o) ((w.heap.size, o) :: L) := by
  obtain ⟨F, h, h1, h2, h3⟩ := h
  exact ⟨F, h.alloc hs o, h1.alloc h3 o, h2, by simp; omega⟩
theorem Holds.drewN (hs : Stable R) (h : Holds B w0 R w L) (n : Nat) : Holds B w0 R (w.drewN n) L := h.made hs ((Frm.refl _ _).drewN n)
theorem Holds.drew (hs : Stable R) (h : Holds B w0 R w L) : Holds B w0 R w.drew L := h.made hs (Frm.refl _ _).drew
theorem Holds.put (hs : Stable R) {k : Nat} {c : Array Value} {t : TypeId} {f : Nat × Nat} (h : Holds B w0 R w (L ++ (k, .cells c t f) :: M)) (hk : B ≤ k) (hL : ∀ p ∈ L, p.1 ≠ k) (hM : ∀ p ∈ M, p.1 ≠ k) (j : Nat) (v : Value) :
    Holds B w0 R (w.setCell ⟨k, j, none⟩ v) (L ++ (k, .cells (c.setIfInBounds j v) t f) :: M) := by
  obtain ⟨F, h, h1, h2, h3⟩ := h
  exact ⟨F, h.put hs hL hM j v, h1.setCell (p := ⟨k, j, none⟩) hk v, h2, by simpa using h3⟩
/-- What was there when the call began. -/
theorem Holds.old (h : Holds B w0 R w L) {k : Nat} (hk : k < B) : w.heap[k]? = w0.heap[k]? := h.below.block k hk
theorem Holds.oldCell (h : Holds B w0 R w L) {a : Addr} (hk : a.block < B) : w.cell? a = w0.cell? a := h.below.cell hk
end
/-- Nothing is held yet. -/
def noneR : World → List Nat → Prop := fun _ F => F = []
theorem noneR_stable : Stable noneR := fun _ _ _ _ h _ _ => h
theorem Holds.start (w : World) : Holds w.heap.size w noneR w [] := ⟨[], ⟨rfl, by simp, by simp⟩, Below.refl _ _, by simp, Nat.le_refl _⟩
/-- What a call answers, and what is held behind it. -/
def Goes (r : Value) (B : Nat) (w0 : World) (R : World → List Nat → Prop) (L : List (Nat × Obj)) (e : Ending) (w' : World) : Prop := e = .returned r ∧ Holds B w0 R w' L
/-- Two things that are held, apart from each other. -/
def sepR (R Q : World → List Nat → Prop) (w : World) (F : List Nat) : Prop :=
  ∃ F1 F2, R w F1 ∧ Q w F2 ∧ (∀ k ∈ F1, k ∉ F2) ∧ (∀ k ∈ F1, k < w.heap.size) ∧ (∀ k ∈ F2, k < w.heap.size) ∧ F = F1 ++ F2
theorem sepR_stable {R Q : World → List Nat → Prop} (hR : Stable R) (hQ : Stable Q) : Stable (sepR R Q) := by
  rintro S w w' F ⟨F1, F2, h1, h2, hd, hl1, hl2, rfl⟩ hf hS
  exact ⟨F1, F2, hR S w w' F1 h1 hf (fun k hk => hS k (by simp [hk])), hQ S w w' F2 h2 hf (fun k hk => hS k (by simp [hk])), hd,
    fun k hk => Nat.lt_of_lt_of_le (hl1 k hk) hf.size, fun k hk => Nat.lt_of_lt_of_le (hl2 k hk) hf.size, rfl⟩
theorem sepR_comm {R Q : World → List Nat → Prop} {B : Nat} {w0 w : World} {L : List (Nat × Obj)} (h : Holds B w0 (sepR R Q) w L) : Holds B w0 (sepR Q R) w L := by
  obtain ⟨F, h, h1, h2, h3⟩ := h
  obtain ⟨F1, F2, hR, hQ, hd, hl1, hl2, rfl⟩ := h.res
  refine ⟨F2 ++ F1, ⟨⟨F2, F1, hQ, hR, fun k hk hm => hd k hm hk, hl2, hl1, rfl⟩, fun k hk => h.lt k (by simpa [or_comm] using hk), fun p hp => ⟨(h.box p hp).1, by have := (h.box p hp).2; simpa [and_comm] using this⟩⟩, h1, fun k hk => h2 k (by simpa [or_comm] using hk), h3⟩
theorem sepR_assoc {R Q T : World → List Nat → Prop} {B : Nat} {w0 w : World} {L : List (Nat × Obj)} (h : Holds B w0 (sepR R (sepR Q T)) w L) : Holds B w0 (sepR Q (sepR R T)) w L := by
  obtain ⟨F, h, h1, h2, h3⟩ := h
  obtain ⟨F1, F', hR, ⟨F2, F3, hQ, hT, hd23, hl2, hl3, rfl⟩, hd, hl1, _, rfl⟩ := h.res
  have hm : ∀ k, k ∈ F2 ++ (F1 ++ F3) ↔ k ∈ F1 ++ (F2 ++ F3) := fun k => by simp only [List.mem_append]; exact ⟨fun h => by rcases h with h | h | h <;> simp [h], fun h => by rcases h with h | h | h <;> simp [h]⟩
  refine ⟨F2 ++ (F1 ++ F3), ⟨⟨F2, F1 ++ F3, hQ, ⟨F1, F3, hR, hT, fun k hk hm => hd k hk (by simp [hm]), hl1, hl3, rfl⟩, fun k hk hm => ?_, hl2, fun k hk => ?_, rfl⟩, fun k hk => h.lt k ((hm k).1 hk), fun p hp => ⟨(h.box p hp).1, fun hk => (h.box p hp).2 ((hm _).1 hk)⟩⟩, h1, fun k hk => h2 k ((hm k).1 hk), h3⟩
  · rcases List.mem_append.1 hm with h | h
    · exact hd k h (by simp [hk])
    · exact hd23 k hk h
  · rcases List.mem_append.1 hk with h | h
    · exact hl1 k h
    · exact hl3 k h
/-- One of two is turned, in its own blocks alone: the other one is held on. -/
theorem Holds.split {R Q : World → List Nat → Prop} {B : Nat} {w0 w : World} {L : List (Nat × Obj)} (hQ : Stable Q) (h : Holds B w0 (sepR R Q) w L) :
    ∃ F1, R w F1 ∧ (∀ k ∈ F1, k < w.heap.size ∧ B ≤ k) ∧ (∀ p ∈ L, p.1 ∉ F1) ∧ ∀ (R' : World → List Nat → Prop) (w' : World) (F' : List Nat), R' w' F' → Frm F1 w w' → (∀ k ∈ F', k ∈ F1 ∨ w.heap.size ≤ k) → (∀ k ∈ F', k < w'.heap.size) →
      Holds B w0 (sepR R' Q) w' L := by
  obtain ⟨F, h, h1, h2, h3⟩ := h
  obtain ⟨F1, F2, hR, hq, hd, hl1, hl2, rfl⟩ := h.res
  refine ⟨F1, hR, fun k hk => ⟨hl1 k hk, h2 k (by simp [hk])⟩, fun p hp hm => (h.box p hp).2 (by simp [hm]), fun R' w' F' hR' hf hn hl => ?_⟩
  have hq' := hQ F1 w w' F2 hq hf (fun k hk hm => hd k hm hk)
  have hd' : ∀ k ∈ F', k ∉ F2 := fun k hk hm => by
    rcases hn k hk with h4 | h4
    · exact hd k h4 hm
    · have := hl2 k hm; omega
  have hl2' : ∀ k ∈ F2, k < w'.heap.size := fun k hk => Nat.lt_of_lt_of_le (hl2 k hk) hf.size
  have hfF : Frm (F1 ++ F2) w w' := hf.mono (fun k hk => .inl (by simp [hk]))
  have hnF : ∀ k ∈ F' ++ F2, k ∈ F1 ++ F2 ∨ w.heap.size ≤ k := fun k hk => by
    rcases List.mem_append.1 hk with h4 | h4
    · rcases hn k h4 with h5 | h5
      · exact .inl (by simp [h5])
      · exact .inr h5
    · exact .inl (by simp [h4])
  have hlF : ∀ k ∈ F' ++ F2, k < w'.heap.size := fun k hk => by
    rcases List.mem_append.1 hk with h4 | h4
    · exact hl k h4
    · exact hl2' k h4
  refine ⟨F' ++ F2, h.step ⟨F', F2, hR', hq', hd', hl, hl2', rfl⟩ hfF hnF hlF, h1.trans (hfF.below h3 h2), fun k hk => ?_, Nat.le_trans h3 hf.size⟩
  rcases hnF k hk with h4 | h4
  · exact h2 k h4
  · omega
/-- A slice's row. -/
def rowR (e : TypeId) (size : Nat) (v : Value) (n : Nat) (xs : List Value) (w : World) (F : List Nat) : Prop := w.ownsRow 0 e size v n xs ∧ F = v.ownBlock.toList
theorem rowR_stable (e : TypeId) (size : Nat) (v : Value) (n : Nat) (xs : List Value) : Stable (rowR e size v n xs) := by
  rintro S w w' F ⟨h, rfl⟩ hf hd
  exact ⟨hf.row h (fun k hk => hd k (by simp [hk])), rfl⟩
theorem Holds.empty {R : World → List Nat → Prop} {B : Nat} {w0 w : World} {L : List (Nat × Obj)} (h : Holds B w0 R w L) : Holds B w0 (sepR noneR R) w L := by
  obtain ⟨F, h, r⟩ := h
  exact ⟨F, ⟨⟨[], F, rfl, h.res, by simp, by simp, h.lt, by simp⟩, h.lt, h.box⟩, r⟩
theorem Holds.drop {R Q : World → List Nat → Prop} {B : Nat} {w0 w : World} {L : List (Nat × Obj)} (h : Holds B w0 (sepR R Q) w L) : Holds B w0 Q w L := by
  obtain ⟨F, h, h1, h2, h3⟩ := h
  obtain ⟨F1, F2, _, hq, _, _, hl2, rfl⟩ := h.res
  exact ⟨F2, ⟨hq, hl2, fun p hp => ⟨(h.box p hp).1, fun hm => (h.box p hp).2 (by simp [hm])⟩⟩, h1, fun k hk => h2 k (by simp [hk]), h3⟩
/-- A nil slice is held, too. -/
theorem Holds.nilRow {R : World → List Nat → Prop} {B : Nat} {w0 w : World} {L : List (Nat × Obj)} (h : Holds B w0 R w L) (e : TypeId) (size : Nat) : Holds B w0 (sepR (rowR e size (.slice none 0 0) 0 []) R) w L := by
  obtain ⟨F, h, r⟩ := h
  exact ⟨F, ⟨⟨[], F, ⟨World.ownsRow_nil _ _ _ _, rfl⟩, h.res, by simp, by simp, h.lt, by simp⟩, h.lt, h.box⟩, r⟩
/-- Behind an append onto a row that is held. -/
theorem Holds.appended {Q : World → List Nat → Prop} {B : Nat} {w0 w w' : World} {L : List (Nat × Obj)} {e : TypeId} {size : Nat} {v v' : Value} {n n' : Nat} {xs xs' : List Value} (hQ : Stable Q) (h : Holds B w0 (sepR (rowR e size v n xs) Q) w L)
    (hown : w'.ownsRow 0 e size v' n' xs') (hf : Frm v.ownBlock.toList w w') (hn : ∀ k, v'.ownBlock = some k → v.ownBlock = some k ∨ w.heap.size ≤ k) : Holds B w0 (sepR (rowR e size v' n' xs') Q) w' L := by
  obtain ⟨F1, ⟨_, rfl⟩, _, _, hk⟩ := h.split hQ
  refine hk _ w' _ ⟨hown, rfl⟩ hf (fun k hk => ?_) (fun k hk => row_lt hown k (by simpa using hk))
  rcases hn k (by simpa using hk) with h1 | h1
  · exact .inl (by simp [h1])
  · exact .inr h1
theorem Holds.row {Q : World → List Nat → Prop} {B : Nat} {w0 w : World} {L : List (Nat × Obj)} {e : TypeId} {size : Nat} {v : Value} {n : Nat} {xs : List Value} (h : Holds B w0 (sepR (rowR e size v n xs) Q) w L) : w.ownsRow 0 e size v n xs := by
  obtain ⟨F, h, _⟩ := h
  obtain ⟨F1, F2, hR, _⟩ := h.res
  exact hR.1

/-- What a call does in the blocks of what it turns, and in new ones alone. -/
def Turns (r : Value) (w : World) (F : List Nat) (R' : World → List Nat → Prop) (e : Ending) (w' : World) : Prop :=
  e = .returned r ∧ ∃ F', R' w' F' ∧ Frm F w w' ∧ (∀ k ∈ F', k ∈ F ∨ w.heap.size ≤ k) ∧ ∀ k ∈ F', k < w'.heap.size
theorem Goes.call {P : Program} {f : FuncId} {args : Array Value} {r : Value} {B : Nat} {w0 w : World} {R R' Q : World → List Nat → Prop} {L : List (Nat × Obj)} (hQ : Stable Q) (h : Holds B w0 (sepR R Q) w L)
    (hc : ∀ F, R w F → Calls P f args w (Turns r w F R')) : Calls P f args w (Goes r B w0 (sepR R' Q) L) := by
  obtain ⟨F1, hR, _, _, hk⟩ := h.split hQ
  refine (hc F1 hR).mono fun e w' hd => ?_
  obtain ⟨he, F', hr, hf, hn, hl⟩ := hd
  exact ⟨he, hk _ w' F' hr hf hn hl⟩
theorem Goes.call_made {P : Program} {f : FuncId} {args : Array Value} {r : Value} {B : Nat} {w0 w : World} {R Q : World → List Nat → Prop} {L : List (Nat × Obj)} (hs : Stable R) (hQ : Stable Q) (h : Holds B w0 (sepR R Q) w L)
    (hc : ∀ F, R w F → Calls P f args w fun e w' => e = .returned r ∧ Frm [] w w') : Calls P f args w (Goes r B w0 (sepR R Q) L) := by
  obtain ⟨F, hR, _⟩ := h.split hQ
  exact (hc F hR).mono fun e w' hd => ⟨hd.1, h.made (sepR_stable hs hQ) hd.2⟩
theorem Goes.of_made {r : Value} {B : Nat} {w0 w : World} {R : World → List Nat → Prop} {L : List (Nat × Obj)} (hs : Stable R) (h : Holds B w0 R w L) {e : Ending} {w' : World} (he : e = .returned r) (hf : Frm [] w w') : Goes r B w0 R L e w' := ⟨he, h.made hs hf⟩

end Go.Proofs.Ytpfolcoijncfjaa
