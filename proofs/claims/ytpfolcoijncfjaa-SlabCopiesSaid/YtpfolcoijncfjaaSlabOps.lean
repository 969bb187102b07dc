/- The calls of a law of slabs, as they lie in memory; the small functions of the laws. -/
import Derived.Test.YtpfolcoijncfjaaSlabAwake
namespace Go.Proofs.Ytpfolcoijncfjaa
open Go.RowKit

structure OpV where
  ask : Int
  cls : Int
  urg : Bool
  v : Int
  at_ : Int
  hs : Int
  ht : Int
def OpV.cells (o : OpV) : List Value := [.int .i64 o.ask, .int .i64 o.cls, .bool o.urg, .int .i64 o.v, .int .i64 o.at_, .int .i64 o.hs, .int .i64 o.ht]
structure OpV.Wf (o : OpV) : Prop where
  ask : (Lit.int .i64 o.ask).wf = true
  cls : (Lit.int .i64 o.cls).wf = true
  v : (Lit.int .i64 o.v).wf = true
  at_ : (Lit.int .i64 o.at_).wf = true
  hs : (Lit.int .i64 o.hs).wf = true
  ht : (Lit.int .i64 o.ht).wf = true

/-- A slice of calls that came in. -/
def OpsAt (w : World) (a : Option Addr) (n cap : Nat) (l : List OpV) : Prop :=
  l.length = n ∧ n ≤ cap ∧ cap ≤ maxLen ∧ (∀ o ∈ l, o.Wf) ∧ (n = 0 ∨ ∃ b off, a = some ⟨b, off, none⟩ ∧ b < w.heap.size ∧
      ∀ (k : Nat) (o : OpV), l[k]? = some o → ∀ (j : Nat) (u : Value), o.cells[j]? = some u → w.cell? ⟨b, off + k * 7 + j, none⟩ = some u)

theorem OpsAt.at_ {w : World} {a : Option Addr} {n cap : Nat} {l : List OpV} (h : OpsAt w a n cap l) {k : Nat} (hk : k < n) :
    ∃ b off o, a = some ⟨b, off, none⟩ ∧ b < w.heap.size ∧ l[k]? = some o ∧ o.Wf ∧ w.cell? ⟨b, off + k * 7, none⟩ = some (.int .i64 o.ask) ∧ w.cell? ⟨b, off + k * 7 + 1, none⟩ = some (.int .i64 o.cls) ∧
      w.cell? ⟨b, off + k * 7 + 2, none⟩ = some (.bool o.urg) ∧ w.cell? ⟨b, off + k * 7 + 3, none⟩ = some (.int .i64 o.v) ∧ w.cell? ⟨b, off + k * 7 + 4, none⟩ = some (.int .i64 o.at_) ∧
      w.cell? ⟨b, off + k * 7 + 5, none⟩ = some (.int .i64 o.hs) ∧ w.cell? ⟨b, off + k * 7 + 6, none⟩ = some (.int .i64 o.ht) := by
  obtain ⟨hl1, hl2, hl3, hl4, hl5⟩ := h
  rcases hl5 with h0 | ⟨bl, off, rfl, hbl, hcells⟩
  · omega
  obtain ⟨o, hok⟩ : ∃ o, l[k]? = some o := ⟨_, List.getElem?_eq_getElem (by omega)⟩
  have hcs := hcells k o hok
  exact ⟨bl, off, o, rfl, hbl, hok, hl4 _ (List.mem_of_getElem? hok), hcs 0 _ rfl, hcs 1 _ rfl, hcs 2 _ rfl, hcs 3 _ rfl, hcs 4 _ rfl, hcs 5 _ rfl, hcs 6 _ rfl⟩

set_option maxHeartbeats 400000 in
theorem few_any (w : World) (a : Option Addr) (n cap : Nat) : Calls Try.prog 11 #[.slice a n cap] w fun e w' => e = .returned (.bool (decide ((n : Int) ≤ 60))) ∧ w = w' := by
  go_enter Try.func11, Try.ntmps11
  go_wp2
  go_ret
  exact ⟨rfl, rfl⟩

/-- Handles in a row. -/
def handleCells : List (Int × Int) → List Value
  | [] => []
  | (x, t) :: l => .int .i64 x :: .int .i64 t :: handleCells l
theorem handleCells_length (l : List (Int × Int)) : (handleCells l).length = l.length * 2 := by
  induction l with
  | nil => rfl
  | cons s l ih => obtain ⟨c, t⟩ := s; simp only [handleCells, List.length_cons, ih]; omega
theorem handleCells_append (l m : List (Int × Int)) : handleCells (l ++ m) = handleCells l ++ handleCells m := by
  induction l with
  | nil => rfl
  | cons s l ih => obtain ⟨c, t⟩ := s; simp [handleCells, ih]
theorem handleCells_get {l : List (Int × Int)} {i : Nat} {x t : Int} (h : l[i]? = some (x, t)) : (handleCells l)[i * 2]? = some (.int .i64 x) ∧ (handleCells l)[i * 2 + 1]? = some (.int .i64 t) := by
  induction l generalizing i with
  | nil => simp at h
  | cons s l ih =>
    obtain ⟨c', t'⟩ := s
    cases i with
    | zero => simp at h; obtain ⟨rfl, rfl⟩ := h; simp [handleCells]
    | succ i =>
      have h' : l[i]? = some (x, t) := by simpa using h
      obtain ⟨h1, h2⟩ := ih h'
      have e : (i + 1) * 2 = i * 2 + 2 := by omega
      refine ⟨?_, ?_⟩
      · rw [e]; simpa [handleCells] using h1
      · rw [e, show i * 2 + 2 + 1 = (i * 2 + 1) + 2 by omega]; simpa [handleCells] using h2
theorem handleCells_take (l : List (Int × Int)) (k : Nat) : (handleCells l).take (k * 2) = handleCells (l.take k) := by
  induction l generalizing k with
  | nil => simp [handleCells]
  | cons s l ih =>
    obtain ⟨c, t⟩ := s
    cases k with
    | zero => simp [handleCells]
    | succ k => rw [show (k + 1) * 2 = k * 2 + 2 by omega]; simp [handleCells, ih]
theorem handleCells_drop (l : List (Int × Int)) (k : Nat) : (handleCells l).drop (k * 2) = handleCells (l.drop k) := by
  induction l generalizing k with
  | nil => simp [handleCells]
  | cons s l ih =>
    obtain ⟨c, t⟩ := s
    cases k with
    | zero => simp [handleCells]
    | succ k => rw [show (k + 1) * 2 = k * 2 + 2 by omega]; simp [handleCells, ih]

theorem infoHandle : (Try.prog.info? 38).map (fun i => (i.zero, i.size, i.bytes)) = some (some (.agg #[.int .i64 0, .int .i64 0]), 2, 16) := by kernel_rfl

theorem takes_cases {s s' : St} {c v : Int} {u : Bool} {r : Value} (h : s.Ok) (he : s.takes c u v = (r, s')) :
    (∃ e : Int, (e == 0) = false ∧ r = .tuple #[.agg #[.int .i64 0, .int .i64 0], .int .i64 e] ∧ s' = s) ∨
    (r = .tuple #[.agg #[.int .i64 (s.pick.1 : Int), .int .i64 s.turn], .int .i64 0] ∧ s' = s.take c v ∧ 1 ≤ c ∧ c ≤ 4 ∧ 0 < s.left ∧ s.isFull u = false) := by
  unfold St.takes at he
  by_cases hc : c < 1 ∨ 4 < c
  · rw [if_pos hc] at he; cases he; exact .inl ⟨1, rfl, rfl, rfl⟩
  · rw [if_neg hc] at he
    cases hf : s.isFull u with
    | true => rw [hf] at he; cases he; exact .inl ⟨11, rfl, rfl, rfl⟩
    | false => rw [hf] at he; cases he; exact .inr ⟨rfl, rfl, by omega, by omega, full_left h hf, rfl⟩

theorem row_handle {w : World} {al : Option Addr} {cl : Nat} {live : List (Int × Int)} (h : w.ownsRow 0 38 2 (.slice al live.length cl) live.length (handleCells live)) {j : Nat} (hj : j < live.length) :
    ∃ g, al = some ⟨g, 0, none⟩ ∧ g < w.heap.size ∧ ∃ x t, live[j]? = some (x, t) ∧ w.cell? ⟨g, j * 2, none⟩ = some (.int .i64 x) ∧ w.cell? ⟨g, j * 2 + 1, none⟩ = some (.int .i64 t) := by
  obtain ⟨g, cap, hv, hg, _⟩ := row_some h (by omega)
  simp only [Value.slice.injEq, true_and] at hv
  obtain ⟨rfl, rfl⟩ := hv
  obtain ⟨⟨x, t⟩, hx⟩ : ∃ p, live[j]? = some p := ⟨_, List.getElem?_eq_getElem hj⟩
  obtain ⟨h1, h2⟩ := handleCells_get hx
  refine ⟨g, rfl, hg, x, t, hx, ?_, ?_⟩
  · rw [h.cellAt _ (by omega)]; exact h1
  · rw [h.cellAt _ (by omega)]; exact h2

/-- How many turns a slab's slots have had at most. -/
def St.Upto (s : St) (n : Int) : Prop := ∀ i, (s.at' i).2.1 ≤ n
theorem upto_turn {s : St} (h : s.Ok) {n : Int} (hu : s.Upto n) : s.turn ≤ n + 1 := by
  have := pick_free' h
  have := hu s.pick.1
  omega
theorem upto_take {s : St} (h : s.Ok) {n : Int} (hu : s.Upto n) (c v : Int) : (s.take c v).Upto (n + 1) := by
  intro i
  rw [take_at h]
  by_cases hi : i = s.pick.1
  · rw [if_pos hi]; exact upto_turn h hu
  · rw [if_neg hi]; have := hu i; omega
theorem upto_free {s : St} {i : Nat} (hi : i < s.slots.length) {t : Int} {n : Int} (hu : s.Upto n) (ht : (s.at' i).2.1 = t) : (s.free i t).Upto n := by
  intro j
  rw [free_at hi]
  by_cases hj : j = i
  · rw [if_pos hj]; have := hu i; dsimp only; omega
  · rw [if_neg hj]; exact hu j
theorem upto_set {s : St} {i : Nat} {c t v : Int} (hs : s.slots[i]? = some (c, t, v)) (u : Int) {n : Int} (hu : s.Upto n) : ({ s with slots := s.slots.set i (c, t, u) } : St).Upto n := by
  have hi := (List.getElem?_eq_some_iff.1 hs).1
  have ha := at_some hs
  intro j
  rw [set_at hi]
  by_cases hj : j = i
  · rw [if_pos hj]; have := hu i; rw [ha] at this; exact this
  · rw [if_neg hj]; exact hu j
theorem Upto.mono {s : St} {n m : Int} (h : s.Upto n) (hn : n ≤ m) : s.Upto m := fun i => by have := h i; omega
theorem new_Upto (n r : Nat) : (⟨n, r, [], []⟩ : St).Upto 0 := fun i => by simp [St.at']
end Go.Proofs.Ytpfolcoijncfjaa
