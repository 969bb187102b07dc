/- A ring in memory: a list that is gone round; what stands where. -/
import Derived.Test.YthamnalpkjjnlaaApp
import Derived.Test.YthamnalpkjjnlaaRows
namespace Go.Proofs.Ythamnalpkjjnlaa
open Go.RowKit Go.Maps

theorem cells4 {w : World} {b : Nat} {x y z u : Value} {t : TypeId} {f : Nat × Nat} (h : w.heap[b]? = some (.cells #[x, y, z, u] t f)) : w.cell? ⟨b, 0, none⟩ = some x ∧ w.cell? ⟨b, 1, none⟩ = some y ∧ w.cell? ⟨b, 2, none⟩ = some z ∧ w.cell? ⟨b, 3, none⟩ = some u := by
  refine ⟨?_, ?_, ?_, ?_⟩ <;> (rw [cell_of_obj h]; rfl)

/-- What a call answers; beside that it only makes memory. -/
def Says (r : Value) (w : World) (e : Ending) (w' : World) : Prop := e = .returned r ∧ Frm [] w w'

/-- A thing with its time. -/
structure It where
  at_ : Int
  v : Int
deriving DecidableEq
def It.cells (x : It) : List Value := [.int .i64 x.at_, .int .i64 x.v]
abbrev It.val (x : It) : Value := .agg #[.int .i64 x.at_, .int .i64 x.v]
def zeroIt : It := ⟨0, 0⟩
instance : Inhabited It := ⟨zeroIt⟩
theorem it_len (x : It) : x.cells.length = 2 := rfl
theorem it_one (x : It) : ∀ u ∈ x.cells, u.oneCell' = true := by
  intro u hu
  simp only [It.cells, List.mem_cons, List.not_mem_nil, or_false] at hu
  rcases hu with rfl | rfl <;> rfl
theorem infoItem : (Try.prog.info? 66).map (fun i => (i.zero, i.size, i.bytes)) = some (some (.agg #[.int .i64 0, .int .i64 0]), 2, 16) := by kernel_rfl
theorem info_parts {t : TypeId} {z : Value} {s n : Nat} (h : (Try.prog.info? t).map (fun i => (i.zero, i.size, i.bytes)) = some (some z, s, n)) : ∃ i, Try.prog.info? t = some i ∧ i.zero = some z ∧ i.size = s ∧ i.bytes = n := by
  cases hi : Try.prog.info? t with
  | none => rw [hi] at h; cases h
  | some i =>
    rw [hi] at h
    simp only [Option.map_some, Option.some.injEq, Prod.mk.injEq] at h
    exact ⟨i, rfl, h.1, h.2.1, h.2.2⟩

/-- Where the thing of a number stands. -/
def pl (f n i : Nat) : Nat := if f + i < n then f + i else f + i - n
theorem pl_lt {f n i : Nat} (h : f + i < n) : pl f n i = f + i := if_pos h
theorem pl_ge {f n i : Nat} (h : ¬ f + i < n) : pl f n i = f + i - n := if_neg h
theorem pl_bound {f n i : Nat} (hf : f < n) (hi : i < n) : pl f n i < n := by
  unfold pl; split <;> omega
theorem pl_inj {f n i j : Nat} (hf : f < n) (hi : i < n) (hj : j < n) (h : pl f n i = pl f n j) : i = j := by
  unfold pl at h
  split at h <;> split at h <;> omega

/-- What there is, in a list that is gone round. -/
structure Win (f : Nat) (P S : List It) : Prop where
  first : f < P.length ∨ P.length = 0 ∧ f = 0
  many : S.length ≤ P.length
  room : P.length ≤ 4096
  at_ : ∀ (i : Nat) (x : It), S[i]? = some x → P[pl f P.length i]? = some x
theorem Win.f_lt {f : Nat} {P S : List It} (h : Win f P S) : f ≤ 4096 := by
  have := h.room
  rcases h.first with h1 | h1 <;> omega
theorem Win.nil : Win 0 [] [] := ⟨.inr ⟨rfl, rfl⟩, Nat.le_refl _, by simp, fun i x h => by simp at h⟩

/-- A ring that is read. -/
def RingAt (w : World) (b : Nat) (room : Nat) (S : List It) : Prop :=
  ∃ (a : Option Addr) (c f : Nat) (P : List It), w.heap[b]? = some (.cells #[.int .i64 (room : Int), .slice a P.length c, .int .i64 (f : Int), .int .i64 (S.length : Int)] 59) ∧ SlAt It.cells 2 w a P.length c P ∧ (a = none → P.length = 0 ∧ c = 0) ∧ Win f P S
theorem RingAt.frm {w w' : World} {b room : Nat} {S : List It} (h : RingAt w b room S) (hf : Frm [] w w') : RingAt w' b room S := by
  obtain ⟨a, c, f, P, h1, h2, h3, h4⟩ := h
  exact ⟨a, c, f, P, hf.obj h1 (by simp), h2.frm hf, h3, h4⟩
theorem RingAt.many {w : World} {b room : Nat} {S : List It} (h : RingAt w b room S) : S.length ≤ 4096 := by
  obtain ⟨a, c, f, P, h1, h2, h3, h4⟩ := h
  exact Nat.le_trans h4.many h4.room

/-- Times never fall. -/
def Rise (S : List It) : Prop := S.Pairwise fun x y => x.at_ ≤ y.at_
theorem Rise.get {S : List It} (h : Rise S) {i j : Nat} {x y : It} (hi : S[i]? = some x) (hj : S[j]? = some y) (hij : i ≤ j) : x.at_ ≤ y.at_ := by
  rcases Nat.lt_or_eq_of_le hij with h1 | h1
  · obtain ⟨h2, h3⟩ := List.getElem?_eq_some_iff.1 hi
    obtain ⟨h4, h5⟩ := List.getElem?_eq_some_iff.1 hj
    subst h3 h5
    exact List.pairwise_iff_getElem.1 h i j h2 h4 h1
  · subst h1
    rw [hi] at hj
    cases hj
    omega
theorem Rise.take {S : List It} (h : Rise S) (n : Nat) : Rise (S.take n) := h.sublist (List.take_sublist n S)
theorem Rise.drop {S : List It} (h : Rise S) (n : Nat) : Rise (S.drop n) := h.sublist (List.drop_sublist n S)

/-- A ring that is held: its parts, and whole. -/
def ring0 (b room : Nat) (a : Option Addr) (c f m : Nat) (P : List It) : World → List Nat → Prop :=
  sepR (boxR b #[.int .i64 (room : Int), .slice a P.length c, .int .i64 (f : Int), .int .i64 (m : Int)] 59) (rowR 66 2 (.slice a P.length c) P.length (flat It.cells P))
theorem ring0_stable (b room : Nat) (a : Option Addr) (c f m : Nat) (P : List It) : Stable (ring0 b room a c f m P) := sepR_stable (boxR_stable _ _ _) (rowR_stable _ _ _ _ _)
def ringR (b room : Nat) (S : List It) : World → List Nat → Prop := fun w F => ∃ x : Option Addr × Nat × Nat × List It, factR (Win x.2.2.1 x.2.2.2 S ∧ Rise S ∧ S.length ≤ room ∧ x.2.2.2.length ≤ room ∧ room ≤ 4096) (ring0 b room x.1 x.2.1 x.2.2.1 S.length x.2.2.2) w F
theorem ringR_stable (b room : Nat) (S : List It) : Stable (ringR b room S) := exR_stable fun _ => factR_stable (ring0_stable _ _ _ _ _ _ _)
section
variable {B b room : Nat} {w0 w : World} {Q : World → List Nat → Prop} {L : List (Nat × Obj)} {S : List It} {a : Option Addr} {c f m : Nat} {P : List It}
/-- What is true of a ring's parts. -/
structure RFits (room f : Nat) (P S : List It) : Prop where
  win : Win f P S
  rise : Rise S
  many : S.length ≤ room
  list : P.length ≤ room
  room : room ≤ 4096
theorem Holds.ringOpen (h : Holds B w0 (sepR (ringR b room S) Q) w L) : ∃ a c f P, RFits room f P S ∧ Holds B w0 (sepR (ring0 b room a c f S.length P) Q) w L := by
  obtain ⟨⟨a, c, f, P⟩, h1⟩ := h.ex
  obtain ⟨⟨h2, h3, h4, h5, h6⟩, h7⟩ := h1.fact
  exact ⟨a, c, f, P, ⟨h2, h3, h4, h5, h6⟩, h7⟩
theorem Holds.ringShut (hf : RFits room f P S) (h : Holds B w0 (sepR (ring0 b room a c f S.length P) Q) w L) : Holds B w0 (sepR (ringR b room S) Q) w L :=
  Holds.ofEx (R := fun x : Option Addr × Nat × Nat × List It => factR (Win x.2.2.1 x.2.2.2 S ∧ Rise S ∧ S.length ≤ room ∧ x.2.2.2.length ≤ room ∧ room ≤ 4096) (ring0 b room x.1 x.2.1 x.2.2.1 S.length x.2.2.2)) (a, c, f, P) (Holds.ofFact ⟨hf.win, hf.rise, hf.many, hf.list, hf.room⟩ h)
theorem Holds.rBox (h : Holds B w0 (sepR (ring0 b room a c f m P) Q) w L) : Holds B w0 (sepR (boxR b #[.int .i64 (room : Int), .slice a P.length c, .int .i64 (f : Int), .int .i64 (m : Int)] 59) (sepR (rowR 66 2 (.slice a P.length c) P.length (flat It.cells P)) Q)) w L := h.conv Conv.flat
theorem Holds.rRow (h : Holds B w0 (sepR (ring0 b room a c f m P) Q) w L) : Holds B w0 (sepR (rowR 66 2 (.slice a P.length c) P.length (flat It.cells P)) (sepR (boxR b #[.int .i64 (room : Int), .slice a P.length c, .int .i64 (f : Int), .int .i64 (m : Int)] 59) Q)) w L := h.conv (Conv.flat.trans Conv.exch)
theorem Holds.rBox' (h : Holds B w0 (sepR (boxR b #[.int .i64 (room : Int), .slice a P.length c, .int .i64 (f : Int), .int .i64 (m : Int)] 59) (sepR (rowR 66 2 (.slice a P.length c) P.length (flat It.cells P)) Q)) w L) : Holds B w0 (sepR (ring0 b room a c f m P) Q) w L := h.conv Conv.fold
theorem Holds.rRow' (h : Holds B w0 (sepR (rowR 66 2 (.slice a P.length c) P.length (flat It.cells P)) (sepR (boxR b #[.int .i64 (room : Int), .slice a P.length c, .int .i64 (f : Int), .int .i64 (m : Int)] 59) Q)) w L) : Holds B w0 (sepR (ring0 b room a c f m P) Q) w L := h.conv (Conv.exch.trans Conv.fold)
theorem row_nil {e : TypeId} {size n : Nat} {xs : List Value} {base : Nat} (h : w.ownsRow base e size (.slice a n c) n xs) (ha : a = none) : n = 0 ∧ c = 0 := by
  rcases row_nil_or h with ⟨h2, h3⟩ | ⟨g, cap, h2, _⟩
  · simp only [Value.slice.injEq] at h2; exact ⟨h3, h2.2.2⟩
  · simp only [Value.slice.injEq] at h2; rw [ha] at h2; exact absurd h2.1 (by simp)
theorem Holds.ring0At (h : Holds B w0 (sepR (ring0 b room a c f S.length P) Q) w L) (hw : Win f P S) : RingAt w b room S :=
  ⟨a, c, f, P, h.rBox.theBox, SlAt.of_row it_len h.rRow.row rfl, fun ha => row_nil h.rRow.row ha, hw⟩
theorem Holds.ringAt (h : Holds B w0 (sepR (ringR b room S) Q) w L) : RingAt w b room S := by
  obtain ⟨a, c, f, P, h1, h2⟩ := h.ringOpen
  exact h2.ring0At h1.win
end
end Go.Proofs.Ythamnalpkjjnlaa
