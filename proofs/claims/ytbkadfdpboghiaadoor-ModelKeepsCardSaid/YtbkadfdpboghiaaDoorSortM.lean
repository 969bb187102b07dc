/- Events in a row of one's own; the function by which they are compared. -/
import Derived.Test.YtbkadfdpboghiaaDoorSortP
import Derived.Deep.RegionHeld3
import Derived.Deep.DrawnRows
namespace Go.Proofs.YtbkadfdpboghiaaDoor
open Go.RowKit Go.Maps

def Ev.cells (e : Ev) : List Value := [.int .i64 e.k.at_, .int .i64 e.k.src, .int .i64 e.k.sent, .int .i64 e.k.no, .int .i64 e.dst, .int .i64 e.kind, .int .i64 e.data]
def evCells : List Ev → List Value
  | [] => []
  | e :: l => .int .i64 e.k.at_ :: .int .i64 e.k.src :: .int .i64 e.k.sent :: .int .i64 e.k.no :: .int .i64 e.dst :: .int .i64 e.kind :: .int .i64 e.data :: evCells l
theorem evCells_length (l : List Ev) : (evCells l).length = l.length * 7 := by
  induction l with
  | nil => rfl
  | cons m l ih => simp only [evCells, List.length_cons, ih]; omega
theorem evCells_append (l m : List Ev) : evCells (l ++ m) = evCells l ++ evCells m := by
  induction l with
  | nil => rfl
  | cons x l ih => simp [evCells, ih]
theorem evCells_get {l : List Ev} {i : Nat} {e : Ev} (h : l[i]? = some e) : (evCells l)[i * 7]? = some (.int .i64 e.k.at_) ∧ (evCells l)[i * 7 + 1]? = some (.int .i64 e.k.src) ∧ (evCells l)[i * 7 + 2]? = some (.int .i64 e.k.sent) ∧
    (evCells l)[i * 7 + 3]? = some (.int .i64 e.k.no) ∧ (evCells l)[i * 7 + 4]? = some (.int .i64 e.dst) ∧ (evCells l)[i * 7 + 5]? = some (.int .i64 e.kind) ∧ (evCells l)[i * 7 + 6]? = some (.int .i64 e.data) := by
  induction l generalizing i with
  | nil => simp at h
  | cons x l ih =>
    cases i with
    | zero => simp at h; subst h; simp [evCells]
    | succ i =>
      have h' : l[i]? = some e := by simpa using h
      obtain ⟨h0, h1, h2, h3, h4, h5, h6⟩ := ih h'
      have e0 : (i + 1) * 7 = i * 7 + 7 := by omega
      refine ⟨?_, ?_, ?_, ?_, ?_, ?_, ?_⟩
      · rw [e0]; simpa [evCells] using h0
      · rw [e0, show i * 7 + 7 + 1 = (i * 7 + 1) + 7 by omega]; simpa [evCells] using h1
      · rw [e0, show i * 7 + 7 + 2 = (i * 7 + 2) + 7 by omega]; simpa [evCells] using h2
      · rw [e0, show i * 7 + 7 + 3 = (i * 7 + 3) + 7 by omega]; simpa [evCells] using h3
      · rw [e0, show i * 7 + 7 + 4 = (i * 7 + 4) + 7 by omega]; simpa [evCells] using h4
      · rw [e0, show i * 7 + 7 + 5 = (i * 7 + 5) + 7 by omega]; simpa [evCells] using h5
      · rw [e0, show i * 7 + 7 + 6 = (i * 7 + 6) + 7 by omega]; simpa [evCells] using h6
theorem evCells_set {l : List Ev} {i : Nat} (h : i < l.length) (e : Ev) :
    ((((((((evCells l).set (i * 7) (.int .i64 e.k.at_)).set (i * 7 + 1) (.int .i64 e.k.src)).set (i * 7 + 2) (.int .i64 e.k.sent)).set (i * 7 + 3) (.int .i64 e.k.no)).set (i * 7 + 4) (.int .i64 e.dst)).set (i * 7 + 5) (.int .i64 e.kind)).set (i * 7 + 6) (.int .i64 e.data)) = evCells (l.set i e) := by
  induction l generalizing i with
  | nil => simp at h
  | cons x l ih =>
    cases i with
    | zero => simp [evCells]
    | succ i =>
      have h' := ih (i := i) (by simpa using h)
      have e0 : (i + 1) * 7 = i * 7 + 7 := by omega
      rw [e0, show i * 7 + 7 + 1 = (i * 7 + 1) + 7 by omega, show i * 7 + 7 + 2 = (i * 7 + 2) + 7 by omega, show i * 7 + 7 + 3 = (i * 7 + 3) + 7 by omega, show i * 7 + 7 + 4 = (i * 7 + 4) + 7 by omega, show i * 7 + 7 + 5 = (i * 7 + 5) + 7 by omega, show i * 7 + 7 + 6 = (i * 7 + 6) + 7 by omega]
      simp only [evCells, List.set_cons_succ, h']
theorem evCells_one (l : List Ev) : ∀ u ∈ evCells l, u.oneCell' = true := by
  induction l with
  | nil => simp [evCells]
  | cons m l ih =>
    intro u hu
    simp only [evCells, List.mem_cons] at hu
    rcases hu with rfl | rfl | rfl | rfl | rfl | rfl | rfl | hu
    all_goals first | rfl | exact ih u hu

/-- A row of events. -/
abbrev evR (g n cap : Nat) (l : List Ev) : World → List Nat → Prop := rowR 65 7 (.slice (some ⟨g, 0, none⟩) n cap) n (evCells l)
theorem evR_stable (g n cap : Nat) (l : List Ev) : Stable (evR g n cap l) := rowR_stable _ _ _ _ _

def putEv (w : World) (g i : Nat) (e : Ev) : World :=
  ((((((w.setCell ⟨g, i * 7, none⟩ (.int .i64 e.k.at_)).setCell ⟨g, i * 7 + 1, none⟩ (.int .i64 e.k.src)).setCell ⟨g, i * 7 + 2, none⟩ (.int .i64 e.k.sent)).setCell ⟨g, i * 7 + 3, none⟩ (.int .i64 e.k.no)).setCell ⟨g, i * 7 + 4, none⟩ (.int .i64 e.dst)).setCell ⟨g, i * 7 + 5, none⟩ (.int .i64 e.kind)).setCell ⟨g, i * 7 + 6, none⟩ (.int .i64 e.data)
section
variable {B : Nat} {w0 w : World} {Q : World → List Nat → Prop} {L : List (Nat × Obj)} {g n cap : Nat} {l : List Ev}
theorem Holds.evAt (h : Holds B w0 (sepR (evR g n cap l) Q) w L) {i : Nat} {e : Ev} (he : l[i]? = some e) :
    w.cell? ⟨g, i * 7, none⟩ = some (.int .i64 e.k.at_) ∧ w.cell? ⟨g, i * 7 + 1, none⟩ = some (.int .i64 e.k.src) ∧ w.cell? ⟨g, i * 7 + 2, none⟩ = some (.int .i64 e.k.sent) ∧ w.cell? ⟨g, i * 7 + 3, none⟩ = some (.int .i64 e.k.no) ∧
      w.cell? ⟨g, i * 7 + 4, none⟩ = some (.int .i64 e.dst) ∧ w.cell? ⟨g, i * 7 + 5, none⟩ = some (.int .i64 e.kind) ∧ w.cell? ⟨g, i * 7 + 6, none⟩ = some (.int .i64 e.data) := by
  obtain ⟨h0, h1, h2, h3, h4, h5, h6⟩ := evCells_get he
  have hr := h.row
  have hl : l.length = n := by have := hr.1; rw [evCells_length] at this; omega
  have hi := (List.getElem?_eq_some_iff.1 he).1
  refine ⟨?_, ?_, ?_, ?_, ?_, ?_, ?_⟩
  · rw [hr.cellAt _ (by omega)]; exact h0
  · rw [hr.cellAt _ (by omega)]; exact h1
  · rw [hr.cellAt _ (by omega)]; exact h2
  · rw [hr.cellAt _ (by omega)]; exact h3
  · rw [hr.cellAt _ (by omega)]; exact h4
  · rw [hr.cellAt _ (by omega)]; exact h5
  · rw [hr.cellAt _ (by omega)]; exact h6
theorem Holds.putEv (hQ : Stable Q) (h : Holds B w0 (sepR (evR g n cap l) Q) w L) {i : Nat} (hi : i < l.length) (e : Ev) : Holds B w0 (sepR (evR g n cap (l.set i e)) Q) (putEv w g i e) L := by
  have h1 := ((((((h.stored hQ (i * 7) (.int .i64 e.k.at_)).stored hQ (i * 7 + 1) (.int .i64 e.k.src)).stored hQ (i * 7 + 2) (.int .i64 e.k.sent)).stored hQ (i * 7 + 3) (.int .i64 e.k.no)).stored hQ (i * 7 + 4) (.int .i64 e.dst)).stored hQ (i * 7 + 5) (.int .i64 e.kind)).stored hQ (i * 7 + 6) (.int .i64 e.data)
  rw [evCells_set hi e] at h1
  exact h1
end
set_option maxHeartbeats 400000 in
theorem cmp_any (a b : Ev) (w : World) : Calls Tryd.prog 46 #[.agg #[.int .i64 a.k.at_, .int .i64 a.k.src, .int .i64 a.k.sent, .int .i64 a.k.no, .int .i64 a.dst, .int .i64 a.kind, .int .i64 a.data],
    .agg #[.int .i64 b.k.at_, .int .i64 b.k.src, .int .i64 b.k.sent, .int .i64 b.k.no, .int .i64 b.dst, .int .i64 b.kind, .int .i64 b.data]] w (Says (.int .i64 (a.k.cmp b.k)) w) := by
  have hc := compare_any a.k b.k
  generalize a.k.cmp b.k = c at hc
  have Hc := Lib.hid hc
  have HF := Lib.hid (((Frm.refl [] w).alloc (.cells #[.int .i64 a.k.at_, .int .i64 a.k.src, .int .i64 a.k.sent, .int .i64 a.k.no, .int .i64 a.dst, .int .i64 a.kind, .int .i64 a.data] 65)).alloc (.cells #[.int .i64 b.k.at_, .int .i64 b.k.src, .int .i64 b.k.sent, .int .i64 b.k.no, .int .i64 b.dst, .int .i64 b.kind, .int .i64 b.data] 65))
  clear hc
  go_enter Tryd.func46, Tryd.ntmps46
  go_wp2_with fail
  refine (Hc.out _).mono ?_
  rintro e w1 ⟨rfl, hf⟩
  have Hf := Lib.hid hf
  clear hf
  go_wp2_with fail
  go_ret
  exact ⟨rfl, HF.out.trans Hf.out (by simp)⟩
end Go.Proofs.YtbkadfdpboghiaaDoor
