/- The document's slab in memory, and what is only read of it. -/
import Derived.Test.YtpfolcoijncfjaaSlabEq
import Derived.Test.YtpfolcoijncfjaaSlabDead
namespace Go.Proofs.Ytpfolcoijncfjaa
open Go.RowKit

/-- Slots, those that were freed, how many are kept. -/
structure Rs where
  L : List Slot3
  F : List Nat
  res : Nat
structure RefAt (w : World) (b : Nat) (r : Rs) (lv fv : Value) : Prop where
  box : w.heap[b]? = some (.cells #[lv, fv, .int .i64 (r.res : Int)] 54 (0, 0))
  rowL : w.ownsRow 0 50 3 lv r.L.length (slotCells r.L)
  rowF : w.ownsRow 0 3 1 fv r.F.length (natCells r.F)
  neL : ∀ k, lv.ownBlock = some k → k ≠ b
  neF : ∀ k, fv.ownBlock = some k → k ≠ b
  neLF : ∀ k, lv.ownBlock = some k → fv.ownBlock ≠ some k
section
variable {w w' : World} {b : Nat} {r : Rs} {lv fv : Value}
theorem RefAt.kept {S : List Nat} (h : RefAt w b r lv fv) (hf : Frm S w w') (hd : ∀ k ∈ foot b lv fv, k ∉ S) : RefAt w' b r lv fv :=
  ⟨hf.obj h.box (hd _ (mem_foot.2 (.inl rfl))), hf.row h.rowL (fun k hk => hd k (mem_foot.2 (.inr (.inl hk)))), hf.row h.rowF (fun k hk => hd k (mem_foot.2 (.inr (.inr hk)))), h.neL, h.neF, h.neLF⟩
theorem RefAt.lt (h : RefAt w b r lv fv) : ∀ k ∈ foot b lv fv, k < w.heap.size := by
  intro k hk
  rcases mem_foot.1 hk with rfl | hk | hk
  · exact lt_of_obj h.box
  · exact row_lt h.rowL k hk
  · exact row_lt h.rowF k hk
theorem RefAt.c0 (h : RefAt w b r lv fv) : w.cell? ⟨b, 0, none⟩ = some lv := by rw [cell_of_obj h.box]; rfl
theorem RefAt.c1 (h : RefAt w b r lv fv) : w.cell? ⟨b, 1, none⟩ = some fv := by rw [cell_of_obj h.box]; rfl
theorem RefAt.c2 (h : RefAt w b r lv fv) : w.cell? ⟨b, 2, none⟩ = some (.int .i64 (r.res : Int)) := by rw [cell_of_obj h.box]; rfl
theorem RefAt.slot (h : RefAt w b r lv fv) {i : Nat} {c t v : Int} (hi : r.L[i]? = some (c, t, v)) :
    ∃ g cap, lv = .slice (some ⟨g, 0, none⟩) r.L.length cap ∧ g < w.heap.size ∧ r.L.length ≤ cap ∧ w.cell? ⟨g, i * 3, none⟩ = some (.int .i64 c) ∧ w.cell? ⟨g, i * 3 + 1, none⟩ = some (.int .i64 t) ∧ w.cell? ⟨g, i * 3 + 2, none⟩ = some (.int .i64 v) ∧
      ∀ j, w.frozen? ⟨g, j, none⟩ = false := by
  have hl := (List.getElem?_eq_some_iff.1 hi).1
  obtain ⟨g, cap, rfl, hg, hc, _⟩ := row_some h.rowL (by omega)
  obtain ⟨h1, h2, h3⟩ := slotCells_get hi
  refine ⟨g, cap, rfl, hg, hc, ?_, ?_, ?_, fun j => h.rowL.frozenAt j⟩
  · rw [h.rowL.cellAt _ (by omega)]; exact h1
  · rw [h.rowL.cellAt _ (by omega)]; exact h2
  · rw [h.rowL.cellAt _ (by omega)]; exact h3
end
def refR (b : Nat) (r : Rs) (w : World) (F : List Nat) : Prop := ∃ lv fv, RefAt w b r lv fv ∧ F = foot b lv fv
theorem refR_stable (b : Nat) (r : Rs) : Stable (refR b r) := by
  rintro S w w' F ⟨lv, fv, h, rfl⟩ hf hd
  exact ⟨lv, fv, h.kept hf hd, rfl⟩
theorem refR_lt {b : Nat} {r : Rs} {w : World} {F : List Nat} (h : refR b r w F) : ∀ k ∈ F, k < w.heap.size := by
  obtain ⟨lv, fv, h, rfl⟩ := h; exact h.lt

/-- How many of the slots are so. -/
def cntS (p : Slot3 → Bool) (l : List Slot3) (k : Nat) : Nat := (l.take k).countP p
theorem cntS_le (p : Slot3 → Bool) (l : List Slot3) (k : Nat) : cntS p l k ≤ k := Nat.le_trans List.countP_le_length (by rw [List.length_take]; omega)
theorem cntS_yes {p : Slot3 → Bool} {l : List Slot3} {k q : Nat} {x : Slot3} (hq : cntS p l k = q) (h : l[k]? = some x) (hx : p x = true) : cntS p l (k + 1) = q + 1 := by
  subst hq
  unfold cntS
  rw [take_next h, List.countP_append, List.countP_singleton, if_pos hx]
theorem cntS_no {p : Slot3 → Bool} {l : List Slot3} {k q : Nat} {x : Slot3} (hq : cntS p l k = q) (h : l[k]? = some x) (hx : p x = false) : cntS p l (k + 1) = q := by
  subst hq
  unfold cntS
  rw [take_next h, List.countP_append, List.countP_singleton, if_neg (by rw [hx]; simp)]
  rfl
def isFree (x : Slot3) : Bool := x.1 == 0
def isOf (c : Int) (x : Slot3) : Bool := decide (x.1 > 0) && (c == 0 || x.1 == c)

set_option maxHeartbeats 1000000 in
theorem rleft_any {w : World} {b : Nat} {r : Rs} {lv fv : Value} (h : RefAt w b r lv fv) (hn : r.L.length ≤ 10000) :
    Calls Try.prog 29 #[.pointer (some ⟨b, 0, none⟩)] w fun e w' => e = .returned (.int .i64 ((r.L.countP isFree : Nat) : Int)) ∧ w = w' := by
  obtain ⟨a, n, rfl⟩ := row_slice h.rowL
  obtain ⟨N, hN⟩ : ∃ N, r.L.length = N := ⟨_, rfl⟩
  have c0 := h.c0
  have z0 := lt_of_obj h.box
  rw [hN] at c0 hn
  have HN := Lib.hid hN
  have H := Lib.hid h
  clear h hN
  go_enter Try.func29, Try.ntmps29
  go_wp2_with fail
  go_loopw [3, 4] (fun nv iv wr => ∃ i q : Nat, i ≤ N ∧ q ≤ i ∧ iv = .int .i64 (i : Int) ∧ nv = .int .i64 (q : Int) ∧ cntS isFree r.L i = q ∧ w = wr) (fun _ iv _ => N - (intOf iv).toNat)
  case atStart => exact ⟨0, 0, Nat.zero_le _, Nat.le_refl _, rfl, rfl, by simp [cntS], rfl⟩
  case round =>
    obtain ⟨i, q, hi, hqi, rfl, rfl, hq, rfl⟩ := hrel
    have Hq := Lib.hid hq
    clear hq
    by_cases hlt : i < N
    · obtain ⟨⟨c, t, v⟩, hx⟩ : ∃ x, r.L[i]? = some x := ⟨_, List.getElem?_eq_getElem (by have := HN.out; omega)⟩
      obtain ⟨g, cap, hlv, hg, hca, p0, _⟩ := H.out.slot hx
      rw [HN.out] at hlv hca
      simp only [Value.slice.injEq, true_and] at hlv
      obtain ⟨rfl, rfl⟩ := hlv
      have Hx := Lib.hid hx
      have i0 : (0 : Int) ≤ (i : Int) := by omega
      have i1 : (i : Int) < (N : Int) := by omega
      clear hx
      cases hc : (c == 0)
      · have Hc := Lib.hid hc
        go_wp2_with fail
        go_roundw
        case rel => exact ⟨i + 1, q, by omega, by omega, by go_num, rfl, cntS_no Hq.out Hx.out Hc.out, by first | rfl | trivial⟩
        case measure => simp [intOf]; omega
      · have Hc := Lib.hid hc
        go_wp2_with fail
        go_roundw
        case rel => exact ⟨i + 1, q + 1, by omega, by omega, by go_num, by go_num, cntS_yes Hq.out Hx.out Hc.out, by first | rfl | trivial⟩
        case measure => simp [intOf]; omega
    · obtain rfl : N = i := by omega
      have hqq : r.L.countP isFree = q := by
        rw [← Hq.out]
        unfold cntS
        rw [List.take_of_length_le (by rw [HN.out]; exact Nat.le_refl _)]
      have Hqq := Lib.hid hqq
      clear hqq
      go_wp2_with fail
      go_ret
      exact ⟨by rw [Hqq.out]; rfl, rfl⟩

set_option maxHeartbeats 1000000 in
theorem rlive_any {w : World} {b : Nat} {r : Rs} {lv fv : Value} (h : RefAt w b r lv fv) (hn : r.L.length ≤ 10000) (cl : Int) :
    Calls Try.prog 19 #[.pointer (some ⟨b, 0, none⟩), .int .i64 cl] w fun e w' => e = .returned (.int .i64 ((r.L.countP (isOf cl) : Nat) : Int)) ∧ w = w' := by
  obtain ⟨a, n, rfl⟩ := row_slice h.rowL
  obtain ⟨N, hN⟩ : ∃ N, r.L.length = N := ⟨_, rfl⟩
  have c0 := h.c0
  have z0 := lt_of_obj h.box
  rw [hN] at c0 hn
  have HN := Lib.hid hN
  have H := Lib.hid h
  clear h hN
  go_enter Try.func19, Try.ntmps19
  go_wp2_with fail
  go_loopw [5, 6] (fun nv iv wr => ∃ i q : Nat, i ≤ N ∧ q ≤ i ∧ iv = .int .i64 (i : Int) ∧ nv = .int .i64 (q : Int) ∧ cntS (isOf cl) r.L i = q ∧ w = wr) (fun _ iv _ => N - (intOf iv).toNat)
  case atStart => exact ⟨0, 0, Nat.zero_le _, Nat.le_refl _, rfl, rfl, by simp [cntS], rfl⟩
  case round =>
    obtain ⟨i, q, hi, hqi, rfl, rfl, hq, rfl⟩ := hrel
    have Hq := Lib.hid hq
    clear hq
    by_cases hlt : i < N
    · obtain ⟨⟨c, t, v⟩, hx⟩ : ∃ x, r.L[i]? = some x := ⟨_, List.getElem?_eq_getElem (by have := HN.out; omega)⟩
      obtain ⟨g, cap, hlv, hg, hca, p0, _⟩ := H.out.slot hx
      rw [HN.out] at hlv hca
      simp only [Value.slice.injEq, true_and] at hlv
      obtain ⟨rfl, rfl⟩ := hlv
      have Hx := Lib.hid hx
      have i0 : (0 : Int) ≤ (i : Int) := by omega
      have i1 : (i : Int) < (N : Int) := by omega
      clear hx
      cases hc : decide (c > 0)
      · have hc' : decide (0 < c) = false := hc
        have Hc := Lib.hid (show isOf cl (c, t, v) = false by simp only [isOf]; rw [hc]; rfl)
        go_wp2_with fail
        go_roundw
        case rel => exact ⟨i + 1, q, by omega, by omega, by go_num, rfl, cntS_no Hq.out Hx.out Hc.out, by first | rfl | trivial⟩
        case measure => simp [intOf]; omega
      · have hc' : decide (0 < c) = true := hc
        cases hz : (cl == 0)
        · cases he : (c == cl)
          · have Hc := Lib.hid (show isOf cl (c, t, v) = false by simp only [isOf]; rw [hc, hz, he]; rfl)
            go_wp2_with fail
            go_roundw
            case rel => exact ⟨i + 1, q, by omega, by omega, by go_num, rfl, cntS_no Hq.out Hx.out Hc.out, by first | rfl | trivial⟩
            case measure => simp [intOf]; omega
          · have Hc := Lib.hid (show isOf cl (c, t, v) = true by simp only [isOf]; rw [hc, hz, he]; rfl)
            go_wp2_with fail
            go_roundw
            case rel => exact ⟨i + 1, q + 1, by omega, by omega, by go_num, by go_num, cntS_yes Hq.out Hx.out Hc.out, by first | rfl | trivial⟩
            case measure => simp [intOf]; omega
        · have Hc := Lib.hid (show isOf cl (c, t, v) = true by simp only [isOf]; rw [hc, hz]; rfl)
          go_wp2_with fail
          go_roundw
          case rel => exact ⟨i + 1, q + 1, by omega, by omega, by go_num, by go_num, cntS_yes Hq.out Hx.out Hc.out, by first | rfl | trivial⟩
          case measure => simp [intOf]; omega
    · obtain rfl : N = i := by omega
      have hqq : r.L.countP (isOf cl) = q := by
        rw [← Hq.out]
        unfold cntS
        rw [List.take_of_length_le (by rw [HN.out]; exact Nat.le_refl _)]
      have Hqq := Lib.hid hqq
      clear hqq
      go_wp2_with fail
      go_ret
      exact ⟨by rw [Hqq.out]; rfl, rfl⟩

/-- What a handle tells, by the document. -/
def tellsS (l : List Slot3) (x t : Int) : Bool := decide (0 ≤ x) && match l[x.toNat]? with | some (c, t', _) => decide (c > 0) && (t' == t) | none => false
set_option maxHeartbeats 1000000 in
theorem rtells_any {w : World} {b : Nat} {r : Rs} {lv fv : Value} (h : RefAt w b r lv fv) (_ : r.L.length ≤ 10000) (x t : Int) :
    Calls Try.prog 18 #[.pointer (some ⟨b, 0, none⟩), .int .i64 x, .int .i64 t] w fun e w' => e = .returned (.bool (tellsS r.L x t)) ∧ w = w' := by
  obtain ⟨a, n, rfl⟩ := row_slice h.rowL
  obtain ⟨N, hN⟩ : ∃ N, r.L.length = N := ⟨_, rfl⟩
  have c0 := h.c0
  have z0 := lt_of_obj h.box
  rw [hN] at c0
  have HN := Lib.hid hN
  have H := Lib.hid h
  clear h hN
  by_cases hx0 : 0 ≤ x
  · obtain ⟨i, rfl⟩ := Int.eq_ofNat_of_zero_le hx0
    have g0 : decide ((i : Int) ≥ 0) = true := by rw [decide_eq_true_eq]; omega
    by_cases hlt : i < N
    · obtain ⟨⟨c, t', v⟩, hx⟩ : ∃ x, r.L[i]? = some x := ⟨_, List.getElem?_eq_getElem (by have := HN.out; omega)⟩
      obtain ⟨g, cap, hlv, hg, hca, p0, p1, _⟩ := H.out.slot hx
      rw [HN.out] at hlv hca
      simp only [Value.slice.injEq, true_and] at hlv
      obtain ⟨rfl, rfl⟩ := hlv
      have hv : tellsS r.L (i : Int) t = (decide (c > 0) && (t' == t)) := by
        unfold tellsS
        rw [show ((i : Int)).toNat = i by omega, hx, decide_eq_true hx0]
        rfl
      have Hv := Lib.hid hv
      have i1 : (i : Int) < (N : Int) := by omega
      have g1 : decide ((i : Int) < (N : Int)) = true := by rw [decide_eq_true_eq]; omega
      clear hx hv
      cases hc : decide (c > 0)
      · have hc' : decide (0 < c) = false := hc
        rw [hc] at Hv
        go_enter Try.func18, Try.ntmps18
        go_wp2_with fail
        go_ret
        exact ⟨by rw [Hv.out]; rfl, rfl⟩
      · have hc' : decide (0 < c) = true := hc
        rw [hc] at Hv
        cases ht : (t' == t)
        · rw [ht] at Hv
          go_enter Try.func18, Try.ntmps18
          go_wp2_with fail
          go_ret
          exact ⟨by rw [Hv.out]; rfl, rfl⟩
        · rw [ht] at Hv
          go_enter Try.func18, Try.ntmps18
          go_wp2_with fail
          go_ret
          exact ⟨by rw [Hv.out]; rfl, rfl⟩
    · have hx : r.L[i]? = none := List.getElem?_eq_none (by rw [HN.out]; omega)
      have hv : tellsS r.L (i : Int) t = false := by
        unfold tellsS
        rw [show ((i : Int)).toNat = i by omega, hx, decide_eq_true hx0]
        rfl
      have Hv := Lib.hid hv
      have g1 : decide ((i : Int) < (N : Int)) = false := by rw [decide_eq_false_iff_not]; omega
      clear hx hv
      go_enter Try.func18, Try.ntmps18
      go_wp2_with fail
      go_ret
      exact ⟨by rw [Hv.out]; rfl, rfl⟩
  · have hv : tellsS r.L x t = false := by
      unfold tellsS
      rw [decide_eq_false hx0]
      rfl
    have Hv := Lib.hid hv
    have g0 : decide (x ≥ 0) = false := by rw [decide_eq_false_iff_not]; omega
    have g0' : decide (0 ≤ x) = false := by rw [decide_eq_false_iff_not]; omega
    clear hv
    go_enter Try.func18, Try.ntmps18
    go_wp2_with fail
    go_ret
    exact ⟨by rw [Hv.out]; rfl, rfl⟩
end Go.Proofs.Ytpfolcoijncfjaa
