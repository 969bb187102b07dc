/- Live of classes: how many things there are of them. -/
import Derived.Test.YtpfolcoijncfjaaSlabC
namespace Go.Proofs.Ytpfolcoijncfjaa
open Go.RowKit

def asks (l : List Int) (c : Int) : Bool := decide (1 ≤ c ∧ c ≤ 4 ∧ c ∈ l)
def askedCells (l : List Int) : List Value := [.bool (asks l 0), .bool (asks l 1), .bool (asks l 2), .bool (asks l 3), .bool (asks l 4)]
theorem asked_nil : askedCells [] = [.bool false, .bool false, .bool false, .bool false, .bool false] := by simp [askedCells, asks]
theorem asks_snoc (l : List Int) (c d : Int) (h : d ≠ c) : asks (l ++ [c]) d = asks l d := by simp [asks, h]
theorem asks_hit (l : List Int) (c : Int) (h1 : 1 ≤ c) (h2 : c ≤ 4) : asks (l ++ [c]) c = true := by simp [asks, h1, h2]
theorem asked_out (l : List Int) (c : Int) (h : c < 1 ∨ 4 < c) : askedCells (l ++ [c]) = askedCells l := by
  have h0 : asks (l ++ [c]) 0 = asks l 0 := by simp [asks]
  unfold askedCells
  rw [h0, asks_snoc _ _ 1 (by omega), asks_snoc _ _ 2 (by omega), asks_snoc _ _ 3 (by omega), asks_snoc _ _ 4 (by omega)]
theorem asked_in (l : List Int) (c : Nat) (h1 : 1 ≤ c) (h2 : c ≤ 4) : (askedCells l).set c (.bool true) = askedCells (l ++ [(c : Int)]) := by
  have h0 : asks (l ++ [(c : Int)]) 0 = asks l 0 := by simp [asks]
  have hc : c = 1 ∨ c = 2 ∨ c = 3 ∨ c = 4 := by omega
  rcases hc with rfl | rfl | rfl | rfl
  · change _ = askedCells (l ++ [(1 : Int)])
    change asks (l ++ [(1 : Int)]) 0 = _ at h0
    unfold askedCells
    rw [h0, asks_hit _ _ (by omega) (by omega), asks_snoc _ _ 2 (by omega), asks_snoc _ _ 3 (by omega), asks_snoc _ _ 4 (by omega)]; rfl
  · change _ = askedCells (l ++ [(2 : Int)])
    change asks (l ++ [(2 : Int)]) 0 = _ at h0
    unfold askedCells
    rw [h0, asks_snoc _ _ 1 (by omega), asks_hit _ _ (by omega) (by omega), asks_snoc _ _ 3 (by omega), asks_snoc _ _ 4 (by omega)]; rfl
  · change _ = askedCells (l ++ [(3 : Int)])
    change asks (l ++ [(3 : Int)]) 0 = _ at h0
    unfold askedCells
    rw [h0, asks_snoc _ _ 1 (by omega), asks_snoc _ _ 2 (by omega), asks_hit _ _ (by omega) (by omega), asks_snoc _ _ 4 (by omega)]; rfl
  · change _ = askedCells (l ++ [(4 : Int)])
    change asks (l ++ [(4 : Int)]) 0 = _ at h0
    unfold askedCells
    rw [h0, asks_snoc _ _ 1 (by omega), asks_snoc _ _ 2 (by omega), asks_snoc _ _ 3 (by omega), asks_hit _ _ (by omega) (by omega)]; rfl
theorem asked_at (l : List Int) (c : Nat) (h : c ≤ 4) : (askedCells l)[c]? = some (.bool (asks l (c : Int))) := by
  have hc : c = 0 ∨ c = 1 ∨ c = 2 ∨ c = 3 ∨ c = 4 := by omega
  rcases hc with rfl | rfl | rfl | rfl | rfl <;> rfl
theorem asked_length (l : List Int) : (askedCells l).length = 5 := rfl

def countOf (l : List Int) (xs : List Slot3) : Nat := xs.countP fun x => asks l x.1
def St.liveOf (s : St) (l : List Int) : Nat := countOf l s.slots
theorem countOf_snoc (l : List Int) (xs : List Slot3) (x : Slot3) : countOf l (xs ++ [x]) = countOf l xs + if asks l x.1 then 1 else 0 := by
  simp [countOf, List.countP_append, List.countP_cons]
theorem countOf_le (l : List Int) (xs : List Slot3) : countOf l xs ≤ xs.length := List.countP_le_length
theorem take_next {α : Type} {l : List α} {k : Nat} {x : α} (h : l[k]? = some x) : l.take (k + 1) = l.take k ++ [x] := by
  obtain ⟨hk, hx⟩ := List.getElem?_eq_some_iff.1 h
  rw [List.take_succ_eq_append_getElem hk, hx]

def AskRel (w : World) (cs : List Int) (m : Nat) (iv : Value) (wr : World) : Prop :=
  ∃ k : Nat, k ≤ m ∧ iv = .int .i64 (k : Int) ∧ Frm [] w wr ∧ wr.heap[w.heap.size]? = some (.cells (askedCells (cs.take k)).toArray 82)
def CntRel (w : World) (cs : List Int) (xs : List Slot3) (nv iv : Value) (wr : World) : Prop :=
  ∃ k : Nat, k ≤ xs.length ∧ iv = .int .i64 (k : Int) ∧ nv = .int .i64 (countOf cs (xs.take k) : Int) ∧ Frm [] w wr ∧ wr.heap[w.heap.size]? = some (.cells (askedCells cs).toArray 82)

set_option maxHeartbeats 1000000 in
set_option maxRecDepth 100000 in
theorem live_any {w : World} {b : Nat} {s : St} {sv fv : Value} (h : SlabAt w b s sv fv) (ho : s.Ok) (cs : List Int) (gc oc cc : Nat) (h0 : 0 < cs.length) (hm : cs.length ≤ 1000) (hgc : gc < w.heap.size)
    (hcs : ∀ (k : Nat) (c : Int), cs[k]? = some c → w.cell? ⟨gc, oc + k, none⟩ = some (.int .i64 c)) :
    Calls Try.prog 23 #[.pointer (some ⟨b, 0, none⟩), .slice (some ⟨gc, oc, none⟩) cs.length cc] w (Made (.int .i64 (s.liveOf cs : Int)) w) := by
  have hb := lt_of_obj h.box
  have hlen := ho.len
  have hroom := ho.room
  have Ho := Lib.hid ho
  have hk := Lib.hid h
  have Hcs := Lib.hid hcs
  have hm0 : ((cs.length : Int) == 0) = false := beq_eq_false_iff_ne.2 (by omega)
  clear h hcs ho
  go_enter Try.func23, Try.ntmps23
  go_wp2_with fail
  go_loopw [20] (fun iv wr => AskRel w cs cs.length iv wr) (fun iv _ => cs.length - (intOf iv).toNat)
  case atStart =>
    refine ⟨0, Nat.zero_le _, rfl, (Frm.refl _ _).alloc _, ?_⟩
    rw [List.take_zero, asked_nil]
    exact obj_new w _
  case round =>
    obtain ⟨k, hkm, rfl, hF, hbox⟩ := hrel
    have HF := Lib.hid hF
    have Hbox := Lib.hid hbox
    have hlb := lt_of_obj hbox
    have hsz := hF.size
    clear hF hbox
    by_cases hlt : k < cs.length
    · obtain ⟨c, hc⟩ : ∃ c, cs[k]? = some c := ⟨_, List.getElem?_eq_getElem hlt⟩
      have q := HF.out.cell (Hcs.out k c hc) (by simp)
      have Hc := Lib.hid hc
      have hlg : gc < wr.heap.size := by omega
      clear hc
      by_cases hin : 1 ≤ c ∧ c ≤ 4
      · obtain ⟨cn, rfl⟩ := Int.eq_ofNat_of_zero_le (a := c) (by omega)
        obtain ⟨hin1, hin2⟩ := hin
        have hin3 : cn < 5 := by omega
        have qc := (cell_of_obj Hbox.out cn).trans (by simpa using asked_at (cs.take k) cn (by omega))
        have qf := frozen_of_obj Hbox.out cn
        go_wp2
        go_roundw
        case rel =>
          refine ⟨k + 1, by omega, by go_num, HF.out.setCell (a := ⟨w.heap.size, cn, none⟩) (.inr (Nat.le_refl _)) _, ?_⟩
          rw [take_next Hc.out, ← asked_in _ cn (by omega) (by omega)]
          have := obj_setCell Hbox.out cn (.bool true)
          simpa using this
        case measure => simp [intOf]; omega
      · have hout : c < 1 ∨ 4 < c := by omega
        have Hout := Lib.hid hout
        clear hout
        by_cases hc1 : 1 ≤ c
        · have hc4 : ¬ c ≤ 4 := fun h => hin ⟨hc1, h⟩
          clear hin
          go_wp2
          go_roundw
          case rel => exact ⟨k + 1, by omega, by go_num, HF.out, by rw [take_next Hc.out, asked_out _ _ Hout.out]; exact Hbox.out⟩
          case measure => simp [intOf]; omega
        · clear hin
          go_wp2
          go_roundw
          case rel => exact ⟨k + 1, by omega, by go_num, HF.out, by rw [take_next Hc.out, asked_out _ _ Hout.out]; exact Hbox.out⟩
          case measure => simp [intOf]; omega
    · have hke : cs.take k = cs := List.take_of_length_le (by omega)
      have hbox := Hbox.out
      rw [hke] at hbox
      have hk1 := hk.out.kept HF.out (by simp)
      have h2 := hk1.c2
      have hb1 := lt_of_obj hk1.box
      obtain ⟨asl, csl, rfl⟩ := row_slice hk1.rowS
      have Hk1 := Lib.hid hk1
      have Hbx := Lib.hid hbox
      clear hk1 hbox hke Hbox
      go_wp2_with fail
      go_loopw [8, 38] (fun nv iv wx => CntRel w cs s.slots nv iv wx) (fun _ iv _ => s.slots.length - (intOf iv).toNat)
      case atStart => exact ⟨0, Nat.zero_le _, rfl, rfl, HF.out, Hbx.out⟩
      case round =>
        obtain ⟨i, him, rfl, rfl, hF2, hbox2⟩ := hrel
        have HF2 := Lib.hid hF2
        have Hbox2 := Lib.hid hbox2
        have hlb2 := lt_of_obj hbox2
        have hsz2 := hF2.size
        have hcnt := countOf_le cs (s.slots.take i)
        have hcnt2 : (s.slots.take i).length ≤ i := List.length_take_le _ _
        clear hF2 hbox2
        by_cases hil : i < s.slots.length
        · obtain ⟨⟨c, t, v⟩, hx⟩ : ∃ x, s.slots[i]? = some x := ⟨_, List.getElem?_eq_getElem hil⟩
          have hcls := Ho.out.cls i c t v hx
          obtain ⟨cn, rfl⟩ := Int.eq_ofNat_of_zero_le hcls.1
          have hcn : cn ≤ 4 := by omega
          have hk2 := hk.out.kept HF2.out (by simp)
          obtain ⟨g, cap, hsv, hg, q0, q1, q2, _⟩ := hk2.slot hx
          simp only [Value.slice.injEq, true_and] at hsv
          obtain ⟨rfl, rfl⟩ := hsv
          have qa := (cell_of_obj Hbox2.out cn).trans (by simpa using asked_at cs cn hcn)
          have hcn5 : cn < 5 := by omega
          have Hx := Lib.hid hx
          clear hx hcls hk2
          cases hask : asks cs (cn : Int) with
          | true =>
            rw [hask] at qa
            have Hask := Lib.hid hask
            clear hask
            go_wp2
            go_roundw
            case rel =>
              refine ⟨i + 1, by omega, by go_num, ?_, HF2.out.alloc _, obj_alloc Hbox2.out _⟩
              rw [take_next Hx.out, countOf_snoc, if_pos Hask.out]
              go_num
            case measure => simp [intOf]; omega
          | false =>
            rw [hask] at qa
            have Hask := Lib.hid hask
            clear hask
            go_wp2
            go_roundw
            case rel =>
              refine ⟨i + 1, by omega, by go_num, ?_, HF2.out.alloc _, obj_alloc Hbox2.out _⟩
              rw [take_next Hx.out, countOf_snoc, if_neg (by rw [Hask.out]; simp)]
              rfl
            case measure => simp [intOf]; omega
        · have hke : s.slots.take i = s.slots := List.take_of_length_le (by omega)
          have Hke := Lib.hid hke
          clear hke
          go_wp2
          go_ret
          exact ⟨by rw [Hke.out]; rfl, HF2.out⟩
end Go.Proofs.Ytpfolcoijncfjaa
