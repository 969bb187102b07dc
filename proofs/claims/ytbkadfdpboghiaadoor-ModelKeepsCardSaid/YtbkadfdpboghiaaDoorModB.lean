/- Package model: known, timely, Check. -/
import Derived.Test.YtbkadfdpboghiaaDoorModA
import Derived.Deep.RegionHeld3
namespace Go.Proofs.YtbkadfdpboghiaaDoor
open Go.RowKit Go.Maps

theorem known_14a {C : Cf} {p : Pl} (hp : p ∈ C.ls) (h : hasB C.pn p.pr = false) : knownE C = 14 := by
  unfold knownE
  rw [if_neg]
  simp only [Bool.and_eq_true, List.all_eq_true, not_and]
  intro h1
  rw [h1 p hp] at h
  cases h
theorem known_14b {C : Cf} {s : St} (hs : s ∈ C.ss) (h : hasB C.ln s.dst = false) : knownE C = 14 := by
  unfold knownE
  rw [if_neg]
  simp only [Bool.and_eq_true, List.all_eq_true, not_and]
  intro _ h1
  rw [h1 s hs] at h
  cases h
theorem known_0 {C : Cf} (h1 : ∀ p ∈ C.ls, hasB C.pn p.pr = true) (h2 : ∀ s ∈ C.ss, hasB C.ln s.dst = true) : knownE C = 0 := by
  unfold knownE
  rw [if_pos]
  simp only [Bool.and_eq_true, List.all_eq_true]
  exact ⟨h1, h2⟩
theorem timely_18 {C : Cf} {s : St} (hs : s ∈ C.ss) (h : timelyB C.fin s = false) : timelyE C = 18 := by
  unfold timelyE
  rw [if_neg]
  simp only [List.all_eq_true]
  intro h1
  rw [h1 s hs] at h
  cases h
theorem timely_0 {C : Cf} (h : ∀ s ∈ C.ss, timelyB C.fin s = true) : timelyE C = 0 := by
  unfold timelyE
  rw [if_pos]
  simpa only [List.all_eq_true] using h
theorem take_all {α : Type} {P : α → Prop} {l : List α} {k : Nat} {x : α} (h : ∀ p ∈ l.take k, P p) (hx : l[k]? = some x) (hp : P x) : ∀ p ∈ l.take (k + 1), P p := by
  intro p hm
  rw [List.take_add_one, hx, Option.toList_some, List.mem_append, List.mem_singleton] at hm
  rcases hm with hm | rfl
  · exact h p hm
  · exact hp

set_option maxHeartbeats 2000000 in
theorem known_any {C : Cf} {w : World} (hC : CfAt w C) : Calls Tryd.prog 36 #[C.val] w (Tells (.int .i64 (knownE C)) w) := by
  have hF0 : Frm [] w (w.alloc (C.obj 26)) := (Frm.refl _ _).alloc _
  have hb0 : (w.alloc (C.obj 26)).heap[w.heap.size]? = some (C.obj 26) := obj_new w _
  have hln : C.ls.length = C.ln := hC.ls.1
  have hsn : C.ss.length = C.sn := hC.ss.1
  have hc1 := hC.ls.2.2.1
  have hc2 := hC.ls.2.1
  have hc3 := hC.ss.2.2.1
  have hc4 := hC.ss.2.1
  simp only [maxLen] at hc1 hc3
  have HF0 := Lib.hid hF0
  have HB0 := Lib.hid hb0
  have HC := Lib.hid hC
  have Hln := Lib.hid hln
  have Hsn := Lib.hid hsn
  clear hF0 hb0 hC hln hsn
  go_enter Tryd.func36, Tryd.ntmps36
  go_wp2_with fail
  go_loopw [10] (fun iv wr => ∃ k : Nat, k ≤ C.ln ∧ iv = .int .i64 (k : Int) ∧ (∀ p ∈ C.ls.take k, hasB C.pn p.pr = true) ∧ Frm [] (w.alloc (C.obj 26)) wr) (fun iv _ => C.ln - (intOf iv).toNat)
  case atStart => exact ⟨0, by omega, rfl, by simp, Frm.refl _ _⟩
  case round =>
    obtain ⟨k, hk, rfl, hok, hF⟩ := hrel
    have Hk := Lib.hid hok
    have HF := Lib.hid (HF0.out.trans (T := []) hF (by simp))
    have HB := Lib.hid (hF.obj HB0.out (by simp))
    have HF1 := Lib.hid hF
    clear hok hF
    obtain ⟨c0, c1, c2, c3, c4, c5⟩ := cells6 HB.out
    have z0 := World.block_lt_of_cell? _ _ c0
    dsimp only at z0
    by_cases hlt : k < C.ln
    · obtain ⟨b, off, x, hca, hbl, hx, p0, p1, p2, p3, p4⟩ := (SlAt.frm HC.out.ls HF.out).plAt hlt
      have Hx := Lib.hid hx
      clear hx
      rw [hca]
      cases hh : hasB C.pn x.pr
      · have Hh := Lib.hid hh
        go_wp2_with fail
        refine (has_any _ _ _).mono ?_
        rintro e w1 ⟨rfl, rfl⟩
        go_wp2_with fail
        go_ret
        rw [known_14a (List.mem_of_getElem? Hx.out) Hh.out]
        exact ⟨rfl, HF.out.alloc _⟩
      · have Hh := Lib.hid hh
        go_wp2_with fail
        refine (has_any _ _ _).mono ?_
        rintro e w1 ⟨rfl, rfl⟩
        go_wp2_with fail
        go_roundw
        case rel => exact ⟨k + 1, by omega, by go_num, take_all Hk.out Hx.out Hh.out, HF1.out.alloc _⟩
        case measure => simp [intOf]; omega
    · obtain rfl : k = C.ln := by omega
      have hall : ∀ p ∈ C.ls, hasB C.pn p.pr = true := by have := Hk.out; rwa [List.take_of_length_le (by have := Hln.out; omega)] at this
      have Hall := Lib.hid hall
      clear hall
      go_wp2_with fail
      go_loopw [25] (fun iv wr => ∃ k : Nat, k ≤ C.sn ∧ iv = .int .i64 (k : Int) ∧ (∀ p ∈ C.ss.take k, hasB C.ln p.dst = true) ∧ Frm [] (w.alloc (C.obj 26)) wr) (fun iv _ => C.sn - (intOf iv).toNat)
      case atStart => exact ⟨0, by omega, rfl, by simp, HF1.out⟩
      case round =>
        clear c0 c1 c2 c3 c4 c5 z0
        obtain ⟨k, hk, rfl, hok, hF⟩ := hrel
        have Hk := Lib.hid hok
        have HF := Lib.hid (HF0.out.trans (T := []) hF (by simp))
        have HB := Lib.hid (hF.obj HB0.out (by simp))
        have HF1 := Lib.hid hF
        clear hok hF
        obtain ⟨c0, c1, c2, c3, c4, c5⟩ := cells6 HB.out
        have z0 := World.block_lt_of_cell? _ _ c0
        dsimp only at z0
        by_cases hlt : k < C.sn
        · obtain ⟨b, off, x, hca, hbl, hx, p0, p1, p2, p3⟩ := (SlAt.frm HC.out.ss HF.out).stAt hlt
          have Hx := Lib.hid hx
          clear hx
          rw [hca]
          cases hh : hasB C.ln x.dst
          · have Hh := Lib.hid hh
            go_wp2_with fail
            refine (has_any _ _ _).mono ?_
            rintro e w1 ⟨rfl, rfl⟩
            go_wp2_with fail
            go_ret
            rw [known_14b (List.mem_of_getElem? Hx.out) Hh.out]
            exact ⟨rfl, HF.out.alloc _⟩
          · have Hh := Lib.hid hh
            go_wp2_with fail
            refine (has_any _ _ _).mono ?_
            rintro e w1 ⟨rfl, rfl⟩
            go_wp2_with fail
            go_roundw
            case rel => exact ⟨k + 1, by omega, by go_num, take_all Hk.out Hx.out Hh.out, HF1.out.alloc _⟩
            case measure => simp [intOf]; omega
        · obtain rfl : k = C.sn := by omega
          have hall2 : ∀ p ∈ C.ss, hasB C.ln p.dst = true := by have := Hk.out; rwa [List.take_of_length_le (by have := Hsn.out; omega)] at this
          have Hall2 := Lib.hid hall2
          clear hall2
          go_wp2_with fail
          go_ret
          rw [known_0 Hall.out Hall2.out]
          exact ⟨rfl, HF.out⟩

set_option maxHeartbeats 2000000 in
theorem timely_any {C : Cf} {w : World} (hC : CfAt w C) : Calls Tryd.prog 37 #[C.val] w (Tells (.int .i64 (timelyE C)) w) := by
  have hF0 : Frm [] w (w.alloc (C.obj 26)) := (Frm.refl _ _).alloc _
  have hb0 : (w.alloc (C.obj 26)).heap[w.heap.size]? = some (C.obj 26) := obj_new w _
  have hsn : C.ss.length = C.sn := hC.ss.1
  have hc3 := hC.ss.2.2.1
  have hc4 := hC.ss.2.1
  simp only [maxLen] at hc3
  have HF0 := Lib.hid hF0
  have HB0 := Lib.hid hb0
  have HC := Lib.hid hC
  have Hsn := Lib.hid hsn
  clear hF0 hb0 hC hsn
  go_enter Tryd.func37, Tryd.ntmps37
  go_wp2_with fail
  go_loopw [8] (fun iv wr => ∃ k : Nat, k ≤ C.sn ∧ iv = .int .i64 (k : Int) ∧ (∀ p ∈ C.ss.take k, timelyB C.fin p = true) ∧ Frm [] (w.alloc (C.obj 26)) wr) (fun iv _ => C.sn - (intOf iv).toNat)
  case atStart => exact ⟨0, by omega, rfl, by simp, Frm.refl _ _⟩
  case round =>
    obtain ⟨k, hk, rfl, hok, hF⟩ := hrel
    have Hk := Lib.hid hok
    have HF := Lib.hid (HF0.out.trans (T := []) hF (by simp))
    have HB := Lib.hid (hF.obj HB0.out (by simp))
    have HF1 := Lib.hid hF
    clear hok hF
    obtain ⟨c0, c1, c2, c3, c4, c5⟩ := cells6 HB.out
    have z0 := World.block_lt_of_cell? _ _ c0
    dsimp only at z0
    by_cases hlt : k < C.sn
    · obtain ⟨b, off, x, hca, hbl, hx, p0, p1, p2, p3⟩ := (SlAt.frm HC.out.ss HF.out).stAt hlt
      have Hx := Lib.hid hx
      clear hx
      rw [hca]
      by_cases h1 : x.at_ < 0
      · have g1 : decide (x.at_ < 0) = true := by rw [decide_eq_true_eq]; exact h1
        have Hh := Lib.hid (show timelyB C.fin x = false by unfold timelyB; rw [decide_eq_false (by omega)]; rfl)
        clear h1
        go_wp2_with fail
        go_ret
        rw [timely_18 (List.mem_of_getElem? Hx.out) Hh.out]
        exact ⟨rfl, HF.out.alloc _⟩
      · have g1 : decide (x.at_ < 0) = false := by rw [decide_eq_false_iff_not]; exact h1
        by_cases h2 : x.at_ > C.fin
        · have g2 : decide (x.at_ > C.fin) = true := by rw [decide_eq_true_eq]; exact h2
          have Hh := Lib.hid (show timelyB C.fin x = false by unfold timelyB; rw [decide_eq_false (p := x.at_ ≤ C.fin) (by omega)]; simp)
          clear h1 h2
          go_wp2_with fail
          go_ret
          rw [timely_18 (List.mem_of_getElem? Hx.out) Hh.out]
          exact ⟨rfl, HF.out.alloc _⟩
        · have g2 : decide (x.at_ > C.fin) = false := by rw [decide_eq_false_iff_not]; exact h2
          have Hh := Lib.hid (show timelyB C.fin x = true by unfold timelyB; rw [decide_eq_true (by omega), decide_eq_true (by omega)]; rfl)
          clear h1 h2
          go_wp2_with fail
          go_roundw
          case rel => exact ⟨k + 1, by omega, by go_num, take_all Hk.out Hx.out Hh.out, HF1.out.alloc _⟩
          case measure => simp [intOf]; omega
    · obtain rfl : k = C.sn := by omega
      have hall : ∀ p ∈ C.ss, timelyB C.fin p = true := by have := Hk.out; rwa [List.take_of_length_le (by have := Hsn.out; omega)] at this
      have Hall := Lib.hid hall
      clear hall
      go_wp2_with fail
      go_ret
      rw [timely_0 Hall.out]
      exact ⟨rfl, HF.out⟩
end Go.Proofs.YtbkadfdpboghiaaDoor
