/- Package code: the document's answer: which instructions may be. -/
import Derived.Test.YtbkadfdpboghiaaDoorCodeD
namespace Go.Proofs.YtbkadfdpboghiaaDoor
open Go.RowKit Go.Maps

theorem tx_get (l : Bs) (i : Nat) : (tx l)[i]? = l[i]? := by
  rw [getElem?_def]
  by_cases h : i < l.length
  · have h' : i < (tx l).size := by rw [tx_size]; exact h
    rw [dif_pos h', List.getElem?_eq_getElem h]
    rfl
  · rw [dif_neg (by rw [tx_size]; exact h), List.getElem?_eq_none (by omega)]
theorem run_idx {l : Bs} {i : Nat} {c : UInt8} (h : l[i]? = some c) : ∀ w, (Instr.index 9 (.string (tx l)) (.int .i64 (i : Int))).run Tryd.prog w = .ok (.int .u8 (c.toNat : Int)) w := fun w => by
  have e := tx_get l i
  rw [h] at e
  simp [Instr.index, asIntOf, run_underlying Tryd.underlying9, e]

theorem sortK_pos {k : Nat} (hk : k < 16) {i : Nat} (hi : i < manyK k) : 1 ≤ sortK k i := by
  have : ∀ k : Fin 16, 0 < manyK k.1 → 1 ≤ lastK k.1 := by decide
  have := this ⟨k, hk⟩ (by show 0 < manyK k; omega)
  unfold sortK
  rw [if_neg (by omega)]
  split
  · exact this
  · omega
theorem word_nil (op : Int) : ((tx (wordOf op)).toList == []) = !decide (isOp op) := by
  rw [tx_toList]
  by_cases h : isOp op
  · rcases int_cases h with rfl | rfl | rfl | rfl | rfl | rfl | rfl | rfl | rfl | rfl | rfl | rfl | rfl | rfl | rfl <;> decide
  · have e : wordOf op = [] := by unfold wordOf; rw [opK_none h]; rfl
    rw [e, decide_eq_false h]; rfl

set_option maxHeartbeats 4000000 in
theorem rmay_any (x : Ins) (many : Int) (w : World) : Calls Tryd.prog 42 #[x.val, .int .i64 many] w (Tells (.int .i64 (mayE x many)) w) := by
  have H0 := Lib.hid ((Holds.start w).alloc noneR_stable (.cells #[.int .i64 x.op, .int .i64 x.a, .int .i64 x.b, .int .i64 x.c, .int .i64 x.d] 88))
  have hwn := word_nil x.op
  by_cases h : isOp x.op
  · rw [decide_eq_true h] at hwn
    have hwn' : ((tx (wordOf x.op)).toList == []) = false := hwn
    have Hop := Lib.hid h
    clear h hwn
    go_enter Tryd.func42, Tryd.ntmps42
    go_wp2_with fail
    refine (rword_any x.op _).mono ?_
    rintro e w1 ⟨rfl, hF⟩
    have H1 := Lib.hid (H0.out.made noneR_stable hF)
    clear hF
    obtain ⟨p0, p1, p2, p3, p4⟩ := cells5 (H1.out.box (k := w.heap.size) (o := .cells #[.int .i64 x.op, .int .i64 x.a, .int .i64 x.b, .int .i64 x.c, .int .i64 x.d] 88) (by simp))
    go_wp2_with fail
    refine (rkinds_any x.op _).mono ?_
    rintro e w2 ⟨rfl, hF⟩
    have H2 := Lib.hid (H1.out.made noneR_stable hF)
    clear hF p0 p1 p2 p3 p4 hwn'
    have hks : (tx (kindsK (opK x.op))).size = manyK (opK x.op) := by rw [tx_size, kindsK_length]
    have hm4 := manyK_le (opK_lt x.op)
    go_wp2_with fail
    go_loopw [6] (fun iv wr => ∃ k : Nat, k ≤ 4 ∧ iv = .int .i64 (k : Int) ∧ (∀ j, j < k → okN x many j = true) ∧ Holds w.heap.size w noneR wr [(w.heap.size, .cells #[.int .i64 x.op, .int .i64 x.a, .int .i64 x.b, .int .i64 x.c, .int .i64 x.d] 88)]) (fun iv _ => 4 - (intOf iv).toNat)
    case atStart => exact ⟨0, by omega, rfl, by simp, H2.out⟩
    case round =>
      obtain ⟨k, hk, rfl, hok, hh⟩ := hrel
      have H3 := Lib.hid hh
      have Hk := Lib.hid hok
      clear hh hok
      by_cases hlt : k < 4
      · obtain ⟨p0, p1, p2, p3, p4⟩ := cells5 (H3.out.box (k := w.heap.size) (o := .cells #[.int .i64 x.op, .int .i64 x.a, .int .i64 x.b, .int .i64 x.c, .int .i64 x.d] 88) (by simp))
        go_wp2_with fail
        refine (rnum_any x k hlt _).mono ?_
        rintro e w3 ⟨rfl, hF⟩
        have H4 := Lib.hid (H3.out.made noneR_stable hF)
        clear hF p0 p1 p2 p3 p4
        have hstep : okN x many k = true → ∀ j, j < k + 1 → okN x many j = true := fun hf j hj => by rcases Nat.lt_succ_iff_lt_or_eq.1 hj with h1 | rfl; exact Hk.out j h1; exact hf
        have Hstep := Lib.hid hstep
        have hbad : okN x many k = false → mayE x many = 10 := fun hf => mayE_bad Hop.out hlt hf
        have Hbad := Lib.hid hbad
        clear hstep hbad
        by_cases hm : manyK (opK x.op) ≤ k
        · have g1 : decide ((k : Int) ≥ (manyK (opK x.op) : Int)) = true := by rw [decide_eq_true_eq]; omega
          have hs0 : sortK (opK x.op) k = 0 := if_pos hm
          have he : okN x many k = decide (x.num k = 0) := by unfold okN; rw [hs0]; rfl
          by_cases hz : x.num k = 0
          · have g2 : (x.num k != 0) = false := by simp [hz]
            have Hf := Lib.hid (he.trans (decide_eq_true hz))
            clear hz he hs0
            go_wp2_with fail
            go_roundw
            case rel => exact ⟨k + 1, by omega, by go_num, Hstep.out Hf.out, H4.out⟩
            case measure => simp [intOf]; omega
          · have g2 : (x.num k != 0) = true := by simp [hz]
            have Hf := Lib.hid (he.trans (decide_eq_false hz))
            clear hz he hs0
            go_wp2_with fail
            go_ret
            rw [Hbad.out Hf.out]
            exact ⟨rfl, Frm.of_below H4.out.below (Nat.le_refl _)⟩
        · have g1 : decide ((k : Int) ≥ (manyK (opK x.op) : Int)) = false := by rw [decide_eq_false_iff_not]; omega
          have hidx0 := run_idx (kindsK_at (k := opK x.op) (i := k) (by omega))
          have hsp := sortK_pos (opK_lt x.op) (i := k) (by omega)
          have hsl := sortK_le (opK_lt x.op) k
          have hin : (k : Int) < ((tx (kindsK (opK x.op))).size : Int) := by rw [hks]; omega
          obtain hs | hs | hs | hs : sortK (opK x.op) k = 1 ∨ sortK (opK x.op) k = 2 ∨ sortK (opK x.op) k = 3 ∨ sortK (opK x.op) k = 4 := by omega
          · have hidx : ∀ w, (Instr.index 9 (.string (tx (kindsK (opK x.op)))) (.int .i64 (k : Int))).run Tryd.prog w = .ok (.int .u8 99) w := fun w => by have := hidx0 w; rw [hs] at this; exact this
            have he : okN x many k = (decide (0 ≤ x.num k) && decide (x.num k < 8)) := by unfold okN; rw [hs]; rfl
            clear hidx0 hs hsp hsl
            by_cases h1 : x.num k < 0
            · have q1 : decide (x.num k < 0) = true := by rw [decide_eq_true_eq]; exact h1
              have Hf := Lib.hid (show okN x many k = false by rw [he, decide_eq_false (by omega)]; rfl)
              clear he h1
              go_wp2_with fail
              go_ret
              rw [Hbad.out Hf.out]
              exact ⟨rfl, Frm.of_below H4.out.below (Nat.le_refl _)⟩
            · have q1 : decide (x.num k < 0) = false := by rw [decide_eq_false_iff_not]; exact h1
              by_cases h2 : x.num k > 7
              · have q2 : decide (x.num k > 7) = true := by rw [decide_eq_true_eq]; exact h2
                have Hf := Lib.hid (show okN x many k = false by rw [he, decide_eq_false (p := x.num k < 8) (by omega)]; simp)
                clear he h1 h2
                go_wp2_with fail
                go_ret
                rw [Hbad.out Hf.out]
                exact ⟨rfl, Frm.of_below H4.out.below (Nat.le_refl _)⟩
              · have q2 : decide (x.num k > 7) = false := by rw [decide_eq_false_iff_not]; exact h2
                have Hf := Lib.hid (show okN x many k = true by rw [he, decide_eq_true (p := 0 ≤ x.num k) (by omega), decide_eq_true (p := x.num k < 8) (by omega)]; rfl)
                clear he h1 h2
                go_wp2_with fail
                go_roundw
                case rel => exact ⟨k + 1, by omega, by go_num, Hstep.out Hf.out, H4.out⟩
                case measure => simp [intOf]; omega
          · have hidx : ∀ w, (Instr.index 9 (.string (tx (kindsK (opK x.op)))) (.int .i64 (k : Int))).run Tryd.prog w = .ok (.int .u8 112) w := fun w => by have := hidx0 w; rw [hs] at this; exact this
            have he : okN x many k = (decide (0 ≤ x.num k) && decide (x.num k ≤ many)) := by unfold okN; rw [hs]; rfl
            clear hidx0 hs hsp hsl
            by_cases h1 : x.num k < 0
            · have q1 : decide (x.num k < 0) = true := by rw [decide_eq_true_eq]; exact h1
              have Hf := Lib.hid (show okN x many k = false by rw [he, decide_eq_false (by omega)]; rfl)
              clear he h1
              go_wp2_with fail
              go_ret
              rw [Hbad.out Hf.out]
              exact ⟨rfl, Frm.of_below H4.out.below (Nat.le_refl _)⟩
            · have q1 : decide (x.num k < 0) = false := by rw [decide_eq_false_iff_not]; exact h1
              by_cases h2 : x.num k > many
              · have q2 : decide (x.num k > many) = true := by rw [decide_eq_true_eq]; exact h2
                have Hf := Lib.hid (show okN x many k = false by rw [he, decide_eq_false (p := x.num k ≤ many) (by omega)]; simp)
                clear he h1 h2
                go_wp2_with fail
                go_ret
                rw [Hbad.out Hf.out]
                exact ⟨rfl, Frm.of_below H4.out.below (Nat.le_refl _)⟩
              · have q2 : decide (x.num k > many) = false := by rw [decide_eq_false_iff_not]; exact h2
                have Hf := Lib.hid (show okN x many k = true by rw [he, decide_eq_true (p := 0 ≤ x.num k) (by omega), decide_eq_true (p := x.num k ≤ many) (by omega)]; rfl)
                clear he h1 h2
                go_wp2_with fail
                go_roundw
                case rel => exact ⟨k + 1, by omega, by go_num, Hstep.out Hf.out, H4.out⟩
                case measure => simp [intOf]; omega
          · have hidx : ∀ w, (Instr.index 9 (.string (tx (kindsK (opK x.op)))) (.int .i64 (k : Int))).run Tryd.prog w = .ok (.int .u8 107) w := fun w => by have := hidx0 w; rw [hs] at this; exact this
            have he : okN x many k = (decide (0 ≤ x.num k) && decide (x.num k < 256)) := by unfold okN; rw [hs]; rfl
            clear hidx0 hs hsp hsl
            by_cases h1 : x.num k < 0
            · have q1 : decide (x.num k < 0) = true := by rw [decide_eq_true_eq]; exact h1
              have Hf := Lib.hid (show okN x many k = false by rw [he, decide_eq_false (by omega)]; rfl)
              clear he h1
              go_wp2_with fail
              go_ret
              rw [Hbad.out Hf.out]
              exact ⟨rfl, Frm.of_below H4.out.below (Nat.le_refl _)⟩
            · have q1 : decide (x.num k < 0) = false := by rw [decide_eq_false_iff_not]; exact h1
              by_cases h2 : x.num k > 255
              · have q2 : decide (x.num k > 255) = true := by rw [decide_eq_true_eq]; exact h2
                have Hf := Lib.hid (show okN x many k = false by rw [he, decide_eq_false (p := x.num k < 256) (by omega)]; simp)
                clear he h1 h2
                go_wp2_with fail
                go_ret
                rw [Hbad.out Hf.out]
                exact ⟨rfl, Frm.of_below H4.out.below (Nat.le_refl _)⟩
              · have q2 : decide (x.num k > 255) = false := by rw [decide_eq_false_iff_not]; exact h2
                have Hf := Lib.hid (show okN x many k = true by rw [he, decide_eq_true (p := 0 ≤ x.num k) (by omega), decide_eq_true (p := x.num k < 256) (by omega)]; rfl)
                clear he h1 h2
                go_wp2_with fail
                go_roundw
                case rel => exact ⟨k + 1, by omega, by go_num, Hstep.out Hf.out, H4.out⟩
                case measure => simp [intOf]; omega
          · have hidx : ∀ w, (Instr.index 9 (.string (tx (kindsK (opK x.op)))) (.int .i64 (k : Int))).run Tryd.prog w = .ok (.int .u8 110) w := fun w => by have := hidx0 w; rw [hs] at this; exact this
            have Hf := Lib.hid (show okN x many k = true by unfold okN; rw [hs]; rfl)
            clear hidx0 hs hsp hsl
            go_wp2_with fail
            go_roundw
            case rel => exact ⟨k + 1, by omega, by go_num, Hstep.out Hf.out, H4.out⟩
            case measure => simp [intOf]; omega
      · obtain rfl : k = 4 := by omega
        go_wp2_with fail
        go_ret
        rw [mayE_ok Hop.out Hk.out]
        exact ⟨rfl, Frm.of_below H3.out.below (Nat.le_refl _)⟩
  · rw [decide_eq_false h] at hwn
    have hwn' : ((tx (wordOf x.op)).toList == []) = true := hwn
    have Hop := Lib.hid h
    clear h hwn
    rw [mayE_none Hop.out]
    go_enter Tryd.func42, Tryd.ntmps42
    go_wp2_with fail
    refine (rword_any x.op _).mono ?_
    rintro e w1 ⟨rfl, hF⟩
    have H1 := Lib.hid (H0.out.made noneR_stable hF)
    clear hF
    go_wp2_with fail
    go_ret
    exact ⟨rfl, Frm.of_below H1.out.below (Nat.le_refl _)⟩
end Go.Proofs.YtbkadfdpboghiaaDoor
