/- The document's Check of a configuration; instructions are compared. -/
import Derived.Test.YtbkadfdpboghiaaDoorModR1
namespace Go.Proofs.YtbkadfdpboghiaaDoor
open Go.RowKit Go.Maps

def rangeOk (C : Cf) : Prop := 1 ≤ C.ln ∧ C.ln ≤ 32 ∧ 1 ≤ C.pn ∧ C.pn ≤ 32 ∧ 1 ≤ C.fin ∧ C.fin ≤ 1073741824 ∧ 1 ≤ C.fuel ∧ C.fuel ≤ 1024 ∧ 0 ≤ C.fan ∧ C.fan ≤ 8
theorem within_two (n a b : Int) : (withinE n a b = 0 ∧ a ≤ n ∧ n ≤ b) ∨ withinE n a b = 10 := by
  unfold withinE
  split
  · exact .inr rfl
  · exact .inl ⟨rfl, by omega, by omega⟩
theorem check_no {C : Cf} (h : ¬ rangeOk C) : checkC C = 10 := by
  unfold checkC
  rcases within_two C.ln 1 32 with h1 | h1
  · rcases within_two C.pn 1 32 with h2 | h2
    · rcases within_two C.fin 1 1073741824 with h3 | h3
      · rcases within_two C.fuel 1 1024 with h4 | h4
        · rcases within_two C.fan 0 8 with h5 | h5
          · exact absurd ⟨by omega, by omega, by omega, by omega, h3.2.1, h3.2.2, h4.2.1, h4.2.2, h5.2.1, h5.2.2⟩ h
          · simp [firstE, h1.1, h2.1, h3.1, h4.1, h5]
        · simp [firstE, h1.1, h2.1, h3.1, h4]
      · simp [firstE, h1.1, h2.1, h3]
    · simp [firstE, h1.1, h2]
  · simp [firstE, h1]
theorem check_yes {C : Cf} (h : rangeOk C) : checkC C = firstE [roomE C.sn, writtenE C.ps, knownE C, timelyE C] := by
  obtain ⟨a1, a2, a3, a4, a5, a6, a7, a8, a9, a10⟩ := h
  have h1 : withinE C.ln 1 32 = 0 := if_neg (by omega)
  have h2 : withinE C.pn 1 32 = 0 := if_neg (by omega)
  have h3 : withinE C.fin 1 1073741824 = 0 := if_neg (by omega)
  have h4 : withinE C.fuel 1 1024 = 0 := if_neg (by omega)
  have h5 : withinE C.fan 0 8 = 0 := if_neg (by omega)
  unfold checkC
  rw [h1, h2, h3, h4, h5]
  rfl
theorem check_full {C : Cf} (h : rangeOk C) (h0 : 256 < C.sn) : checkC C = 11 := by rw [check_yes h, show roomE C.sn = 11 from if_pos h0]; rfl
theorem check_seq {C : Cf} (h : rangeOk C) (h0 : ¬ 256 < C.sn) : checkC C = firstE [writtenE C.ps, knownE C, timelyE C] := by rw [check_yes h, show roomE C.sn = 0 from if_neg h0]; rfl
theorem check_w {C : Cf} {e : Int} (h : rangeOk C) (h0 : ¬ 256 < C.sn) (hw : writtenE C.ps = e) (he : e ≠ 0) : checkC C = e := by rw [check_seq h h0, hw, firstE, if_neg he]
theorem check_k {C : Cf} (h : rangeOk C) (h0 : ¬ 256 < C.sn) (hw : writtenE C.ps = 0) (hk : knownE C = 14) : checkC C = 14 := by rw [check_seq h h0, hw, hk]; rfl
theorem check_t {C : Cf} (h : rangeOk C) (h0 : ¬ 256 < C.sn) (hw : writtenE C.ps = 0) (hk : knownE C = 0) (ht : timelyE C = 18) : checkC C = 18 := by rw [check_seq h h0, hw, hk, ht]; rfl
theorem check_zero {C : Cf} (h : rangeOk C) (h0 : ¬ 256 < C.sn) (hw : writtenE C.ps = 0) (hk : knownE C = 0) (ht : timelyE C = 0) : checkC C = 0 := by rw [check_seq h h0, hw, hk, ht]; rfl
theorem check_like {C D : Cf} (h : C.Like D) : checkC D = checkC C := by
  have e1 : writtenE D.ps = writtenE C.ps := by
    unfold writtenE
    have e : ∀ (l : List Pg), (l.map fun p => (checkP p.l).2) = (l.map Pg.l).map fun l => (checkP l).2 := fun l => by rw [List.map_map]; rfl
    rw [e, e, h.ps]
  unfold checkC knownE timelyE
  rw [e1, h.pn, h.ln, h.sn, h.fin, h.fuel, h.fan, h.ls, h.ss]

set_option maxHeartbeats 1000000 in
set_option maxRecDepth 100000 in
theorem rcheck_range {C : Cf} {w : World} (h : ¬ rangeOk C) : Calls Tryd.prog 11 #[C.val] w (Tells (.int .i64 (checkC C)) w) := by
  rw [check_no h]
  have Hr := Lib.hid h
  clear h
  by_cases h1 : C.ln < 1
  · have g1 : decide ((C.ln : Int) < 1) = true := by rw [decide_eq_true_eq]; omega
    clear h1
    go_enter Tryd.func11, Tryd.ntmps11
    go_wp2_with fail
    go_ret
    exact ⟨rfl, (Frm.refl _ _).alloc _⟩
  have g1 : decide ((C.ln : Int) < 1) = false := by rw [decide_eq_false_iff_not]; omega
  by_cases h2 : C.ln > 32
  · have g2 : decide ((C.ln : Int) > 32) = true := by rw [decide_eq_true_eq]; omega
    clear h2
    go_enter Tryd.func11, Tryd.ntmps11
    go_wp2_with fail
    go_ret
    exact ⟨rfl, (Frm.refl _ _).alloc _⟩
  have g2 : decide ((C.ln : Int) > 32) = false := by rw [decide_eq_false_iff_not]; omega
  by_cases h3 : C.pn < 1
  · have g3 : decide ((C.pn : Int) < 1) = true := by rw [decide_eq_true_eq]; omega
    clear h3
    go_enter Tryd.func11, Tryd.ntmps11
    go_wp2_with fail
    go_ret
    exact ⟨rfl, (Frm.refl _ _).alloc _⟩
  have g3 : decide ((C.pn : Int) < 1) = false := by rw [decide_eq_false_iff_not]; omega
  by_cases h4 : C.pn > 32
  · have g4 : decide ((C.pn : Int) > 32) = true := by rw [decide_eq_true_eq]; omega
    clear h4
    go_enter Tryd.func11, Tryd.ntmps11
    go_wp2_with fail
    go_ret
    exact ⟨rfl, (Frm.refl _ _).alloc _⟩
  have g4 : decide ((C.pn : Int) > 32) = false := by rw [decide_eq_false_iff_not]; omega
  by_cases h5 : C.fin < 1
  · have g5 : decide (C.fin < 1) = true := by rw [decide_eq_true_eq]; omega
    clear h5
    go_enter Tryd.func11, Tryd.ntmps11
    go_wp2_with fail
    go_ret
    exact ⟨rfl, (Frm.refl _ _).alloc _⟩
  have g5 : decide (C.fin < 1) = false := by rw [decide_eq_false_iff_not]; omega
  by_cases h6 : C.fin > 1073741824
  · have g6 : decide (C.fin > 1073741824) = true := by rw [decide_eq_true_eq]; omega
    clear h6
    go_enter Tryd.func11, Tryd.ntmps11
    go_wp2_with fail
    go_ret
    exact ⟨rfl, (Frm.refl _ _).alloc _⟩
  have g6 : decide (C.fin > 1073741824) = false := by rw [decide_eq_false_iff_not]; omega
  by_cases h7 : C.fuel < 1
  · have g7 : decide (C.fuel < 1) = true := by rw [decide_eq_true_eq]; omega
    clear h7
    go_enter Tryd.func11, Tryd.ntmps11
    go_wp2_with fail
    go_ret
    exact ⟨rfl, (Frm.refl _ _).alloc _⟩
  have g7 : decide (C.fuel < 1) = false := by rw [decide_eq_false_iff_not]; omega
  by_cases h8 : C.fuel > 1024
  · have g8 : decide (C.fuel > 1024) = true := by rw [decide_eq_true_eq]; omega
    clear h8
    go_enter Tryd.func11, Tryd.ntmps11
    go_wp2_with fail
    go_ret
    exact ⟨rfl, (Frm.refl _ _).alloc _⟩
  have g8 : decide (C.fuel > 1024) = false := by rw [decide_eq_false_iff_not]; omega
  by_cases h9 : C.fan < 0
  · have g9 : decide (C.fan < 0) = true := by rw [decide_eq_true_eq]; omega
    clear h9
    go_enter Tryd.func11, Tryd.ntmps11
    go_wp2_with fail
    go_ret
    exact ⟨rfl, (Frm.refl _ _).alloc _⟩
  have g9 : decide (C.fan < 0) = false := by rw [decide_eq_false_iff_not]; omega
  by_cases h10 : C.fan > 8
  · have g10 : decide (C.fan > 8) = true := by rw [decide_eq_true_eq]; omega
    clear h10
    go_enter Tryd.func11, Tryd.ntmps11
    go_wp2_with fail
    go_ret
    exact ⟨rfl, (Frm.refl _ _).alloc _⟩
  have g10 : decide (C.fan > 8) = false := by rw [decide_eq_false_iff_not]; omega
  exact absurd ⟨by omega, by omega, by omega, by omega, by omega, by omega, by omega, by omega, by omega, by omega⟩ Hr.out

set_option maxHeartbeats 8000000 in
set_option maxRecDepth 100000 in
theorem rccheck_any {C : Cf} {w : World} (hC : CfAt w C) : Calls Tryd.prog 11 #[C.val] w (Tells (.int .i64 (checkC C)) w) := by
  by_cases hr : rangeOk C
  case neg => exact rcheck_range hr
  have Hr := Lib.hid hr
  obtain ⟨r1, r2, r3, r4, r5, r6, r7, r8, r9, r10⟩ := hr
  have g1 : decide ((C.ln : Int) < 1) = false := by rw [decide_eq_false_iff_not]; omega
  have g2 : decide ((C.ln : Int) > 32) = false := by rw [decide_eq_false_iff_not]; omega
  have g3 : decide ((C.pn : Int) < 1) = false := by rw [decide_eq_false_iff_not]; omega
  have g4 : decide ((C.pn : Int) > 32) = false := by rw [decide_eq_false_iff_not]; omega
  have g5 : decide (C.fin < 1) = false := by rw [decide_eq_false_iff_not]; omega
  have g6 : decide (C.fin > 1073741824) = false := by rw [decide_eq_false_iff_not]; omega
  have g7 : decide (C.fuel < 1) = false := by rw [decide_eq_false_iff_not]; omega
  have g8 : decide (C.fuel > 1024) = false := by rw [decide_eq_false_iff_not]; omega
  have g9 : decide (C.fan < 0) = false := by rw [decide_eq_false_iff_not]; omega
  have g10 : decide (C.fan > 8) = false := by rw [decide_eq_false_iff_not]; omega
  have hF0 : Frm [] w (w.alloc (C.obj 33)) := (Frm.refl _ _).alloc _
  have hb0 : (w.alloc (C.obj 33)).heap[w.heap.size]? = some (C.obj 33) := obj_new w _
  have hpl : C.ps.length = C.pn := hC.ps.1
  have hll : C.ls.length = C.ln := hC.ls.1
  have hsl : C.ss.length = C.sn := hC.ss.1
  have q1 := hC.ss.2.2.1
  have q2 := hC.ss.2.1
  simp only [maxLen] at q1
  have HF0 := Lib.hid hF0
  have HB0 := Lib.hid hb0
  have HC := Lib.hid hC
  have Hpl := Lib.hid hpl
  have Hll := Lib.hid hll
  have Hsl := Lib.hid hsl
  clear hF0 hb0 hC hpl hll hsl r1 r3 r5 r6 r7 r8 r9 r10
  by_cases h0 : 256 < C.sn
  · have g0 : decide ((C.sn : Int) > 256) = true := by rw [decide_eq_true_eq]; omega
    rw [check_full Hr.out h0]
    clear h0
    go_enter Tryd.func11, Tryd.ntmps11
    go_wp2_with fail
    go_ret
    exact ⟨rfl, (Frm.refl _ _).alloc _⟩
  · have g0 : decide ((C.sn : Int) > 256) = false := by rw [decide_eq_false_iff_not]; omega
    have H0 := Lib.hid h0
    go_enter Tryd.func11, Tryd.ntmps11
    go_wp2_with fail
    go_loopw [3] (fun iv wr => ∃ k : Nat, k ≤ C.pn ∧ iv = .int .i64 (k : Int) ∧ writtenE C.ps = firstE ((C.ps.map fun p => (checkP p.l).2).drop k) ∧ Frm [] (w.alloc (C.obj 33)) wr) (fun iv _ => C.pn - (intOf iv).toNat)
    case atStart => exact ⟨0, by omega, rfl, by simp [writtenE], Frm.refl _ _⟩
    case round =>
      clear g0 g1 g2 g3 g4 g5 g6 g7 g8 g9 g10
      obtain ⟨k, hk, rfl, hb, hF⟩ := hrel
      have Hb := Lib.hid hb
      have HF := Lib.hid (HF0.out.trans (T := []) hF (by simp))
      have HF1 := Lib.hid hF
      obtain ⟨c0, c1, c2, c3, c4, c5⟩ := cells6 (hF.obj HB0.out (by simp))
      have z0 := World.block_lt_of_cell? _ _ c0
      dsimp only at z0
      clear hb hF
      by_cases hlt : k < C.pn
      · obtain ⟨b, off, x, hca, hbl, hx, p0⟩ := (SlAt.frm HC.out.ps HF.out).pgAt hlt
        have hxi := SlAt.frm (HC.out.is_ x (List.mem_of_getElem? hx)) HF.out
        have Hxi := Lib.hid (rcheck_any hxi)
        have Hx := Lib.hid (show (C.ps.map fun p => (checkP p.l).2)[k]? = some (checkP x.l).2 by rw [List.getElem?_map, hx]; rfl)
        rw [hca] at c0
        clear hx hxi hca
        go_wp2_with fail
        refine Hxi.out.mono ?_
        rintro e w1 ⟨rfl, hF1⟩
        have HF2 := Lib.hid (HF.out.trans (T := []) hF1 (by simp))
        have HF3 := Lib.hid (HF1.out.trans (T := []) hF1 (by simp))
        clear hF1 p0 Hxi
        by_cases hm : (checkP x.l).2 = 0
        · have hm' : ((checkP x.l).2 == 0) = true := by rw [beq_iff_eq]; exact hm
          have hm2 : ((checkP x.l).2 != 0) = false := by simp [hm]
          have Hm := Lib.hid hm
          clear hm
          go_wp2_with fail
          go_roundw
          case rel => exact ⟨k + 1, by omega, by go_num, by rw [Hb.out]; exact firstE_step Hx.out Hm.out, HF3.out⟩
          case measure => simp [intOf]; omega
        · have hm' : ((checkP x.l).2 == 0) = false := by rw [beq_eq_false_iff_ne]; exact hm
          have hm2 : ((checkP x.l).2 != 0) = true := by rw [bne_iff_ne]; exact hm
          have Hm := Lib.hid hm
          clear hm
          go_wp2_with fail
          go_ret
          rw [check_w Hr.out H0.out (Hb.out.trans (firstE_hit Hx.out Hm.out)) Hm.out]
          exact ⟨rfl, HF2.out⟩
      · obtain rfl : k = C.pn := by omega
        have hd : (C.ps.map fun p => (checkP p.l).2).drop C.pn = [] := List.drop_eq_nil_of_le (by rw [List.length_map]; have := Hpl.out; omega)
        have Hw := Lib.hid (show writtenE C.ps = 0 by rw [Hb.out, hd]; rfl)
        clear hd Hb
        go_wp2_with fail
        go_loopw [6] (fun iv wr => ∃ k : Nat, k ≤ C.ln ∧ iv = .int .i64 (k : Int) ∧ (∀ p ∈ C.ls.take k, hasB C.pn p.pr = true) ∧ Frm [] (w.alloc (C.obj 33)) wr) (fun iv _ => C.ln - (intOf iv).toNat)
        case atStart => exact ⟨0, by omega, rfl, by simp, HF1.out⟩
        case round =>
          clear c0 c1 c2 c3 c4 c5 z0 hlt hk HF HF1
          obtain ⟨k, hk, rfl, hok, hF⟩ := hrel
          have Hk := Lib.hid hok
          have HF := Lib.hid (HF0.out.trans (T := []) hF (by simp))
          have HF1 := Lib.hid hF
          obtain ⟨c0, c1, c2, c3, c4, c5⟩ := cells6 (hF.obj HB0.out (by simp))
          have z0 := World.block_lt_of_cell? _ _ c0
          dsimp only at z0
          clear hok hF
          by_cases hlt : k < C.ln
          · obtain ⟨b, off, x, hca, hbl, hx, p0, p1, p2, p3, p4⟩ := (SlAt.frm HC.out.ls HF.out).plAt hlt
            have Hx := Lib.hid hx
            rw [hca] at c1
            clear hca hx p1 p2 p3 p4
            by_cases h1 : x.pr < 0
            · have g1 : decide (x.pr < 0) = true := by rw [decide_eq_true_eq]; exact h1
              have Hh := Lib.hid (show hasB C.pn x.pr = false by unfold hasB; rw [decide_eq_false (by omega)]; rfl)
              clear h1
              go_wp2_with fail
              go_quiet (fail)
              go_wp2_with fail
              go_ret
              rw [check_k Hr.out H0.out Hw.out (known_14a (List.mem_of_getElem? Hx.out) Hh.out)]
              exact ⟨rfl, HF.out.drewN _⟩
            · have g1 : decide (x.pr < 0) = false := by rw [decide_eq_false_iff_not]; exact h1
              by_cases h2 : x.pr ≥ (C.pn : Int)
              · have g2 : decide (x.pr ≥ (C.pn : Int)) = true := by rw [decide_eq_true_eq]; exact h2
                have g3 : decide ((C.pn : Int) ≤ x.pr) = true := by rw [decide_eq_true_eq]; exact h2
                have g4 : decide (x.pr < (C.pn : Int)) = false := by rw [decide_eq_false_iff_not]; omega
                have Hh := Lib.hid (show hasB C.pn x.pr = false by unfold hasB; rw [decide_eq_false (p := x.pr < (C.pn : Int)) (by omega)]; simp)
                clear h1 h2
                go_wp2_with fail
                go_quiet (fail)
                go_wp2_with fail
                go_ret
                rw [check_k Hr.out H0.out Hw.out (known_14a (List.mem_of_getElem? Hx.out) Hh.out)]
                exact ⟨rfl, HF.out.drewN _⟩
              · have g2 : decide (x.pr ≥ (C.pn : Int)) = false := by rw [decide_eq_false_iff_not]; exact h2
                have g3 : decide ((C.pn : Int) ≤ x.pr) = false := by rw [decide_eq_false_iff_not]; exact h2
                have g4 : decide (x.pr < (C.pn : Int)) = true := by rw [decide_eq_true_eq]; omega
                have Hh := Lib.hid (hasB_iff.2 (show 0 ≤ x.pr ∧ x.pr < (C.pn : Int) by omega))
                clear h1 h2
                go_wp2_with fail
                go_quiet (fail)
                go_wp2_with fail
                go_roundw
                case rel => exact ⟨k + 1, by omega, by go_num, take_all Hk.out Hx.out Hh.out, HF1.out.drewN _⟩
                case measure => simp [intOf]; omega
          · obtain rfl : k = C.ln := by omega
            have hall : ∀ p ∈ C.ls, hasB C.pn p.pr = true := by have := Hk.out; rwa [List.take_of_length_le (by have := Hll.out; omega)] at this
            have Hall := Lib.hid hall
            clear hall Hk
            go_wp2_with fail
            go_loopw [7] (fun iv wr => ∃ k : Nat, k ≤ C.sn ∧ iv = .int .i64 (k : Int) ∧ (∀ p ∈ C.ss.take k, hasB C.ln p.dst = true) ∧ Frm [] (w.alloc (C.obj 33)) wr) (fun iv _ => C.sn - (intOf iv).toNat)
            case atStart => exact ⟨0, by omega, rfl, by simp, HF1.out⟩
            case round =>
              clear c0 c1 c2 c3 c4 c5 z0 hlt hk HF HF1
              obtain ⟨k, hk, rfl, hok, hF⟩ := hrel
              have Hk := Lib.hid hok
              have HF := Lib.hid (HF0.out.trans (T := []) hF (by simp))
              have HF1 := Lib.hid hF
              obtain ⟨c0, c1, c2, c3, c4, c5⟩ := cells6 (hF.obj HB0.out (by simp))
              have z0 := World.block_lt_of_cell? _ _ c0
              dsimp only at z0
              clear hok hF
              by_cases hlt : k < C.sn
              · obtain ⟨b, off, x, hca, hbl, hx, p0, p1, p2, p3⟩ := (SlAt.frm HC.out.ss HF.out).stAt hlt
                have Hx := Lib.hid hx
                rw [hca] at c2
                clear hca hx p1 p2 p3
                by_cases h1 : x.dst < 0
                · have g1 : decide (x.dst < 0) = true := by rw [decide_eq_true_eq]; exact h1
                  have Hh := Lib.hid (show hasB C.ln x.dst = false by unfold hasB; rw [decide_eq_false (by omega)]; rfl)
                  clear h1
                  go_wp2_with fail
                  go_quiet (fail)
                  go_wp2_with fail
                  go_ret
                  rw [check_k Hr.out H0.out Hw.out (known_14b (List.mem_of_getElem? Hx.out) Hh.out)]
                  exact ⟨rfl, HF.out.drewN _⟩
                · have g1 : decide (x.dst < 0) = false := by rw [decide_eq_false_iff_not]; exact h1
                  by_cases h2 : x.dst ≥ (C.ln : Int)
                  · have g2 : decide (x.dst ≥ (C.ln : Int)) = true := by rw [decide_eq_true_eq]; exact h2
                    have g3 : decide ((C.ln : Int) ≤ x.dst) = true := by rw [decide_eq_true_eq]; exact h2
                    have g4 : decide (x.dst < (C.ln : Int)) = false := by rw [decide_eq_false_iff_not]; omega
                    have Hh := Lib.hid (show hasB C.ln x.dst = false by unfold hasB; rw [decide_eq_false (p := x.dst < (C.ln : Int)) (by omega)]; simp)
                    clear h1 h2
                    go_wp2_with fail
                    go_quiet (fail)
                    go_wp2_with fail
                    go_ret
                    rw [check_k Hr.out H0.out Hw.out (known_14b (List.mem_of_getElem? Hx.out) Hh.out)]
                    exact ⟨rfl, HF.out.drewN _⟩
                  · have g2 : decide (x.dst ≥ (C.ln : Int)) = false := by rw [decide_eq_false_iff_not]; exact h2
                    have g3 : decide ((C.ln : Int) ≤ x.dst) = false := by rw [decide_eq_false_iff_not]; exact h2
                    have g4 : decide (x.dst < (C.ln : Int)) = true := by rw [decide_eq_true_eq]; omega
                    have Hh := Lib.hid (hasB_iff.2 (show 0 ≤ x.dst ∧ x.dst < (C.ln : Int) by omega))
                    clear h1 h2
                    go_wp2_with fail
                    go_quiet (fail)
                    go_wp2_with fail
                    go_roundw
                    case rel => exact ⟨k + 1, by omega, by go_num, take_all Hk.out Hx.out Hh.out, HF1.out.drewN _⟩
                    case measure => simp [intOf]; omega
              · obtain rfl : k = C.sn := by omega
                have hall2 : ∀ p ∈ C.ss, hasB C.ln p.dst = true := by have := Hk.out; rwa [List.take_of_length_le (by have := Hsl.out; omega)] at this
                have Hkn := Lib.hid (known_0 Hall.out hall2)
                clear hall2 Hk
                go_wp2_with fail
                go_loopw [8] (fun iv wr => ∃ k : Nat, k ≤ C.sn ∧ iv = .int .i64 (k : Int) ∧ (∀ p ∈ C.ss.take k, timelyB C.fin p = true) ∧ Frm [] (w.alloc (C.obj 33)) wr) (fun iv _ => C.sn - (intOf iv).toNat)
                case atStart => exact ⟨0, by omega, rfl, by simp, HF1.out⟩
                case round =>
                  clear c0 c1 c2 c3 c4 c5 z0 hlt hk HF HF1
                  obtain ⟨k, hk, rfl, hok, hF⟩ := hrel
                  have Hk := Lib.hid hok
                  have HF := Lib.hid (HF0.out.trans (T := []) hF (by simp))
                  have HF1 := Lib.hid hF
                  obtain ⟨c0, c1, c2, c3, c4, c5⟩ := cells6 (hF.obj HB0.out (by simp))
                  have z0 := World.block_lt_of_cell? _ _ c0
                  dsimp only at z0
                  clear hok hF
                  by_cases hlt : k < C.sn
                  · obtain ⟨b, off, x, hca, hbl, hx, p0, p1, p2, p3⟩ := (SlAt.frm HC.out.ss HF.out).stAt hlt
                    have Hx := Lib.hid hx
                    rw [hca] at c2
                    clear hca hx p0 p2 p3
                    by_cases h1 : x.at_ < 0
                    · have g1 : decide (x.at_ < 0) = true := by rw [decide_eq_true_eq]; exact h1
                      have Hh := Lib.hid (show timelyB C.fin x = false by unfold timelyB; rw [decide_eq_false (by omega)]; rfl)
                      clear h1
                      go_wp2_with fail
                      go_quiet (fail)
                      go_wp2_with fail
                      go_ret
                      rw [check_t Hr.out H0.out Hw.out Hkn.out (timely_18 (List.mem_of_getElem? Hx.out) Hh.out)]
                      exact ⟨rfl, HF.out.drewN _⟩
                    · have g1 : decide (x.at_ < 0) = false := by rw [decide_eq_false_iff_not]; exact h1
                      by_cases h2 : x.at_ > C.fin
                      · have g2 : decide (x.at_ > C.fin) = true := by rw [decide_eq_true_eq]; exact h2
                        have g3 : decide (C.fin < x.at_) = true := by rw [decide_eq_true_eq]; exact h2
                        have Hh := Lib.hid (show timelyB C.fin x = false by unfold timelyB; rw [decide_eq_false (p := x.at_ ≤ C.fin) (by omega)]; simp)
                        clear h1 h2
                        go_wp2_with fail
                        go_quiet (fail)
                        go_wp2_with fail
                        go_ret
                        rw [check_t Hr.out H0.out Hw.out Hkn.out (timely_18 (List.mem_of_getElem? Hx.out) Hh.out)]
                        exact ⟨rfl, HF.out.drewN _⟩
                      · have g2 : decide (x.at_ > C.fin) = false := by rw [decide_eq_false_iff_not]; exact h2
                        have g3 : decide (C.fin < x.at_) = false := by rw [decide_eq_false_iff_not]; exact h2
                        have Hh := Lib.hid (show timelyB C.fin x = true by unfold timelyB; rw [decide_eq_true (by omega), decide_eq_true (by omega)]; rfl)
                        clear h1 h2
                        go_wp2_with fail
                        go_quiet (fail)
                        go_wp2_with fail
                        go_roundw
                        case rel => exact ⟨k + 1, by omega, by go_num, take_all Hk.out Hx.out Hh.out, HF1.out.drewN _⟩
                        case measure => simp [intOf]; omega
                  · obtain rfl : k = C.sn := by omega
                    have hall3 : ∀ p ∈ C.ss, timelyB C.fin p = true := by have := Hk.out; rwa [List.take_of_length_le (by have := Hsl.out; omega)] at this
                    have Hti := Lib.hid (timely_0 hall3)
                    clear hall3 Hk
                    go_wp2_with fail
                    go_ret
                    rw [check_zero Hr.out H0.out Hw.out Hkn.out Hti.out]
                    exact ⟨rfl, HF.out⟩

theorem rins_fields : ((Tryd.prog).fieldsOf 88).toList.map (fun f => (f.type, f.offset, decide (f.name ≠ "_"))) = [(3, 0, true), (3, 1, true), (3, 2, true), (3, 3, true), (3, 4, true)] := by kernel_rfl
theorem rins_eqIn (d : Nat) (a : Ins) (w : World) : (Op.equalIn (d + 2) 88 a.val a.val).run Tryd.prog w = .ok true w := by
  have hf := rins_fields
  rw [run_equalIn_agg (P := Tryd.prog) w (d + 1) 88 _ _ (by kernel_rfl) (by kernel_rfl)]
  generalize ((Tryd.prog).fieldsOf 88).toList = fs at hf ⊢
  obtain ⟨x0, x1, x2, x3, x4⟩ := a
  have e : ∀ x : Int, (Op.equalIn (d + 1) 3 (.int .i64 x) (.int .i64 x)).run Tryd.prog w = .ok true w := fun x => by rw [int_eqIn]; simp
  match fs, hf with
  | [f0, f1, f2, f3, f4], hf =>
    simp only [List.map_cons, List.map_nil, List.cons.injEq, Prod.mk.injEq, and_true, decide_eq_true_eq] at hf
    obtain ⟨⟨t0, o0, n0⟩, ⟨t1, o1, n1⟩, ⟨t2, o2, n2⟩, ⟨t3, o3, n3⟩, t4, o4, n4⟩ := hf
    exact eqFields_cons n0 (a := .int .i64 x0) (b := .int .i64 x0) (by rw [t0, o0]; kernel_rfl) (by rw [t0, o0]; kernel_rfl) (by rw [t0]; exact e _)
      (eqFields_cons n1 (a := .int .i64 x1) (b := .int .i64 x1) (by rw [t1, o1]; kernel_rfl) (by rw [t1, o1]; kernel_rfl) (by rw [t1]; exact e _)
      (eqFields_cons n2 (a := .int .i64 x2) (b := .int .i64 x2) (by rw [t2, o2]; kernel_rfl) (by rw [t2, o2]; kernel_rfl) (by rw [t2]; exact e _)
      (eqFields_cons n3 (a := .int .i64 x3) (b := .int .i64 x3) (by rw [t3, o3]; kernel_rfl) (by rw [t3, o3]; kernel_rfl) (by rw [t3]; exact e _)
      (eqFields_cons n4 (a := .int .i64 x4) (b := .int .i64 x4) (by rw [t4, o4]; kernel_rfl) (by rw [t4, o4]; kernel_rfl) (by rw [t4]; exact e _) eqFields_nil))))
  | [], hf => simp at hf
  | [_], hf => simp at hf
  | [_, _], hf => simp at hf
  | [_, _, _], hf => simp at hf
  | [_, _, _, _], hf => simp at hf
  | _ :: _ :: _ :: _ :: _ :: _ :: _, hf => simp at hf
theorem rins_neq (a : Ins) (w : World) : (binOp BinOp.neq 88 a.val a.val).run Tryd.prog w = .ok (.bool false) w := by
  rw [run_neq_struct, rins_eqIn 9998]; rfl
theorem rins_guard : (Tryd.prog).eqGuardType (Tryd.prog).depth 88 = false := by kernel_rfl

attribute [local go_sem high] rins_guard in
set_option maxHeartbeats 4000000 in
set_option maxRecDepth 100000 in
/-- The same instructions are the same. -/
theorem same_any {w : World} {a b : Option Addr} {n c cb : Nat} {l : List Ins} (ha : Ins.at_ w a n c l) (hn : n ≤ 80) (hb : Ins.at_ w b n cb l) : Calls Tryd.prog 22 #[.slice a n c, .slice b n cb] w (Tells (.bool true) w) := by
  have hl : l.length = n := ha.1
  have hc1 := hb.2.1
  have hc2 := hb.2.2.1
  simp only [maxLen] at hc2
  have Hp := Lib.hid (plain_any ha hn)
  have HB := Lib.hid hb
  have Hl := Lib.hid hl
  have gn : ((n : Int) != (n : Int)) = false := by simp
  clear ha hb hl
  go_enter Tryd.func22, Tryd.ntmps22
  go_wp2_with fail
  refine Hp.out.mono ?_
  rintro e w1 ⟨a1, c1, rfl, hrow⟩
  have hsl := SlAt.of_row Ins.enc_len hrow.row Hl.out
  have hcap := hsl.2.1
  have HS := Lib.hid hsl
  have HF1 := Lib.hid (Frm.of_below (S := []) hrow.below (Nat.le_refl _))
  clear hrow hsl Hp
  go_wp2_with fail
  go_loopw [6] (fun iv wr => ∃ k : Nat, k ≤ n ∧ iv = .int .i64 (k : Int) ∧ Frm [] w1 wr) (fun iv _ => n - (intOf iv).toNat)
  case atStart => exact ⟨0, Nat.zero_le _, rfl, Frm.refl _ _⟩
  case round =>
    obtain ⟨k, hk, rfl, hF⟩ := hrel
    have HF := Lib.hid hF
    clear hF
    by_cases hlt : k < n
    · obtain ⟨b1, o1, x, rfl, hb1, hx, p0, p1, p2, p3, p4⟩ := insAt (SlAt.frm HS.out HF.out) hlt
      obtain ⟨b2, o2, y, rfl, hb2, hy, q0, q1, q2, q3, q4⟩ := insAt (SlAt.frm HB.out (HF1.out.trans (T := []) HF.out (by simp))) hlt
      obtain rfl : x = y := by rw [hx] at hy; exact Option.some.inj hy
      have gq : ∀ W, (binOp BinOp.neq 88 (.agg #[.int .i64 x.op, .int .i64 x.a, .int .i64 x.b, .int .i64 x.c, .int .i64 x.d]) (.agg #[.int .i64 x.op, .int .i64 x.a, .int .i64 x.b, .int .i64 x.c, .int .i64 x.d])).run Tryd.prog W = .ok (.bool false) W := rins_neq x
      have gb1 : (0 : Int) ≤ (k : Int) := by omega
      have gb2 : (k : Int) < (n : Int) := by omega
      clear hx hy
      go_wp2_with fail
      go_region_held3 (fun w' => w'.cell? ⟨b1, o1 + k * 5, none⟩ = some (.int .i64 x.op) ∧ w'.cell? ⟨b1, o1 + k * 5 + 1, none⟩ = some (.int .i64 x.a) ∧ w'.cell? ⟨b1, o1 + k * 5 + 2, none⟩ = some (.int .i64 x.b) ∧ w'.cell? ⟨b1, o1 + k * 5 + 3, none⟩ = some (.int .i64 x.c) ∧ w'.cell? ⟨b1, o1 + k * 5 + 4, none⟩ = some (.int .i64 x.d) ∧
          w'.cell? ⟨b2, o2 + k * 5, none⟩ = some (.int .i64 x.op) ∧ w'.cell? ⟨b2, o2 + k * 5 + 1, none⟩ = some (.int .i64 x.a) ∧ w'.cell? ⟨b2, o2 + k * 5 + 2, none⟩ = some (.int .i64 x.b) ∧ w'.cell? ⟨b2, o2 + k * 5 + 3, none⟩ = some (.int .i64 x.c) ∧ w'.cell? ⟨b2, o2 + k * 5 + 4, none⟩ = some (.int .i64 x.d))
        (exact ⟨p0, p1, p2, p3, p4, q0, q1, q2, q3, q4⟩)
        (fail)
      go_wp2_with fail
      go_roundw
      case rel => exact ⟨k + 1, by omega, by go_num, HF.out.drew⟩
      case measure => simp [intOf]; omega
    · obtain rfl : k = n := by omega
      go_wp2_with fail
      go_ret
      exact ⟨rfl, HF1.out.trans (T := []) HF.out (by simp)⟩
end Go.Proofs.YtbkadfdpboghiaaDoor
