/- CodeParts, walked. -/
import Derived.Test.YtodjiicneijkkaaDoorCodeShift
import Derived.Deep.RegionHeld3
import Derived.Deep.RegionWith
namespace Go.Proofs.YtodjiicneijkkaaDoor
open Go.RowKit Go.Maps

/-- Where a slice's rest begins. -/
def cutI (a : Option Addr) (c m : Nat) : Option Addr := if c = m then a else a.map (·.add (m * 5))
theorem run_to (a : Option Addr) (n c m : Nat) (hm : m ≤ c) : ∀ w, (Instr.slice 24 (.slice a n c) none (some (.int .i64 (m : Int))) none).run Tryd.prog w = .ok (.slice a m c) w := fun w => by
  have ha : (if c = 0 then a else a.map (·.add 0)) = a := by
    split
    · rfl
    · cases a with
      | none => rfl
      | some x => simp [Addr.add]
  simp [Instr.slice, Instr.sliceBounds, Instr.sliceBound, asIntOf, run_underlying Tryd.underlying24, Tryd.sizeOf23, hm]
  intro h0
  rw [if_neg h0] at ha
  exact ha
theorem run_from (a : Option Addr) (n c m : Nat) (hm : m ≤ n) : ∀ w, (Instr.slice 24 (.slice a n c) (some (.int .i64 (m : Int))) none none).run Tryd.prog w = .ok (.slice (cutI a c m) (n - m) (c - m)) w := fun w => by
  simp [Instr.slice, Instr.sliceBounds, Instr.sliceBound, asIntOf, run_underlying Tryd.underlying24, Tryd.sizeOf23, hm, cutI]
theorem SlAt.cutI {w : World} {a : Option Addr} {n c : Nat} {l : List Ins} (h : Ins.at_ w a n c l) {m : Nat} (hm : m ≤ n) : Ins.at_ w (cutI a c m) (n - m) (c - m) (l.drop m) := by
  by_cases h0 : n - m = 0
  · refine ⟨by rw [List.length_drop, h.1], by have := h.2.1; omega, by have := h.2.2.1; omega, .inl h0⟩
  · obtain ⟨b, off, x, rfl, _⟩ := h.at_ (i := 0) (by omega)
    have hc : c ≠ m := by have := h.2.1; omega
    unfold Proofs.YtodjiicneijkkaaDoor.cutI
    rw [if_neg hc, Option.map_some, addr_add]
    exact SlAt.drop h hm
theorem still_cons {l : List Ins} {k : Nat} {x : Ins} (h : ∀ j y, j < k → l[j]? = some y → y.op ≠ 8 ∧ y.op ≠ 9) (hx : l[k]? = some x) (h8 : x.op ≠ 8) (h9 : x.op ≠ 9) : ∀ j y, j < k + 1 → l[j]? = some y → y.op ≠ 8 ∧ y.op ≠ 9 := fun j y hj hy => by
  rcases Nat.lt_succ_iff_lt_or_eq.1 hj with h' | rfl
  · exact h j y h' hy
  · rw [hx] at hy; cases hy; exact ⟨h8, h9⟩

set_option maxHeartbeats 400000 in
theorem parts_out {a : Option Addr} {n c : Nat} {w : World} (hf : Facts w) (at_ : Int) (h : n > 64 ∨ at_ < 0 ∨ at_ > n) : Calls Tryd.prog 6 #[.slice a n c, .int .i64 at_] w (LawTrue w) := by
  have HO := Lib.hid hf
  clear hf
  by_cases h1 : n > 64
  · have g1 : decide ((n : Int) > 64) = true := by rw [decide_eq_true_eq]; omega
    go_enter Tryd.func6, Tryd.ntmps6
    go_wp2_with fail
    refine (awake_any HO.out).mono ?_
    rintro e w1 ⟨rfl, hF⟩
    have HF := Lib.hid (hF.below (Nat.le_refl _) (by simp))
    clear hF
    go_wp2_with fail
    go_ret
    exact ⟨rfl, HF.out⟩
  · have g1 : decide ((n : Int) > 64) = false := by rw [decide_eq_false_iff_not]; omega
    by_cases h2 : at_ < 0
    · have g2 : decide (at_ < 0) = true := by rw [decide_eq_true_eq]; omega
      go_enter Tryd.func6, Tryd.ntmps6
      go_wp2_with fail
      refine (awake_any HO.out).mono ?_
      rintro e w1 ⟨rfl, hF⟩
      have HF := Lib.hid (hF.below (Nat.le_refl _) (by simp))
      clear hF
      go_wp2_with fail
      go_ret
      exact ⟨rfl, HF.out⟩
    · have g2 : decide (at_ < 0) = false := by rw [decide_eq_false_iff_not]; omega
      have g3 : decide (at_ > (n : Int)) = true := by rw [decide_eq_true_eq]; omega
      go_enter Tryd.func6, Tryd.ntmps6
      go_wp2_with fail
      refine (awake_any HO.out).mono ?_
      rintro e w1 ⟨rfl, hF⟩
      have HF := Lib.hid (hF.below (Nat.le_refl _) (by simp))
      clear hF
      go_wp2_with fail
      go_ret
      exact ⟨rfl, HF.out⟩

set_option maxHeartbeats 8000000 in
set_option maxRecDepth 100000 in
theorem parts_in {a : Option Addr} {n c m : Nat} {l : List Ins} {w : World} (hf : Facts w) (hl : Ins.at_ w a n c l) (hwf : ∀ x ∈ l, x.Wf) (hn64 : n ≤ 64) (hmn : m ≤ n) : Calls Tryd.prog 6 #[.slice a n c, .int .i64 (m : Int)] w (LawTrue w) := by
  have hn : l.length = n := hl.1
  have HO := Lib.hid hf
  have HL := Lib.hid hl
  have HW := Lib.hid hwf
  have hcap := hl.2.2.1
  have hcap' := hl.2.1
  simp only [maxLen] at hcap
  have Hn := Lib.hid hn
  have hl1 : Ins.at_ w a m c (l.take m) := SlAt.take hl hmn
  have hl2 := SlAt.cutI hl hmn
  have HL1 := Lib.hid hl1
  have HL2 := Lib.hid hl2
  have hr1 := run_to a n c m (by omega)
  have hr2 := run_from a n c m hmn
  generalize cutI a c m = a' at *
  clear hf hl hwf hn hl1 hl2
  have g1 : decide ((n : Int) > 64) = false := by rw [decide_eq_false_iff_not]; omega
  have g2 : decide ((m : Int) < 0) = false := by rw [decide_eq_false_iff_not]; omega
  have g3 : decide ((m : Int) > (n : Int)) = false := by rw [decide_eq_false_iff_not]; omega
  go_enter Tryd.func6, Tryd.ntmps6
  go_wp2_with fail
  go_loopw [5] (fun iv wr => ∃ k : Nat, k ≤ n ∧ iv = .int .i64 (k : Int) ∧ (∀ j y, j < k → l[j]? = some y → y.op ≠ 8 ∧ y.op ≠ 9) ∧ wr = w) (fun iv _ => n - (intOf iv).toNat)
  case atStart => exact ⟨0, by omega, rfl, fun j y hj => by omega, rfl⟩
  case round =>
    obtain ⟨k, hk, rfl, hst, rfl⟩ := hrel
    have Hst := Lib.hid hst
    clear hst
    by_cases hlt : k < n
    · obtain ⟨b, off, x, rfl, hbl, hx, p0, p1, p2, p3, p4⟩ := insAt HL.out hlt
      have Hx := Lib.hid hx
      clear hx
      by_cases h8 : x.op = 8
      · have q8 : (x.op == 8) = true := by rw [beq_iff_eq]; exact h8
        clear h8
        go_wp2_with fail
        refine (awake_any HO.out).mono ?_
        rintro e w1 ⟨rfl, hF⟩
        have HF := Lib.hid (hF.below (Nat.le_refl _) (by simp))
        clear hF
        go_wp2_with fail
        go_ret
        exact ⟨rfl, HF.out⟩
      · have q8 : (x.op == 8) = false := by rw [beq_eq_false_iff_ne]; exact h8
        by_cases h9 : x.op = 9
        · have q9 : (x.op == 9) = true := by rw [beq_iff_eq]; exact h9
          clear h8 h9
          go_wp2_with fail
          refine (awake_any HO.out).mono ?_
          rintro e w1 ⟨rfl, hF⟩
          have HF := Lib.hid (hF.below (Nat.le_refl _) (by simp))
          clear hF
          go_wp2_with fail
          go_ret
          exact ⟨rfl, HF.out⟩
        · have q9 : (x.op == 9) = false := by rw [beq_eq_false_iff_ne]; exact h9
          have H89 := Lib.hid (And.intro h8 h9)
          clear h8 h9
          go_wp2_with fail
          go_roundw
          case rel => exact ⟨k + 1, by omega, by go_num, still_cons Hst.out Hx.out H89.out.1 H89.out.2, trivial⟩
          case measure => simp [intOf]; omega
    · obtain rfl : n = k := by omega
      have hS : Still l := fun x hx => by
        obtain ⟨j, hj⟩ := List.mem_iff_getElem?.1 hx
        exact Hst.out j x (by have := (List.getElem?_eq_some_iff.1 hj).1; have := Hn.out; omega) hj
      have hiff := parts_ok hS (by rw [Hn.out]; exact hn64) m
      have hsum := parts_sends l m
      have hs1 : sendsP (l.take m) ≤ 64 := Nat.le_trans (List.length_filter_le _ _) (by rw [List.length_take]; have := Hn.out; omega)
      have hs2 : sendsP (l.drop m) ≤ 64 := Nat.le_trans (List.length_filter_le _ _) (by rw [List.length_drop]; have := Hn.out; omega)
      have HIff := Lib.hid hiff
      have HSum := Lib.hid hsum
      clear hiff hsum
      go_wp2_with fail
      refine (check_any HO.out.ops HL.out).mono ?_
      rintro e w1 ⟨rfl, hF⟩
      have H1 := Lib.hid hF
      clear hF
      go_wp2_with fail
      refine (check_any (HO.out.frm H1.out).ops (HL1.out.frm H1.out)).mono ?_
      rintro e w2 ⟨rfl, hF⟩
      have H2 := Lib.hid (H1.out.trans (T := []) hF (by simp))
      clear hF
      go_wp2_with fail
      refine (check_any (HO.out.frm H2.out).ops (HL2.out.frm H2.out)).mono ?_
      rintro e w3 ⟨rfl, hF⟩
      have H3 := Lib.hid (H2.out.trans (T := []) hF (by simp))
      clear hF
      have gw : IntKind.i64.wrap ((sendsP (l.take m) : Int) + (sendsP (l.drop m) : Int)) = (sendsP (l.take m) : Int) + (sendsP (l.drop m) : Int) := IntWalk.i64_in _ (by omega)
      have gs : ((sendsP l : Int) != (sendsP (l.take m) : Int) + (sendsP (l.drop m) : Int)) = false := by rw [HSum.out]; simp
      have Hs3 := Lib.hid (SlAt.frm HL.out (H3.out.drew))
      by_cases hz : (checkP l).2 = 0
      · obtain ⟨hf1, hg1⟩ := HIff.out.1 hz
        have H0 := Lib.hid (And.intro hz (And.intro hf1 hg1))
        rw [hz, hf1, hg1]
        clear hz hf1 hg1
        go_wp2_with fail
        have HS3 := Lib.hid H3.out.drew
        go_region_held3 (fun w' => Frm [] wr w') (first | exact HS3.out | exact Frm.trans (T := []) (by assumption) hF (by simp))
          (first
            | (go_at_call_of 17 (Value.slice a n c); refine (sends_any (HL.out.frm (by assumption))).mono ?_; rintro e w4 ⟨rfl, hF⟩)
            | (go_at_call_of 17 (Value.slice a m c); refine (sends_any (HL1.out.frm (by assumption))).mono ?_; rintro e w5 ⟨rfl, hF⟩)
            | (go_at_call_of 17 (Value.slice a' (n - m) (c - m)); refine (sends_any (HL2.out.frm (by assumption))).mono ?_; rintro e w6 ⟨rfl, hF⟩))
        have hF6 : Frm [] wr w6 := by assumption
        have H6 := Lib.hid hF6
        clear hF hF6
        go_wp2_with fail
        refine (print_any (HO.out.frm H6.out) (HL.out.frm H6.out) HW.out).mono ?_
        rw [printP_ok H0.out.1]
        rintro e w7 ⟨rfl, hF⟩
        have H7 := Lib.hid (H6.out.trans (T := []) hF (by simp))
        clear hF
        go_wp2_with fail
        refine (print_any (HO.out.frm H7.out) (HL1.out.frm H7.out) (fun x hx => HW.out x (List.mem_of_mem_take hx))).mono ?_
        rw [printP_ok H0.out.2.1]
        rintro e w8 ⟨rfl, hF⟩
        have H8 := Lib.hid (H7.out.trans (T := []) hF (by simp))
        clear hF
        go_wp2_with fail
        refine (print_any (HO.out.frm H8.out) (HL2.out.frm H8.out) (fun x hx => HW.out x (List.mem_of_mem_drop hx))).mono ?_
        rw [printP_ok H0.out.2.2]
        rintro e w9 ⟨rfl, hF⟩
        have H9 := Lib.hid (H8.out.trans (T := []) hF (by simp))
        clear hF
        have l1 := printL_length (l.take m) (fun x hx => HW.out x (List.mem_of_mem_take hx))
        have l2 := printL_length (l.drop m) (fun x hx => HW.out x (List.mem_of_mem_drop hx))
        have l3 : (l.take m).length ≤ 64 := by rw [List.length_take]; have := Hn.out; omega
        have l4 : (l.drop m).length ≤ 64 := by rw [List.length_drop]; have := Hn.out; omega
        have q1 : ¬ 9223372036854775807 < (tx (printL (l.take m))).size + (tx (printL (l.drop m))).size := by rw [tx_size, tx_size]; omega
        have q2 : ((tx (printL l)).toList == (tx (printL (l.take m)) ++ tx (printL (l.drop m))).toList) = true := by rw [tx_append, ← parts_text]; simp
        clear l1 l2 l3 l4
        go_wp2_with fail
        refine (awake_any (HO.out.frm H9.out)).mono ?_
        rintro e w10 ⟨rfl, hF⟩
        have H10 := Lib.hid (H9.out.trans (T := []) hF (by simp))
        clear hF
        go_wp2_with fail
        go_ret
        exact ⟨rfl, H10.out.below (Nat.le_refl _) (by simp)⟩
      · have gE : ((checkP l).2 == 0) = false := by rw [beq_eq_false_iff_ne]; exact hz
        have gE' : ((checkP l).2 != 0) = true := by simp [hz]
        by_cases hz1 : (checkP (l.take m)).2 = 0
        · have hz2 : (checkP (l.drop m)).2 ≠ 0 := fun h => hz (HIff.out.2 ⟨hz1, h⟩)
          have gG : ((checkP (l.drop m)).2 == 0) = false := by rw [beq_eq_false_iff_ne]; exact hz2
          rw [hz1]
          clear hz hz1 hz2
          go_wp2_with fail
          have HS3 := Lib.hid H3.out.drew
          go_region_held3 (fun w' => Frm [] wr w') (first | exact HS3.out | exact Frm.trans (T := []) (by assumption) hF (by simp))
            (first
              | (go_at_call_of 17 (Value.slice a n c); refine (sends_any (HL.out.frm (by assumption))).mono ?_; rintro e w4 ⟨rfl, hF⟩)
              | (go_at_call_of 17 (Value.slice a m c); refine (sends_any (HL1.out.frm (by assumption))).mono ?_; rintro e w5 ⟨rfl, hF⟩)
              | (go_at_call_of 17 (Value.slice a' (n - m) (c - m)); refine (sends_any (HL2.out.frm (by assumption))).mono ?_; rintro e w6 ⟨rfl, hF⟩))
          have hF6 : Frm [] wr w6 := by assumption
          have H6 := Lib.hid hF6
          clear hF hF6
          go_wp2_with fail
          refine (awake_any (HO.out.frm H6.out)).mono ?_
          rintro e w7 ⟨rfl, hF⟩
          have H7 := Lib.hid (H6.out.trans (T := []) hF (by simp))
          clear hF
          go_wp2_with fail
          go_ret
          exact ⟨rfl, H7.out.below (Nat.le_refl _) (by simp)⟩
        · have gF : ((checkP (l.take m)).2 == 0) = false := by rw [beq_eq_false_iff_ne]; exact hz1
          clear hz hz1
          go_wp2_with fail
          refine wp_region_held_drew (S := fun w' => Frm [] wr w') (by kernel_rfl) ?_ (fun hHeld => ?_)
          · first | exact H3.out.drew | exact H3.out
          refine wpAnyH_take (i := 0) (oi := ⟨some 72, _, _, _, _, _⟩) (v := ?_) rfl (by kernel_rfl) (by kernel_rfl) (by kernel_rfl) (fun _ _ _ h => h) (Or.inl ⟨by rfl, ?_⟩) (by assumption) ?_
          rotate_left
          · (intro w hSw; (try dsimp only at hSw); go_simp; try with_reducible rfl)
          try simp only [Act.put, List.setIfInBounds_toArray, List.set_cons_zero, List.set_cons_succ]
          refine wpAnyH_take (i := 1) (oi := ⟨some 73, _, _, _, _, _⟩) (v := ?_) rfl (by kernel_rfl) (by kernel_rfl) (by kernel_rfl) (fun _ _ _ h => h) (Or.inl ⟨by rfl, ?_⟩) (by assumption) ?_
          rotate_left
          · (intro w hSw; (try dsimp only at hSw); go_simp; try with_reducible rfl)
          try simp only [Act.put, List.setIfInBounds_toArray, List.set_cons_zero, List.set_cons_succ]
          refine wpAnyH_take (i := 2) (oi := ⟨some 74, _, _, _, _, _⟩) (v := ?_) rfl (by kernel_rfl) (by kernel_rfl) (by kernel_rfl) (fun _ _ _ h => h) (Or.inl ⟨by rfl, ?_⟩) (by assumption) ?_
          rotate_left
          · (intro w hSw; (try dsimp only at hSw); go_simp; try with_reducible rfl)
          try simp only [Act.put, List.setIfInBounds_toArray, List.set_cons_zero, List.set_cons_succ]
          refine wpAnyH_take (i := 3) (oi := ⟨some 75, _, _, _, _, _⟩) (v := ?_) rfl (by kernel_rfl) (by kernel_rfl) (by kernel_rfl) (fun _ _ _ h => h) (Or.inl ⟨by rfl, ?_⟩) (by assumption) ?_
          rotate_left
          · (intro w hSw; (try dsimp only at hSw); go_simp; try with_reducible rfl)
          try simp only [Act.put, List.setIfInBounds_toArray, List.set_cons_zero, List.set_cons_succ]
          refine wpAnyH_take (i := 4) (oi := ⟨some 76, _, _, _, _, _⟩) (v := ?_) rfl (by kernel_rfl) (by kernel_rfl) (by kernel_rfl) (fun _ _ _ h => h) (Or.inl ⟨by rfl, ?_⟩) (by assumption) ?_
          rotate_left
          · (intro w hSw; (try dsimp only at hSw); go_simp; try with_reducible rfl)
          try simp only [Act.put, List.setIfInBounds_toArray, List.set_cons_zero, List.set_cons_succ]
          refine wpAnyH_take (i := 5) (oi := ⟨some 77, _, _, _, _, _⟩) (v := undef) rfl (by kernel_rfl) (by kernel_rfl) (by kernel_rfl) (fun _ _ _ h => h) (Or.inr ⟨by rfl, rfl⟩) (by assumption) ?_
          try simp only [Act.put, List.setIfInBounds_toArray, List.set_cons_zero, List.set_cons_succ]
          refine wpAnyH_take (i := 6) (oi := ⟨some 78, _, _, _, _, _⟩) (v := undef) rfl (by kernel_rfl) (by kernel_rfl) (by kernel_rfl) (fun _ _ _ h => h) (Or.inr ⟨by rfl, rfl⟩) (by assumption) ?_
          try simp only [Act.put, List.setIfInBounds_toArray, List.set_cons_zero, List.set_cons_succ]
          refine wpAnyH_take (i := 7) (oi := ⟨some 79, _, _, _, _, _⟩) (v := ?_) rfl (by kernel_rfl) (by kernel_rfl) (by kernel_rfl) (fun _ _ _ h => h) (Or.inl ⟨by rfl, ?_⟩) (by assumption) ?_
          rotate_left
          · (intro w hSw; (try dsimp only at hSw); go_simp; try with_reducible rfl)
          try simp only [Act.put, List.setIfInBounds_toArray, List.set_cons_zero, List.set_cons_succ]
          refine wpAnyH_take (i := 8) (oi := ⟨some 80, _, _, _, _, _⟩) (v := ?_) rfl (by kernel_rfl) (by kernel_rfl) (by kernel_rfl) (fun _ _ _ h => h) (Or.inl ⟨by rfl, ?_⟩) (by assumption) ?_
          rotate_left
          · (intro w hSw; (try dsimp only at hSw); go_simp; try with_reducible rfl)
          try simp only [Act.put, List.setIfInBounds_toArray, List.set_cons_zero, List.set_cons_succ]
          refine wpAnyH_take (i := 9) (oi := ⟨some 81, _, _, _, _, _⟩) (v := ?_) rfl (by kernel_rfl) (by kernel_rfl) (by kernel_rfl) (fun _ _ _ h => h) (Or.inl ⟨by rfl, ?_⟩) (by assumption) ?_
          rotate_left
          · (intro w hSw; (try dsimp only at hSw); go_simp; try with_reducible rfl)
          try simp only [Act.put, List.setIfInBounds_toArray, List.set_cons_zero, List.set_cons_succ]
          refine wpAnyH_take (i := 10) (oi := ⟨some 82, _, _, _, _, _⟩) (v := ?_) rfl (by kernel_rfl) (by kernel_rfl) (by kernel_rfl) (fun _ _ _ h => h) (Or.inl ⟨by rfl, ?_⟩) (by assumption) ?_
          rotate_left
          · (intro w hSw; (try dsimp only at hSw); go_simp; try with_reducible rfl)
          try simp only [Act.put, List.setIfInBounds_toArray, List.set_cons_zero, List.set_cons_succ]
          refine wpAnyH_take (i := 12) (oi := ⟨some 84, _, _, _, _, _⟩) (v := ?_) rfl (by kernel_rfl) (by kernel_rfl) (by kernel_rfl) (fun _ _ _ h => h) (Or.inl ⟨by rfl, ?_⟩) (by assumption) ?_
          rotate_left
          · (intro w hSw; (try dsimp only at hSw); go_simp; try with_reducible rfl)
          try simp only [Act.put, List.setIfInBounds_toArray, List.set_cons_zero, List.set_cons_succ]
          refine wpAnyH_take (i := 13) (oi := ⟨some 85, _, _, _, _, _⟩) (v := ?_) rfl (by kernel_rfl) (by kernel_rfl) (by kernel_rfl) (fun _ _ _ h => h) (Or.inl ⟨by rfl, ?_⟩) (by assumption) ?_
          rotate_left
          · (intro w hSw; (try dsimp only at hSw); go_simp; try with_reducible rfl)
          try simp only [Act.put, List.setIfInBounds_toArray, List.set_cons_zero, List.set_cons_succ]
          refine wpAnyH_take (i := 14) (oi := ⟨some 86, _, _, _, _, _⟩) (v := ?_) rfl (by kernel_rfl) (by kernel_rfl) (by kernel_rfl) (fun _ _ _ h => h) (Or.inl ⟨by rfl, ?_⟩) (by assumption) ?_
          rotate_left
          · (intro w hSw; (try dsimp only at hSw); go_simp; try with_reducible rfl)
          try simp only [Act.put, List.setIfInBounds_toArray, List.set_cons_zero, List.set_cons_succ]
          refine wpAnyH_take (i := 16) (oi := ⟨some 88, _, _, _, _, _⟩) (v := ?_) rfl (by kernel_rfl) (by kernel_rfl) (by kernel_rfl) (fun _ _ _ h => h) (Or.inl ⟨by rfl, ?_⟩) (by assumption) ?_
          rotate_left
          · (intro w hSw; (try dsimp only at hSw); go_simp; try with_reducible rfl)
          try simp only [Act.put, List.setIfInBounds_toArray, List.set_cons_zero, List.set_cons_succ]
          refine wpAnyH_take (i := 17) (oi := ⟨some 89, _, _, _, _, _⟩) (v := ?_) rfl (by kernel_rfl) (by kernel_rfl) (by kernel_rfl) (fun _ _ _ h => h) (Or.inl ⟨by rfl, ?_⟩) (by assumption) ?_
          rotate_left
          · (intro w hSw; (try dsimp only at hSw); go_simp; try with_reducible rfl)
          try simp only [Act.put, List.setIfInBounds_toArray, List.set_cons_zero, List.set_cons_succ]
          refine wpAnyH_take (i := 18) (oi := ⟨some 90, _, _, _, _, _⟩) (v := ?_) rfl (by kernel_rfl) (by kernel_rfl) (by kernel_rfl) (fun _ _ _ h => h) (Or.inl ⟨by rfl, ?_⟩) (by assumption) ?_
          rotate_left
          · (intro w hSw; (try dsimp only at hSw); go_simp; try with_reducible rfl)
          try simp only [Act.put, List.setIfInBounds_toArray, List.set_cons_zero, List.set_cons_succ]
          refine wpAnyH_ready (rs := [11]) (by kernel_rfl) (by simp) ?_
          refine AllReadyH.cons (o := ⟨some 83, _, _, _, _, _⟩) rfl (fun K hK => ?_) AllReadyH.nil
          go_simp
          refine (sends_any (HL.out.frm hHeld)).mono ?_
          rintro e w4 ⟨rfl, hF⟩
          refine hK.out _ _ (Frm.trans (T := []) hHeld hF (by simp)) (fun hw4 => ?_)
          clear hK K hF
          try simp only [Act.put, List.setIfInBounds_toArray, List.set_cons_zero, List.set_cons_succ]
          refine wpAnyH_ready (rs := [15]) (by kernel_rfl) (by simp) ?_
          refine AllReadyH.cons (o := ⟨some 87, _, _, _, _, _⟩) rfl (fun K hK => ?_) AllReadyH.nil
          go_simp
          refine (sends_any (HL1.out.frm hw4)).mono ?_
          rintro e w5 ⟨rfl, hF⟩
          refine hK.out _ _ (Frm.trans (T := []) hw4 hF (by simp)) (fun hw5 => ?_)
          clear hK K hF
          try simp only [Act.put, List.setIfInBounds_toArray, List.set_cons_zero, List.set_cons_succ]
          refine wpAnyH_ready (rs := [19]) (by kernel_rfl) (by simp) ?_
          refine AllReadyH.cons (o := ⟨some 91, _, _, _, _, _⟩) rfl (fun K hK => ?_) AllReadyH.nil
          go_simp
          refine (sends_any (HL2.out.frm hw5)).mono ?_
          rintro e w6 ⟨rfl, hF⟩
          refine hK.out _ _ (Frm.trans (T := []) hw5 hF (by simp)) (fun hw6 => ?_)
          clear hK K hF
          try simp only [Act.put, List.setIfInBounds_toArray, List.set_cons_zero, List.set_cons_succ]
          refine wpAnyH_take (i := 20) (oi := ⟨some 92, _, _, _, _, _⟩) (v := ?_) rfl (by kernel_rfl) (by kernel_rfl) (by kernel_rfl) (fun _ _ _ h => h) (Or.inl ⟨by rfl, ?_⟩) (by assumption) ?_
          rotate_left
          · (intro w hSw; (try dsimp only at hSw); go_simp; try with_reducible rfl)
          try simp only [Act.put, List.setIfInBounds_toArray, List.set_cons_zero, List.set_cons_succ]
          refine wpAnyH_take (i := 21) (oi := ⟨some 93, _, _, _, _, _⟩) (v := ?_) rfl (by kernel_rfl) (by kernel_rfl) (by kernel_rfl) (fun _ _ _ h => h) (Or.inl ⟨by rfl, ?_⟩) (by assumption) ?_
          rotate_left
          · (intro w hSw; (try dsimp only at hSw); go_simp; try with_reducible rfl)
          try simp only [Act.put, List.setIfInBounds_toArray, List.set_cons_zero, List.set_cons_succ]
          refine wpAnyH_take (i := 22) (oi := ⟨some 94, _, _, _, _, _⟩) (v := ?_) rfl (by kernel_rfl) (by kernel_rfl) (by kernel_rfl) (fun _ _ _ h => h) (Or.inl ⟨by rfl, ?_⟩) (by assumption) ?_
          rotate_left
          · (intro w hSw; (try dsimp only at hSw); go_simp; try with_reducible rfl)
          try simp only [Act.put, List.setIfInBounds_toArray, List.set_cons_zero, List.set_cons_succ]
          refine wpAnyH_done (by kernel_rfl) ?_ _
          have H6 := Lib.hid hw6
          clear hw6 hw5 hw4 hHeld
          go_wp2_with fail
          refine (awake_any (HO.out.frm H6.out)).mono ?_
          rintro e w7 ⟨rfl, hF⟩
          have H7 := Lib.hid (H6.out.trans (T := []) hF (by simp))
          clear hF
          go_wp2_with fail
          go_ret
          exact ⟨rfl, H7.out.below (Nat.le_refl _) (by simp)⟩

theorem parts_any {a : Option Addr} {n c : Nat} {l : List Ins} {w : World} (hf : Facts w) (hl : Ins.at_ w a n c l) (hwf : ∀ x ∈ l, x.Wf) (at_ : Int) : Calls Tryd.prog 6 #[.slice a n c, .int .i64 at_] w (LawTrue w) := by
  by_cases h : n > 64 ∨ at_ < 0 ∨ at_ > n
  · exact parts_out hf at_ h
  · obtain ⟨m, rfl⟩ : ∃ m : Nat, at_ = m := ⟨at_.toNat, by omega⟩
    exact parts_in hf hl hwf (by omega) (by omega)
end Go.Proofs.YtodjiicneijkkaaDoor
