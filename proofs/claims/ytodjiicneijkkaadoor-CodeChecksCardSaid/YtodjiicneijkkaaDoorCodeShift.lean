/- CodeShift, walked. -/
import Derived.Test.YtodjiicneijkkaaDoorCodeQ
namespace Go.Proofs.YtodjiicneijkkaaDoor
open Go.RowKit Go.Maps

def LawTrue (w : World) (e : Ending) (w' : World) : Prop := e = .returned (.bool true) ∧ Below w.heap.size w w'

set_option maxHeartbeats 4000000 in
theorem shift_any {a : Option Addr} {n c : Nat} {l : List Ins} {w : World} (hf : Facts w) (hl : Ins.at_ w a n c l) (hwf : ∀ x ∈ l, x.Wf) (hnil : a = none → n = 0 ∧ c = 0) : Calls Tryd.prog 7 #[.slice a n c] w (LawTrue w) := by
  have hn : l.length = n := hl.1
  have HO := Lib.hid hf
  have HL := Lib.hid hl
  have HW := Lib.hid hwf
  have Hnil := Lib.hid hnil
  have hcap := hl.2.2.1
  have hcap' := hl.2.1
  simp only [maxLen] at hcap
  have Hn := Lib.hid hn
  clear hf hl hwf hn hnil
  by_cases h63 : n > 63
  · have g1 : decide ((n : Int) > 63) = true := by rw [decide_eq_true_eq]; omega
    go_enter Tryd.func7, Tryd.ntmps7
    go_wp2_with fail
    refine (awake_any HO.out).mono ?_
    rintro e w1 ⟨rfl, hF⟩
    have HF := Lib.hid (hF.below (Nat.le_refl _) (by simp))
    clear hF
    go_wp2_with fail
    go_ret
    exact ⟨rfl, HF.out⟩
  · have g1 : decide ((n : Int) > 63) = false := by rw [decide_eq_false_iff_not]; omega
    have H0 := Lib.hid ((Holds.start w).nilRow 23 5)
    obtain ⟨i1, hj0, hj1, hj2, hj3⟩ := info_parts infoInstr
    have Hi := Lib.hid (And.intro hj0 (And.intro hj1 (And.intro hj2 hj3)))
    clear hj0 hj1 hj2 hj3
    go_enter Tryd.func7, Tryd.ntmps7
    go_wp2_with (at_builtin; refine Stop.of ?_)
    refine Stop.go ?_
    refine wpList_append_sl (enc := Ins.enc) _ rfl _ _ 24 rfl 23 i1 (.agg #[.int .i64 0, .int .i64 0, .int .i64 0, .int .i64 0, .int .i64 0]) 5 40 Tryd.underlying24 Hi.out.1 Hi.out.2.1 Hi.out.2.2.1 Hi.out.2.2.2 rfl (by decide) (.slice none 0 0) 0 [] rfl H0.out.row a n c l rfl HL.out Hnil.out Ins.enc_len Ins.enc_one (by unfold maxLen; omega) (by omega) ?_
    intro a1 c1 w1 hown hF hnew
    simp only [Nat.zero_add, List.nil_append] at hown hnew ⊢
    have H1 := Lib.hid (H0.out.appended noneR_stable hown hF hnew)
    clear hown hF hnew
    go_wp2_with (at_builtin; refine Stop.of ?_)
    refine Stop.go ?_
    have h5 := H1.out.alloc (sepR_stable (rowR_stable _ _ _ _ _) noneR_stable) (.cells #[.int .i64 15, .int .i64 0, .int .i64 0, .int .i64 0, .int .i64 0] 23)
    refine wpList_append_foot _ rfl _ _ 24 rfl 23 i1 (.agg #[.int .i64 0, .int .i64 0, .int .i64 0, .int .i64 0, .int .i64 0]) 5 40 Tryd.underlying24 Hi.out.1 Hi.out.2.1 Hi.out.2.2.1 Hi.out.2.2.2 rfl (by decide) (.slice a1 n c1) n (flat Ins.enc l) rfl h5.row ⟨_, 0, none⟩ 1 1 stopI.enc rfl rfl (cells_at _ stopI.enc _ _ (by simp)) (Ins.enc_one stopI) (by unfold maxLen; omega) (by omega) ?_
    intro a2 c2 w2 hown hF hnew
    have h6 := h5.appended noneR_stable hown hF hnew
    have e2 : flat Ins.enc l ++ stopI.enc = flat Ins.enc (l ++ [stopI]) := by rw [flat_append, flat_single]
    rw [e2] at h6
    have H2 := Lib.hid h6
    have hl2 : (l ++ [stopI]).length = n + 1 := by simp [Hn.out]
    have Hl2 := Lib.hid hl2
    have hwf2 : ∀ x ∈ l ++ [stopI], x.Wf := fun x hx => by
      rcases List.mem_append.1 hx with hx | hx
      · exact HW.out x hx
      · simp at hx; subst hx; exact ⟨by simp [inI, stopI], by simp [inI, stopI], by simp [inI, stopI], by simp [inI, stopI], by simp [inI, stopI]⟩
    have HW2 := Lib.hid hwf2
    have hst : Stable (sepR (rowR 23 5 (.slice a2 (n + 1) c2) (n + 1) (flat Ins.enc (l ++ [stopI]))) noneR) := sepR_stable (rowR_stable _ _ _ _ _) noneR_stable
    have Hst := Lib.hid hst
    clear hown hF hnew h5 h6 e2 hl2 hwf2 hst Hi
    go_wp2_with fail
    refine (check_any (HO.out.below H2.out.below).ops (HL.out.frm (Frm.of_below H2.out.below (Nat.le_refl _)))).mono ?_
    rintro e w3 ⟨rfl, hF⟩
    have H3 := Lib.hid (H2.out.made Hst.out hF)
    clear hF
    go_wp2_with fail
    refine (check_any (l := l ++ [stopI]) (HO.out.below H3.out.below).ops (SlAt.of_row Ins.enc_len H3.out.row Hl2.out)).mono ?_
    rintro e w4 ⟨rfl, hF⟩
    have H4 := Lib.hid (H3.out.made Hst.out hF)
    clear hF
    go_wp2_with fail
    refine (print_any (HO.out.below H4.out.below) (HL.out.frm (Frm.of_below H4.out.below (Nat.le_refl _))) HW.out).mono ?_
    rintro e w5 ⟨rfl, hF⟩
    have H5 := Lib.hid (H4.out.made Hst.out hF)
    clear hF
    rw [printP_err]
    go_wp2_with fail
    refine (print_any (l := l ++ [stopI]) (HO.out.below H5.out.below) (SlAt.of_row Ins.enc_len H5.out.row Hl2.out) HW2.out).mono ?_
    rintro e w6 ⟨rfl, hF⟩
    have H6 := Lib.hid (H5.out.made Hst.out hF)
    clear hF
    rw [printP_err]
    by_cases hz : (checkP l).2 = 0
    · have hz2 := shift_ok hz (by rw [Hn.out]; omega)
      rw [printP_ok hz, printP_ok hz2, hz, hz2]
      have hle := printL_length l HW.out
      rw [Hn.out] at hle
      have s1 : ¬ 9223372036854775807 < (tx (printL l)).size + 5 := by rw [tx_size]; omega
      have q1 : ((tx (printL (l ++ [stopI]))).toList == (tx (printL l) ++ ⟨#[115, 116, 111, 112, 10]⟩).toList) = true := by
        rw [shift_text]
        show ((tx (printL l ++ [115, 116, 111, 112, 10])).toList == (tx (printL l) ++ tx [115, 116, 111, 112, 10]).toList) = true
        rw [tx_append]; simp
      have q2 := shift_sends l
      clear hz hz2 hle
      go_wp2_with fail
      refine (sends_any (HL.out.frm (Frm.of_below H6.out.below (Nat.le_refl _)))).mono ?_
      rintro e w7 ⟨rfl, hF⟩
      have H7 := Lib.hid (H6.out.made Hst.out hF)
      clear hF
      go_wp2_with fail
      refine (sends_any (l := l ++ [stopI]) (SlAt.of_row Ins.enc_len H7.out.row Hl2.out)).mono ?_
      rintro e w8 ⟨rfl, hF⟩
      have H8 := Lib.hid (H7.out.made Hst.out hF)
      clear hF
      rw [q2]
      go_wp2_with fail
      refine (awake_any (HO.out.below H8.out.below)).mono ?_
      rintro e w9 ⟨rfl, hF⟩
      have H9 := Lib.hid (H8.out.made Hst.out hF)
      clear hF
      go_wp2_with fail
      go_ret
      exact ⟨rfl, H9.out.below⟩
    · rw [printP_no hz]
      have z1 : ((checkP l).2 != 0) = true := by simp [hz]
      have z2 : ((tx []).toList == []) = true := by rw [tx_toList]; rfl
      clear hz
      go_wp2_with fail
      refine (awake_any (HO.out.below H6.out.below)).mono ?_
      rintro e w7 ⟨rfl, hF⟩
      have H7 := Lib.hid (H6.out.made Hst.out hF)
      clear hF
      go_wp2_with fail
      go_ret
      exact ⟨rfl, H7.out.below⟩
end Go.Proofs.YtodjiicneijkkaaDoor
