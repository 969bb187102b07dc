/- CodeBack, walked. -/
import Derived.Test.YtodjiicneijkkaaDoorCodeW
import Derived.Test.YtodjiicneijkkaaDoorCodeShift
import Derived.Laws.StructEq
namespace Go.Proofs.YtodjiicneijkkaaDoor
open Go.RowKit Go.Maps

theorem instr_fields : ((Tryd.prog).fieldsOf 23).toList.map (fun f => (f.type, f.offset, decide (f.name ≠ "_"))) = [(3, 0, true), (3, 1, true), (3, 2, true), (3, 3, true), (3, 4, true)] := by kernel_rfl
theorem instr_ne (x : Ins) (w : World) : (binOp BinOp.neq 23 (.agg #[.int .i64 x.op, .int .i64 x.a, .int .i64 x.b, .int .i64 x.c, .int .i64 x.d]) (.agg #[.int .i64 x.op, .int .i64 x.a, .int .i64 x.b, .int .i64 x.c, .int .i64 x.d])).run Tryd.prog w = .ok (.bool false) w := by
  have hf := instr_fields
  rw [run_neq_struct, run_equalIn_agg (P := Tryd.prog) w 9999 23 _ _ (by kernel_rfl) (by kernel_rfl)]
  generalize ((Tryd.prog).fieldsOf 23).toList = fs at hf ⊢
  match fs, hf with
  | [f0, f1, f2, f3, f4], hf =>
    simp only [List.map_cons, List.map_nil, List.cons.injEq, Prod.mk.injEq, and_true, decide_eq_true_eq] at hf
    obtain ⟨⟨a0, b0, c0⟩, ⟨a1, b1, c1⟩, ⟨a2, b2, c2⟩, ⟨a3, b3, c3⟩, a4, b4, c4⟩ := hf
    have e1 : ∀ (x p : Int), (Op.equalIn 9999 3 (.int .i64 x) (.int .i64 p)).run Tryd.prog w = .ok (x == p) w := fun x p => run_equalIn_int (P := Tryd.prog) w 9998 3 .i64 .i64 x p Tryd.underlying3
    have q0 : ∀ a b c d e : Int, (part 3 #[.int .i64 a, .int .i64 b, .int .i64 c, .int .i64 d, .int .i64 e] 0).run Tryd.prog w = .ok (.int .i64 a) w := fun a b c d e => by kernel_rfl
    have q1 : ∀ a b c d e : Int, (part 3 #[.int .i64 a, .int .i64 b, .int .i64 c, .int .i64 d, .int .i64 e] 1).run Tryd.prog w = .ok (.int .i64 b) w := fun a b c d e => by kernel_rfl
    have q2 : ∀ a b c d e : Int, (part 3 #[.int .i64 a, .int .i64 b, .int .i64 c, .int .i64 d, .int .i64 e] 2).run Tryd.prog w = .ok (.int .i64 c) w := fun a b c d e => by kernel_rfl
    have q3 : ∀ a b c d e : Int, (part 3 #[.int .i64 a, .int .i64 b, .int .i64 c, .int .i64 d, .int .i64 e] 3).run Tryd.prog w = .ok (.int .i64 d) w := fun a b c d e => by kernel_rfl
    have q4 : ∀ a b c d e : Int, (part 3 #[.int .i64 a, .int .i64 b, .int .i64 c, .int .i64 d, .int .i64 e] 4).run Tryd.prog w = .ok (.int .i64 e) w := fun a b c d e => by kernel_rfl
    simp only [Op.eqFields, if_pos c0, if_pos c1, if_pos c2, if_pos c3, if_pos c4, a0, a1, a2, a3, a4, b0, b1, b2, b3, b4, Sem.run_bind, q0, q1, q2, q3, q4, e1, Result.andThen_ok, beq_self_eq_true, Bool.not_true, Bool.false_eq_true, if_false, Bool.and_true]
    rfl
  | [], hf => simp at hf
  | [_], hf => simp at hf
  | [_, _], hf => simp at hf
  | [_, _, _], hf => simp at hf
  | [_, _, _, _], hf => simp at hf
  | _ :: _ :: _ :: _ :: _ :: _ :: _, hf => simp at hf
theorem instr_guard : (Tryd.prog).eqGuardType (Tryd.prog).depth 23 = false := by kernel_rfl

attribute [local go_sem high] instr_ne instr_guard in
set_option maxHeartbeats 4000000 in
theorem back_any {a : Option Addr} {n c : Nat} {l : List Ins} {t : Bs} {w : World} (hf : Facts w) (hl : Ins.at_ w a n c l) (hwf : ∀ x ∈ l, x.Wf) : Calls Tryd.prog 5 #[.slice a n c, .string (tx t)] w (LawTrue w) := by
  have hn : l.length = n := hl.1
  have HO := Lib.hid hf
  have HL := Lib.hid hl
  have HW := Lib.hid hwf
  have hcap := hl.2.2.1
  have hcap' := hl.2.1
  simp only [maxLen] at hcap
  have Hn := Lib.hid hn
  have hts := tx_size t
  clear hf hl hwf hn
  by_cases h80 : n > 80
  · have g1 : decide ((n : Int) > 80) = true := by rw [decide_eq_true_eq]; omega
    clear hts
    go_enter Tryd.func5, Tryd.ntmps5
    go_wp2_with fail
    refine (awake_any HO.out).mono ?_
    rintro e w1 ⟨rfl, hF⟩
    have HF := Lib.hid (hF.below (Nat.le_refl _) (by simp))
    clear hF
    go_wp2_with fail
    go_ret
    exact ⟨rfl, HF.out⟩
  · have g1 : decide ((n : Int) > 80) = false := by rw [decide_eq_false_iff_not]; omega
    by_cases h2000 : t.length > 2000
    · have g2 : decide (((tx t).size : Int) > 2000) = true := by rw [decide_eq_true_eq]; omega
      clear hts
      go_enter Tryd.func5, Tryd.ntmps5
      go_wp2_with fail
      refine (awake_any HO.out).mono ?_
      rintro e w1 ⟨rfl, hF⟩
      have HF := Lib.hid (hF.below (Nat.le_refl _) (by simp))
      clear hF
      go_wp2_with fail
      go_ret
      exact ⟨rfl, HF.out⟩
    · have g2 : decide (((tx t).size : Int) > 2000) = false := by rw [decide_eq_false_iff_not]; omega
      clear hts
      go_enter Tryd.func5, Tryd.ntmps5
      go_wp2_with fail
      refine (print_any HO.out HL.out HW.out).mono ?_
      rintro e w1 ⟨rfl, hF⟩
      have HF1 := Lib.hid hF
      clear hF g1 g2
      rw [printP_err]
      go_upto_if 31 with fail
      go_cut [7, 8, 9, 10] from 31 to 65 (fun _ _ _ _ wx => Frm [] w wx)
      case first =>
        by_cases hz : (checkP l).2 = 0
        · have hz' : ((checkP l).2 == 0) = true := by rw [beq_iff_eq]; exact hz
          have hp1 : (printP l).1 = printL l := by rw [printP_ok hz]
          have hbk : parseR (printP l).1 = (l, 0, 0) := by rw [hp1]; exact back_parse HW.out hz
          have Hbk := Lib.hid hbk
          have h64 := ((checkP_iff l).1 hz).1
          have hle := printL_length l HW.out
          have h101 : (printP l).1.length ≤ 10000 := by rw [hp1]; omega
          clear hz hbk hle hp1
          go_wp2_with fail
          refine (parse_any (printP l).1 h101 (HO.out.frm HF1.out)).mono ?_
          rw [Hbk.out]
          rintro e w2 ⟨a2, c2, rfl, h2⟩
          have hrow := h2.row
          have hsl := SlAt.of_row Ins.enc_len hrow rfl
          rw [Hn.out] at hsl
          dsimp only
          rw [Hn.out]
          have HS := Lib.hid hsl
          have HF2 := Lib.hid (HF1.out.trans (T := []) (Frm.of_below (S := []) h2.below (Nat.le_refl _)) (by simp))
          clear h2 hrow hsl h101 h64
          go_wp2_with fail
          go_loopw [10] (fun iv wr => ∃ k : Nat, k ≤ n ∧ iv = .int .i64 (k : Int) ∧ Frm [] w2 wr) (fun iv _ => n - (intOf iv).toNat)
          case atStart => exact ⟨0, by omega, rfl, Frm.refl _ _⟩
          case round =>
            obtain ⟨k, hk, rfl, hF⟩ := hrel
            have HF := Lib.hid hF
            clear hF
            by_cases hlt : k < n
            · obtain ⟨b1, o1, x, rfl, hb1, hx, p0, p1, p2, p3, p4⟩ := insAt (SlAt.frm HL.out (HF2.out.trans (T := []) HF.out (by simp))) hlt
              obtain ⟨b2, o2, y, hab, hb2, hy, q0, q1, q2, q3, q4⟩ := insAt (SlAt.frm HS.out HF.out) hlt
              obtain rfl : x = y := by rw [hx] at hy; exact Option.some.inj hy
              subst hab
              clear hx hy
              go_wp2_with fail
              go_quiet (fail)
              go_wp2_with fail
              go_roundw
              case rel => exact ⟨k + 1, by omega, by go_num, HF.out.drewN _⟩
              case measure => simp [intOf]; omega
            · obtain rfl : k = n := by omega
              go_wp2_with fail
              go_meet
              exact HF2.out.trans (T := []) HF.out (by simp)
        · have hz' : ((checkP l).2 == 0) = false := by rw [beq_eq_false_iff_ne]; exact hz
          clear hz
          go_wp2_with fail
          go_meet
          exact HF1.out
      case rest =>
        have HFc := Lib.hid hcut
        clear hcut
        go_wp2_with fail
        refine (parse_any t (by omega) (HO.out.frm HFc.out)).mono ?_
        rintro e w2 ⟨a2, c2, rfl, h2⟩
        have HF2 := Lib.hid (HFc.out.trans (T := []) (Frm.of_below (S := []) h2.below (Nat.le_refl _)) (by simp))
        by_cases hz : (parseR t).2.2 = 0
        · obtain ⟨b1, b2, b3, b4⟩ := back_print hz
          have HS := Lib.hid (SlAt.of_row Ins.enc_len h2.row rfl)
          have B2 := Lib.hid b2
          have B3 := Lib.hid b3
          have B4 := Lib.hid b4
          rw [b1, hz]
          clear hz b1 b2 b3 b4 h2
          go_wp2_with fail
          refine (print_any (HO.out.frm HF2.out) HS.out B4.out).mono ?_
          rw [printP_ok B2.out, B3.out]
          rintro e w3 ⟨rfl, hF⟩
          have HF3 := Lib.hid (HF2.out.trans (T := []) hF (by simp))
          clear hF
          go_wp2_with fail
          refine (awake_any (HO.out.frm HF3.out)).mono ?_
          rintro e w4 ⟨rfl, hF⟩
          have HF4 := Lib.hid (HF3.out.trans (T := []) hF (by simp))
          clear hF
          go_wp2_with fail
          go_ret
          exact ⟨rfl, HF4.out.below (Nat.le_refl _) (by simp)⟩
        · obtain ⟨e1, e2⟩ := back_err hz
          have z1 : ((parseR t).2.2 != 0) = true := by simp [hz]
          rw [e1]
          have E2 := Lib.hid e2
          clear hz e1 h2 e2
          by_cases hp : 0 < (parseR t).2.1
          · have g3 : decide ((parseR t).2.1 > 0) = true := by rw [decide_eq_true_eq]; exact hp
            have g3' : decide (0 < (parseR t).2.1) = true := by rw [decide_eq_true_eq]; exact hp
            go_wp2_with fail
            refine (awake_any (HO.out.frm HF2.out)).mono ?_
            rintro e w4 ⟨rfl, hF⟩
            have HF4 := Lib.hid (HF2.out.trans (T := []) hF (by simp))
            clear hF
            go_wp2_with fail
            go_ret
            exact ⟨rfl, HF4.out.below (Nat.le_refl _) (by simp)⟩
          · have g3 : decide ((parseR t).2.1 > 0) = false := by rw [decide_eq_false_iff_not]; exact hp
            have g3' : decide (0 < (parseR t).2.1) = false := by rw [decide_eq_false_iff_not]; exact hp
            have g4 : ((parseR t).2.2 == 11) = true := by
              rw [beq_iff_eq]
              rcases E2.out with h | h
              · exact absurd h hp
              · exact h
            go_wp2_with fail
            refine (awake_any (HO.out.frm HF2.out)).mono ?_
            rintro e w4 ⟨rfl, hF⟩
            have HF4 := Lib.hid (HF2.out.trans (T := []) hF (by simp))
            clear hF
            go_wp2_with fail
            go_ret
            exact ⟨rfl, HF4.out.below (Nat.le_refl _) (by simp)⟩
end Go.Proofs.YtodjiicneijkkaaDoor
