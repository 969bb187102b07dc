/- CodePrints, walked. -/
import Derived.Test.YtodjiicneijkkaaDoorCodeI
namespace Go.Proofs.YtodjiicneijkkaaDoor
open Go.RowKit Go.Maps

set_option maxHeartbeats 2000000 in
theorem prints_any {a : Option Addr} {n c : Nat} {l : List Ins} {w : World} (hf : Facts w) (hl : Ins.at_ w a n c l) (hwf : ∀ x ∈ l, x.Wf) : Calls Tryd.prog 4 #[.slice a n c] w (LawTrue w) := by
  have hn : l.length = n := hl.1
  have HO := Lib.hid hf
  have HL := Lib.hid hl
  have HW := Lib.hid hwf
  have Hn := Lib.hid hn
  clear hf hl hwf hn
  by_cases h80 : n > 80
  · have g1 : decide ((n : Int) > 80) = true := by rw [decide_eq_true_eq]; omega
    go_enter Tryd.func4, Tryd.ntmps4
    go_wp2_with fail
    refine (awake_any HO.out).mono ?_
    rintro e w1 ⟨rfl, hF⟩
    have HF := Lib.hid (hF.below (Nat.le_refl _) (by simp))
    clear hF
    go_wp2_with fail
    go_ret
    exact ⟨rfl, HF.out⟩
  · have g1 : decide ((n : Int) > 80) = false := by rw [decide_eq_false_iff_not]; omega
    go_enter Tryd.func4, Tryd.ntmps4
    go_wp2_with fail
    refine (print_any HO.out HL.out HW.out).mono ?_
    rintro e w1 ⟨rfl, hF⟩
    have H1 := Lib.hid hF
    clear hF
    go_wp2_with fail
    refine (plain_any (HL.out.frm H1.out) (by omega)).mono ?_
    rintro e w2 ⟨a2, c2, rfl, h2⟩
    have HS := Lib.hid (SlAt.of_row Ins.enc_len h2.row Hn.out)
    have H2 := Lib.hid (H1.out.trans (T := []) (Frm.of_below (S := []) h2.below (Nat.le_refl _)) (by simp))
    clear h2
    go_wp2_with fail
    refine (rprint_any HS.out HW.out).mono ?_
    rintro e w3 ⟨rfl, hF⟩
    have H3 := Lib.hid (H2.out.trans (T := []) hF (by simp))
    clear hF
    go_wp2_with fail
    refine (awake_any (HO.out.frm H3.out)).mono ?_
    rintro e w4 ⟨rfl, hF⟩
    have H4 := Lib.hid (H3.out.trans (T := []) hF (by simp))
    clear hF
    go_wp2_with fail
    go_ret
    exact ⟨rfl, H4.out.below (Nat.le_refl _) (by simp)⟩
end Go.Proofs.YtodjiicneijkkaaDoor
