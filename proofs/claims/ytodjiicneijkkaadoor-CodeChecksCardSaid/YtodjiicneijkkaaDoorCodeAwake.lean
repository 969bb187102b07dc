/- Package code: the chapter's examples hold, in whatever world. -/
import Derived.Test.YtodjiicneijkkaaDoorCodeU
namespace Go.Proofs.YtodjiicneijkkaaDoor
open Go.RowKit Go.Maps

theorem itoa_dig (n : Nat) (h : n < 10) : Lib.itoa (n : Int) = [UInt8.ofNat (48 + n)] := by rw [Lib.itoa_nonneg, Lib.decDigits_one h]
def aw1 : Ins := ⟨1, 2, -5, 0, 0⟩
def aw2 : Ins := ⟨14, 1, 2, 3, 7⟩
def awT : Bs := [115, 101, 116, 32, 50, 32, 45, 53, 10, 115, 101, 110, 100, 32, 49, 32, 50, 32, 51, 32, 55, 10]
def awP : Bs := [106, 117, 109, 112, 32, 51, 10, 115, 116, 111, 112, 10]
theorem aw_print : printP [aw1, aw2] = (awT, 0) := by
  have hc : (checkP [aw1, aw2]).2 = 0 := by decide
  have h1 : wordOf aw1.op = [115, 101, 116] := by decide
  have h2 : wordOf aw2.op = [115, 101, 110, 100] := by decide
  have h3 : manyOf aw1.op = 2 := by decide
  have h4 : manyOf aw2.op = 4 := by decide
  have i1 : Lib.itoa 1 = [49] := itoa_dig 1 (by omega)
  have i2 : Lib.itoa 2 = [50] := itoa_dig 2 (by omega)
  have i3 : Lib.itoa 3 = [51] := itoa_dig 3 (by omega)
  have i7 : Lib.itoa 7 = [55] := itoa_dig 7 (by omega)
  have i5 : Lib.itoa (-5) = [45, 53] := by
    have := Lib.itoa_neg 5 (by omega)
    rw [Lib.decDigits_one (by omega)] at this
    exact this
  have n1 : numsL aw1 2 = ([] ++ 32 :: Lib.itoa 2) ++ 32 :: Lib.itoa (-5) := by rw [numsL_succ, numsL_succ]; rfl
  have n2 : numsL aw2 4 = ((([] ++ 32 :: Lib.itoa 1) ++ 32 :: Lib.itoa 2) ++ 32 :: Lib.itoa 3) ++ 32 :: Lib.itoa 7 := by rw [numsL_succ, numsL_succ, numsL_succ, numsL_succ]; rfl
  have l1 : lineL aw1 = [115, 101, 116, 32, 50, 32, 45, 53] := by unfold lineL; rw [h1, h3, n1, i2, i5]; rfl
  have l2 : lineL aw2 = [115, 101, 110, 100, 32, 49, 32, 50, 32, 51, 32, 55] := by unfold lineL; rw [h2, h4, n2, i1, i2, i3, i7]; rfl
  unfold printP
  rw [if_pos hc]
  unfold printL
  simp only [List.map_cons, List.map_nil, l1, l2]
  rfl
theorem aw_parse : parseR awP = ([], 1, 10) := by
  have hn : Lib.countByte awP 10 = 2 := by decide
  have hs : awP ≠ [] := by decide
  have hc : (Lib.cut awP [10]).2.2 = true := by decide
  have hl : (Lib.cut awP [10]).1 = [106, 117, 109, 112, 32, 51] := by decide
  have hp : parts [106, 117, 109, 112, 32, 51] = [[106, 117, 109, 112], [51]] := by decide
  have i3 : Lib.itoa 3 = [51] := itoa_dig 3 (by omega)
  have ha : Lib.atoiAll [51] = .ok 3 := by decide
  have hr : numR [51] = some 3 := by rw [numR_ok ha, if_pos i3]
  have hk : findK [106, 117, 109, 112] = 8 := by decide
  have hm : mayE (mkI 8 [3]) 2 = 10 := by decide
  have he : rdLine [106, 117, 109, 112, 32, 51] 2 = (zeroI, 10) := by
    unfold rdLine
    rw [hp]
    simp only [List.headD_cons, hk, List.tail_cons, nums, hr]
    rw [if_neg (by decide), hm]
    rfl
  unfold parseR
  rw [hn, if_neg (by decide)]
  rw [parseGo_bad hs hc (by rw [hl]; rw [show (((2 : Nat) : Int)) = 2 from rfl, he]; decide), hl, show (((2 : Nat) : Int)) = 2 from rfl, he]
  rfl

set_option maxHeartbeats 1000000 in
theorem awake_any {w : World} (hf : Facts w) : Calls Tryd.prog 8 #[] w (Tells (.bool true) w) := by
  have HF := Lib.hid hf
  clear hf
  have hF0 : Frm [] w (w.alloc (.cells #[.int .i64 1, .int .i64 2, .int .i64 (-5), .int .i64 0, .int .i64 0, .int .i64 14, .int .i64 1, .int .i64 2, .int .i64 3, .int .i64 7] 23)) := (Frm.refl _ _).alloc _
  have hsl : Ins.at_ (w.alloc (.cells #[.int .i64 1, .int .i64 2, .int .i64 (-5), .int .i64 0, .int .i64 0, .int .i64 14, .int .i64 1, .int .i64 2, .int .i64 3, .int .i64 7] 23)) (some ⟨w.heap.size, 0, none⟩) 2 2 [aw1, aw2] := by
    refine ⟨rfl, Nat.le_refl _, by unfold maxLen; omega, .inr ⟨w.heap.size, 0, rfl, by simp, fun i x hi j u hj => ?_⟩⟩
    rw [cell_of_obj (obj_new w _)]
    match i, hi with
    | 0, hi =>
      simp at hi; subst hi
      match j, hj with
      | 0, hj => simpa [Ins.enc, aw1] using hj
      | 1, hj => simpa [Ins.enc, aw1] using hj
      | 2, hj => simpa [Ins.enc, aw1] using hj
      | 3, hj => simpa [Ins.enc, aw1] using hj
      | 4, hj => simpa [Ins.enc, aw1] using hj
      | j + 5, hj => simp [Ins.enc, aw1] at hj
    | 1, hi =>
      simp at hi; subst hi
      match j, hj with
      | 0, hj => simpa [Ins.enc, aw2] using hj
      | 1, hj => simpa [Ins.enc, aw2] using hj
      | 2, hj => simpa [Ins.enc, aw2] using hj
      | 3, hj => simpa [Ins.enc, aw2] using hj
      | 4, hj => simpa [Ins.enc, aw2] using hj
      | j + 5, hj => simp [Ins.enc, aw2] at hj
    | i + 2, hi => simp at hi
  have hwf : ∀ x ∈ [aw1, aw2], x.Wf := by
    intro x hx
    simp at hx
    rcases hx with rfl | rfl
    · exact ⟨by simp [inI, aw1], by simp [inI, aw1], by simp [inI, aw1], by simp [inI, aw1], by simp [inI, aw1]⟩
    · exact ⟨by simp [inI, aw2], by simp [inI, aw2], by simp [inI, aw2], by simp [inI, aw2], by simp [inI, aw2]⟩
  have HS := Lib.hid hsl
  have HF0 := Lib.hid hF0
  clear hsl hF0
  go_enter Tryd.func8, Tryd.ntmps8
  go_wp2_with fail
  refine (print_any (HF.out.frm HF0.out) HS.out hwf).mono ?_
  rintro e w1 ⟨rfl, hF1⟩
  have HF1 := Lib.hid (HF0.out.trans (T := []) hF1 (by simp))
  clear hF1
  rw [aw_print]
  go_wp2_with fail
  refine (parse_any awP (by decide) (HF.out.frm HF1.out)).mono ?_
  rintro e w2 ⟨a, c, rfl, hh⟩
  have HF2 := Lib.hid (HF1.out.trans (T := []) (Frm.of_below (S := []) hh.below (Nat.le_refl _)) (by simp))
  clear hh
  rw [aw_parse]
  go_wp2_with fail
  refine (word_any 14 (HF.out.frm HF2.out).ops).mono ?_
  rintro e w3 ⟨rfl, hF3⟩
  have HF3 := Lib.hid (HF2.out.trans (T := []) hF3 (by simp))
  clear hF3
  rw [show wordOf 14 = [115, 101, 110, 100] by decide, show manyOf 14 = 4 by decide]
  have g1 : ((tx awT).toList == [115, 101, 116, 32, 50, 32, 45, 53, 10, 115, 101, 110, 100, 32, 49, 32, 50, 32, 51, 32, 55, 10]) = true := by rw [tx_toList]; rfl
  have g2 : ((tx [115, 101, 110, 100]).toList == [115, 101, 110, 100]) = true := by rw [tx_toList]; rfl
  go_wp2_with fail
  go_ret
  refine ⟨?_, HF3.out⟩
  rfl
end Go.Proofs.YtodjiicneijkkaaDoor
