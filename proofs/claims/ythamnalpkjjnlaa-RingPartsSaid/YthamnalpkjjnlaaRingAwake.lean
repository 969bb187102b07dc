/- The chapter's example, walked. -/
import Derived.Test.YthamnalpkjjnlaaRInts
namespace Go.Proofs.Ythamnalpkjjnlaa
open Go.RowKit

theorem slAt_made (w : World) (x y : Int) (t : TypeId) : SlAt intEnc 1 (w.alloc (.cells #[.int .i64 x, .int .i64 y] t)) (some ⟨w.heap.size, 0, none⟩) 2 2 [x, y] := by
  refine ⟨rfl, Nat.le_refl _, by unfold maxLen; omega, .inr ⟨_, _, rfl, by simp, fun i z hi j u hj => ?_⟩⟩
  obtain ⟨c0, c1⟩ := cells2 (obj_new w (.cells #[.int .i64 x, .int .i64 y] t))
  have hj' := (List.getElem?_eq_some_iff.1 hj).1
  simp only [intEnc, List.length_cons, List.length_nil] at hj'
  obtain rfl : j = 0 := by omega
  simp only [intEnc, List.getElem?_cons_zero, Option.some.injEq] at hj
  subst hj
  match i, hi with
  | 0, hi => simp at hi; subst hi; exact c0
  | 1, hi => simp at hi; subst hi; exact c1
  | i + 2, hi => simp at hi

abbrev aw1 : It := ⟨1, 7⟩
abbrev aw2 : It := ⟨4, 8⟩
abbrev aw3 : It := ⟨4, 9⟩

set_option maxHeartbeats 2000000 in
set_option maxRecDepth 100000 in
theorem awake_any (w : World) : Calls Try.prog 10 #[] w fun e w' => e = .returned (.bool true) ∧ Below w.heap.size w w' := by
  have E1 := Lib.hid (show pushS 3 [] ⟨1, 7⟩ = [aw1] by simp [pushS, early])
  have E2 := Lib.hid (show pushS 3 [aw1] ⟨4, 8⟩ = [aw1, aw2] by simp [pushS, early])
  have E3 := Lib.hid (show pushS 3 [aw1, aw2] ⟨4, 9⟩ = [aw1, aw2, aw3] by simp [pushS, early])
  have C1 := Lib.hid (show cnt (fun x => decide (x > 3)) [aw1, aw2, aw3] = 1 from rfl)
  have C2 := Lib.hid (show cnt (fun x => decide (x ≥ 4)) [aw1, aw2, aw3] = 1 from rfl)
  have E5 := Lib.hid (show pushE 3 [aw1] 0 = 18 by simp [pushE, early])
  have E6 := Lib.hid (show pushS 3 [aw1] ⟨0, 5⟩ = [aw1] by simp [pushS, early])
  have hn := new_goes noneR_stable (Holds.start w) 3 (by omega) (by omega)
  rw [show (((3 : Nat) : Int)) = 3 from rfl] at hn
  have Hn := Lib.hid hn
  clear hn
  go_enter Try.func10, Try.ntmps10
  go_wp2_with fail
  refine Hn.out.mono ?_
  rintro e w1 ⟨rfl, h1⟩
  have H1 := Lib.hid h1
  clear h1 Hn
  go_wp2_with fail
  refine (push_goes noneR_stable H1.out (by omega) 1 7).mono ?_
  rintro e w2 ⟨rfl, h2⟩
  rw [E1.out] at h2
  have H2 := Lib.hid h2
  clear h2
  go_wp2_with fail
  refine (push_goes noneR_stable H2.out (by omega) 4 8).mono ?_
  rintro e w3 ⟨rfl, h3⟩
  rw [E2.out] at h3
  have H3 := Lib.hid h3
  clear h3
  go_wp2_with fail
  refine (push_goes noneR_stable H3.out (by omega) 4 9).mono ?_
  rintro e w4 ⟨rfl, h4⟩
  rw [E3.out] at h4
  have hri : Rise [aw1, aw2, aw3] := by simp [Rise]
  have hu := upto_says h4.ringAt hri 3
  rw [C1.out] at hu
  have Hu := Lib.hid hu
  have H4 := Lib.hid h4
  clear h4 hri hu
  go_wp2_with fail
  refine Hu.out.mono ?_
  rintro e w5 ⟨rfl, hf⟩
  have h5 := H4.out.made (sepR_stable (ringR_stable _ _ _) noneR_stable) hf
  have hb := back_goes noneR_stable h5 4
  rw [C2.out] at hb
  have Hb := Lib.hid hb
  clear h5 hf hb Hu H4
  dsimp only [tellT, tellI, tellE, List.getElem?_cons_zero, Option.getD_some]
  go_wp2_with fail
  refine Hb.out.mono ?_
  rintro e w6 ⟨a, c, rfl, h6⟩
  have hs6 : Stable (sepR (intR (.slice a ([aw1, aw2, aw3].length - 1) c) ([aw1, aw2, aw3].length - 1) (valsOf ([aw1, aw2, aw3].drop 1)).reverse) (sepR (ringR w.heap.size 3 ([aw1, aw2, aw3].take 1)) noneR)) := sepR_stable (rowR_stable _ _ _ _ _) (sepR_stable (ringR_stable _ _ _) noneR_stable)
  have h7 := h6.made hs6 ((Frm.refl _ _).alloc (.cells #[.int .i64 9, .int .i64 8] 3))
  have hc := ints_any _ _ _ _ [9, 8] _ _ _ [9, 8] (SlAt.of_row intEnc_len h7.row rfl) (slAt_made w6 9 8 3) (by simp)
  rw [show decide (([9, 8] : List Int) = [9, 8]) = true by decide] at hc
  have Hc := Lib.hid hc
  have H7 := Lib.hid h7
  clear h6 h7 hc Hb
  go_wp2_with fail
  refine Hc.out.mono ?_
  rintro e w7 ⟨rfl, hf⟩
  have h8 : Holds w.heap.size w (sepR (ringR w.heap.size 3 [aw1]) noneR) w7 [] := (H7.out.made hs6 hf).drop
  have hp := push_goes noneR_stable h8 (by omega) 0 5
  rw [E5.out, E6.out] at hp
  have Hp := Lib.hid hp
  clear h8 hf hp Hc H7 hs6
  go_wp2_with fail
  refine Hp.out.mono ?_
  rintro e w8 ⟨rfl, h9⟩
  have hr := room_says h9.ringAt (by simp) (by omega)
  have H9 := Lib.hid h9
  have Hr := Lib.hid hr
  clear h9 hr Hp
  go_wp2_with fail
  refine Hr.out.mono ?_
  rintro e w9 ⟨rfl, hf⟩
  have hz := (H9.out.made (sepR_stable (ringR_stable _ _ _) noneR_stable) hf).below
  have Hz := Lib.hid hz
  clear hf hz Hr H9
  go_wp2_with fail
  go_ret
  exact ⟨rfl, Hz.out⟩
end Go.Proofs.Ythamnalpkjjnlaa
