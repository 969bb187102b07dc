/- Package code: the document's answer: numerals, lines, Print. -/
import Derived.Test.YtodjiicneijkkaaDoorCodeG
namespace Go.Proofs.YtodjiicneijkkaaDoor
open Go.RowKit Go.Maps

set_option maxHeartbeats 1000000 in
set_option maxRecDepth 100000 in
theorem dec_pos (u : Nat) : u ≤ 9223372036854775807 → ∀ w : World, Calls Tryd.prog 35 #[.int .i64 (u : Int)] w (Tells (.string (tx (Lib.decDigits u))) w) := by
  induction u using Nat.strongRecOn with
  | _ u ih =>
    intro hu w
    have g1 : decide ((u : Int) < 0) = false := by rw [decide_eq_false_iff_not]; omega
    obtain ⟨d, hd⟩ : ∃ d, d = u % 10 := ⟨_, rfl⟩
    obtain ⟨q, hqd⟩ : ∃ q, q = u / 10 := ⟨_, rfl⟩
    have hr : Int.tmod (u : Int) 10 = (d : Int) := by rw [hd]; rfl
    have hq : Int.tdiv (u : Int) 10 = (q : Int) := by rw [hqd]; rfl
    have w1 : IntKind.i64.wrap (48 + (d : Int)) = 48 + (d : Int) := IntWalk.i64_in _ (by omega)
    have w2 : (48 + (d : Int)) % 256 = 48 + (d : Int) := by omega
    obtain ⟨c, hc0⟩ : ∃ c, c = UInt8.ofNat (48 + d) := ⟨_, rfl⟩
    have hcv : (convert 61 9 (.slice (some ⟨w.heap.size, 0, none⟩) 1 1)).run Tryd.prog (w.alloc (.cells #[.int .u8 (48 + (d : Int))] 5)) = .ok (.string ⟨#[c]⟩) (w.alloc (.cells #[.int .u8 (48 + (d : Int))] 5)) := by
      have e : (c.toNat : Int) = 48 + (d : Int) := by rw [hc0, UInt8.toNat_ofNat']; omega
      refine run_convert_bytes_back (P := Tryd.prog) _ 61 9 5 ⟨w.heap.size, 0, none⟩ 1 [c] Tryd.underlying61 Tryd.underlying5 Tryd.underlying9 ?_
      intro j hj
      have hj0 : j = 0 := by simpa using hj
      subst hj0
      rw [addr_add, cell_of_obj (obj_new w _)]
      simp [e]
    have Hc0 := Lib.hid hc0
    clear hc0
    have Hd := Lib.hid hd
    have Hq := Lib.hid hqd
    have Hu := Lib.hid hu
    have Ih := Lib.hid ih
    clear hd hqd hu ih
    by_cases h9 : u < 10
    · have g2 : decide ((u : Int) > 9) = false := by rw [decide_eq_false_iff_not]; omega
      have e := Lib.hid (Lib.decDigits_one h9)
      go_enter Tryd.func35, Tryd.ntmps35
      go_wp2_with fail
      go_ret
      rw [e.out]
      refine ⟨?_, (Frm.refl _ _).alloc _⟩
      have : d = u := by have := Hd.out; omega
      rw [← this, ← Hc0.out]
      rfl
    · have g2 : decide ((u : Int) > 9) = true := by rw [decide_eq_true_eq]; omega
      have e : Lib.decDigits u = Lib.decDigits q ++ [c] := by
        rw [Lib.decDigits, dif_neg h9, Hc0.out, Hd.out, Hq.out]
      have hl : (Lib.decDigits q).length ≤ 21 := by
        have := Lib.itoa_length_le (q : Int) (by omega) (by have := Hq.out; have := Hu.out; omega)
        rwa [Lib.itoa_nonneg] at this
      have s1 : ¬ 9223372036854775807 < (tx (Lib.decDigits q)).size + 1 := by rw [tx_size]; omega
      have s2 : ¬ 9223372036854775807 ≤ (tx (Lib.decDigits q)).size := by rw [tx_size]; omega
      have w3 : wrap64 (q : Int) = (q : Int) := IntWalk.wrap64_in _ ⟨by omega, by have := Hq.out; have := Hu.out; omega⟩
      have hc := Ih.out q (by have := Hq.out; omega) (by have := Hq.out; have := Hu.out; omega)
      have Hc := Lib.hid hc
      have He := Lib.hid e
      clear e hl hc
      go_enter Tryd.func35, Tryd.ntmps35
      go_wp2_with fail
      refine (Hc.out _).mono ?_
      rintro e w3 ⟨rfl, hF⟩
      have HF := Lib.hid (Frm.trans (T := []) ((Frm.refl [] w).alloc (.cells #[.int .u8 (48 + (d : Int))] 5)) hF (by simp))
      clear hF
      go_wp2_with fail
      go_ret
      refine ⟨?_, HF.out⟩
      rw [He.out]
      show Ending.returned (Value.string (tx _ ++ tx [_])) = _
      rw [tx_append]

set_option maxHeartbeats 1000000 in
set_option maxRecDepth 100000 in
theorem dec_neg (u : Nat) : 1 ≤ u → u ≤ 9223372036854775808 → ∀ (n : Int), n = -(u : Int) → ∀ w : World, Calls Tryd.prog 35 #[.int .i64 n] w (Tells (.string (tx (45 :: Lib.decDigits u))) w) := by
  induction u using Nat.strongRecOn with
  | _ u ih =>
    intro hu1 hu n hn w
    have g1 : decide (n < 0) = true := by rw [decide_eq_true_eq]; omega
    have Hn := Lib.hid hn
    have Hu := Lib.hid hu
    have Hu1 := Lib.hid hu1
    have Ih := Lib.hid ih
    clear hn hu hu1 ih
    by_cases h9 : u < 10
    · have g2 : decide (n > -10) = true := by rw [decide_eq_true_eq]; have := Hn.out; omega
      have w1 : IntKind.i64.wrap (-n) = (u : Int) := by rw [Hn.out, Int.neg_neg]; exact IntWalk.i64_in _ (by omega)
      have hc := dec_pos u (by omega)
      have Hc := Lib.hid hc
      have hl : (Lib.decDigits u).length = 1 := by rw [Lib.decDigits_one h9]; rfl
      have s1 : ¬ 9223372036854775807 < 1 + (tx (Lib.decDigits u)).size := by rw [tx_size]; omega
      clear hc hl h9
      go_enter Tryd.func35, Tryd.ntmps35
      go_wp2_with fail
      refine (Hc.out _).mono ?_
      rintro e w3 ⟨rfl, hF⟩
      have HF := Lib.hid hF
      clear hF
      go_wp2_with fail
      go_ret
      refine ⟨?_, HF.out⟩
      show Ending.returned (Value.string (tx [_] ++ tx _)) = _
      rw [tx_append]
      rfl
    · have g2 : decide (n > -10) = false := by rw [decide_eq_false_iff_not]; have := Hn.out; omega
      obtain ⟨d, hd⟩ : ∃ d, d = u % 10 := ⟨_, rfl⟩
      obtain ⟨q, hqd⟩ : ∃ q, q = u / 10 := ⟨_, rfl⟩
      obtain ⟨m, hm⟩ : ∃ m : Int, m = -(q : Int) := ⟨_, rfl⟩
      obtain ⟨r, hrd⟩ : ∃ r : Int, r = -(d : Int) := ⟨_, rfl⟩
      have hq : Int.tdiv n 10 = m := by rw [Hn.out, hm, Int.neg_tdiv, hqd]; rfl
      have hr : Int.tmod n 10 = r := by rw [Hn.out, hrd, Int.neg_tmod, hd]; rfl
      have w1 : IntKind.i64.wrap (-r) = (d : Int) := by rw [hrd, Int.neg_neg]; exact IntWalk.i64_in _ (by omega)
      have w2 : wrap64 m = m := IntWalk.wrap64_in _ ⟨by have := Hu.out; omega, by omega⟩
      have e : Lib.decDigits u = Lib.decDigits q ++ Lib.decDigits d := by
        rw [Lib.decDigits_one (by omega : d < 10)]
        conv => lhs; rw [Lib.decDigits, dif_neg h9]
        rw [hd, hqd]
      have hl : (Lib.decDigits q).length ≤ 21 := by
        have := Lib.itoa_length_le (q : Int) (by omega) (by have := Hu.out; omega)
        rwa [Lib.itoa_nonneg] at this
      have hl2 : (Lib.decDigits d).length = 1 := by rw [Lib.decDigits_one (by omega)]; rfl
      have s1 : ¬ 9223372036854775807 < (tx (45 :: Lib.decDigits q)).size + (tx (Lib.decDigits d)).size := by rw [tx_size, tx_size, List.length_cons]; omega
      have hc := Ih.out q (by omega) (by omega) (by have := Hu.out; omega) m hm
      have hc2 := dec_pos d (by omega)
      have Hc := Lib.hid hc
      have Hc2 := Lib.hid hc2
      have He := Lib.hid e
      clear e hl hl2 hc hc2 hd hqd hm hrd h9
      go_enter Tryd.func35, Tryd.ntmps35
      go_wp2_with fail
      refine (Hc.out _).mono ?_
      rintro e w3 ⟨rfl, hF⟩
      have HF := Lib.hid hF
      clear hF
      go_wp2_with fail
      refine (Hc2.out _).mono ?_
      rintro e w4 ⟨rfl, hF⟩
      have HF2 := Lib.hid (HF.out.trans (T := []) hF (by simp))
      clear hF
      go_wp2_with fail
      go_ret
      refine ⟨?_, HF2.out⟩
      rw [He.out]
      show Ending.returned (Value.string (tx _ ++ tx _)) = _
      rw [tx_append]
      rfl
theorem dec_any (n : Int) (h : inI n) (w : World) : Calls Tryd.prog 35 #[.int .i64 n] w (Tells (.string (tx (Lib.itoa n))) w) := by
  obtain ⟨h0, h1⟩ := h
  by_cases hn : n < 0
  · have e : Lib.itoa n = 45 :: Lib.decDigits n.natAbs := by unfold Lib.itoa; rw [if_pos hn]
    rw [e]
    exact dec_neg n.natAbs (by omega) (by omega) n (by omega) w
  · obtain ⟨u, rfl⟩ : ∃ u : Nat, n = u := ⟨n.toNat, by omega⟩
    rw [Lib.itoa_nonneg]
    exact dec_pos u (by omega) w
end Go.Proofs.YtodjiicneijkkaaDoor
