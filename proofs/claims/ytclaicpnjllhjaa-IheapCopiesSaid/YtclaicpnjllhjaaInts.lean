/- Two lists of numbers are compared. -/
import Derived.Test.YtclaicpnjllhjaaKvA
import Derived.Test.YtclaicpnjllhjaaRow
import Derived.Deep.QuietTactic
import Derived.BigQuiet
namespace Go.Proofs.Ytclaicpnjllhjaa
open Go.RowKit

set_option maxHeartbeats 1000000 in
theorem ints_any (w : World) (a1 : Option Addr) (n1 c1 : Nat) (l : List Int) (a2 : Option Addr) (n2 c2 : Nat) (m : List Int) (hl : SlAt intEnc 1 w a1 n1 c1 l) (hm : SlAt intEnc 1 w a2 n2 c2 m) (hn : n1 ≤ 1000) :
    Calls Try.prog 22 #[.slice a1 n1 c1, .slice a2 n2 c2] w (Says (.bool (decide (l = m))) w) := by
  have hl1 := hl.1
  have hm1 := hm.1
  have Hl := Lib.hid hl
  have Hm := Lib.hid hm
  clear hl hm
  by_cases hne : n1 = n2
  · subst hne
    have Hl1 := Lib.hid hl1
    have Hm1 := Lib.hid hm1
    clear hl1 hm1
    go_enter Try.func22, Try.ntmps22
    go_wp2
    go_loopw [5] (fun iv wr => ∃ k : Nat, k ≤ n1 ∧ iv = .int .i64 (k : Int) ∧ (∀ (i : Nat) (a b : Int), i < k → l[i]? = some a → m[i]? = some b → a = b) ∧ Frm [] w wr) (fun iv _ => n1 - (intOf iv).toNat)
    case atStart => exact ⟨0, Nat.zero_le _, rfl, fun i _ _ h => absurd h (Nat.not_lt_zero _), Frm.refl _ _⟩
    case round =>
      obtain ⟨k, hk, rfl, hsame, hF⟩ := hrel
      have HF := Lib.hid hF
      have Hsame := Lib.hid hsame
      clear hF hsame
      by_cases hlt : k < n1
      · obtain ⟨b1, o1, x, rfl, hb1, hx, p0⟩ := (Hl.out.frm HF.out).intAt hlt
        obtain ⟨b2, o2, y, rfl, hb2, hy, q0⟩ := (Hm.out.frm HF.out).intAt hlt
        have hc1 := Hl.out.2.1
        have hc2 := Hm.out.2.1
        have Hx := Lib.hid hx
        have Hy := Lib.hid hy
        clear hx hy
        by_cases hxy : x = y
        · subst hxy
          have hd : (x != x) = false := by simp
          go_wp2_with fail
          go_quiet (fail)
          go_wp2_with fail
          go_roundw
          case rel =>
            refine ⟨k + 1, by omega, by go_num, fun i a b hi ha hb => ?_, HF.out.drewN _⟩
            by_cases hik : i = k
            · subst hik
              rw [Hx.out] at ha
              rw [Hy.out] at hb
              cases ha
              cases hb
              rfl
            · exact Hsame.out i a b (by omega) ha hb
          case measure => simp [intOf]; omega
        · have hd : (x != y) = true := by simpa using hxy
          have hr : decide (l = m) = false := by
            rw [decide_eq_false_iff_not]
            intro e
            subst e
            have h1 := Hx.out
            rw [Hy.out] at h1
            exact hxy (Option.some.inj h1).symm
          have Hr := Lib.hid hr
          clear hr hxy
          go_wp2_with fail
          go_quiet (fail)
          go_wp2_with fail
          go_ret
          exact ⟨by rw [Hr.out]; rfl, HF.out.drewN _⟩
      · obtain rfl : k = n1 := by omega
        have hr : decide (l = m) = true := by
          rw [decide_eq_true_eq]
          refine list_ext (by rw [Hl1.out, Hm1.out]) fun i a b ha hb => ?_
          exact Hsame.out i a b (by have := (List.getElem?_eq_some_iff.1 ha).1; rw [Hl1.out] at this; exact this) ha hb
        have Hr := Lib.hid hr
        clear hr
        go_wp2_with fail
        go_ret
        exact ⟨by rw [Hr.out]; rfl, HF.out⟩
  · have hr : decide (l = m) = false := by
      rw [decide_eq_false_iff_not]
      intro e
      subst e
      omega
    rw [hr]
    have hd : ((n1 : Int) != (n2 : Int)) = true := by simp; omega
    have hd' : (n1 != n2) = true := by simpa using hne
    clear hr hl1 hm1 hne
    go_enter Try.func22, Try.ntmps22
    go_wp2
    go_ret
    exact ⟨rfl, Frm.refl _ _⟩
end Go.Proofs.Ytclaicpnjllhjaa
