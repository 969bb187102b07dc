/- Package code, as package model calls it: Check. -/
import Derived.Test.YtbkadfdpboghiaaDoorVmM
namespace Go.Proofs.YtbkadfdpboghiaaDoor
open Go.RowKit Go.Maps

/-- The first instruction that may not be, from the k-th on (k: how many were before). -/
def firstBad (many : Int) : Nat → List Ins → Int × Int
  | _, [] => (0, 0)
  | k, x :: l => if mayE x many = 0 then firstBad many (k + 1) l else ((k : Int) + 1, mayE x many)
def checkP (p : List Ins) : Int × Int := if 64 < p.length then (0, 11) else firstBad p.length 0 p
theorem firstBad_step {many : Int} {l : List Ins} {k j : Nat} {x : Ins} (hx : l[j]? = some x) (h0 : mayE x many = 0) : firstBad many (k + j) (l.drop j) = firstBad many (k + (j + 1)) (l.drop (j + 1)) := by
  rw [List.drop_eq_getElem_cons (List.getElem?_eq_some_iff.1 hx).1, (List.getElem?_eq_some_iff.1 hx).2, firstBad, if_pos h0]; rfl
theorem firstBad_hit {many : Int} {l : List Ins} {k j : Nat} {x : Ins} (hx : l[j]? = some x) (h0 : mayE x many ≠ 0) : firstBad many (k + j) (l.drop j) = (((k + j : Nat) : Int) + 1, mayE x many) := by
  rw [List.drop_eq_getElem_cons (List.getElem?_eq_some_iff.1 hx).1, (List.getElem?_eq_some_iff.1 hx).2, firstBad, if_neg h0]
set_option maxHeartbeats 1000000 in
theorem check_any {a : Option Addr} {n c : Nat} {l : List Ins} {w : World} (hO : Ops w) (hl : Ins.at_ w a n c l) : Calls Tryd.prog 43 #[.slice a n c] w (Tells (.tuple #[.int .i64 (checkP l).1, .int .i64 (checkP l).2]) w) := by
  have hn : l.length = n := hl.1
  have HO := Lib.hid hO
  have HL := Lib.hid hl
  have hcap := hl.2.2.1
  have hcap' := hl.2.1
  simp only [maxLen] at hcap
  clear hO hl
  by_cases h64 : 64 < n
  · have g1 : decide ((n : Int) > 64) = true := by rw [decide_eq_true_eq]; omega
    have e : checkP l = (0, 11) := if_pos (by omega)
    rw [e]
    clear e hn
    go_enter Tryd.func43, Tryd.ntmps43
    go_wp2_with fail
    go_ret2
    exact ⟨rfl, Frm.refl _ _⟩
  · have g1 : decide ((n : Int) > 64) = false := by rw [decide_eq_false_iff_not]; omega
    have e : checkP l = firstBad n 0 l := by unfold checkP; rw [if_neg (by omega), hn]
    rw [e]
    clear e
    have Hn := Lib.hid hn
    clear hn
    go_enter Tryd.func43, Tryd.ntmps43
    go_wp2_with fail
    go_loopw [12] (fun iv wr => ∃ k : Nat, k ≤ n ∧ iv = .int .i64 (k : Int) ∧ firstBad n 0 l = firstBad n k (l.drop k) ∧ Frm [] w wr) (fun iv _ => n - (intOf iv).toNat)
    case atStart => exact ⟨0, by omega, rfl, by simp, Frm.refl _ _⟩
    case round =>
      obtain ⟨k, hk, rfl, hb, hF⟩ := hrel
      have HF := Lib.hid hF
      have Hb := Lib.hid hb
      clear hF hb
      by_cases hlt : k < n
      · obtain ⟨b, off, x, rfl, hbl, hx, p0, p1, p2, p3, p4⟩ := insAt (SlAt.frm HL.out HF.out) hlt
        have Hx := Lib.hid hx
        clear hx
        have H0 := Lib.hid ((Holds.start wr).alloc noneR_stable (.cells #[.int .i64 x.op, .int .i64 x.a, .int .i64 x.b, .int .i64 x.c, .int .i64 x.d] 58))
        go_wp2_with fail
        refine (may_any x n (HO.out.frm (HF.out.alloc _))).mono ?_
        rintro e w1 ⟨rfl, hF1⟩
        have HF1 := Lib.hid ((HF.out.alloc _).trans (T := []) hF1 (by simp))
        clear hF1 p0 p1 p2 p3 p4
        by_cases hm : mayE x n = 0
        · have hm' : (mayE x n == 0) = true := by rw [beq_iff_eq]; exact hm
          go_wp2_with fail
          go_roundw
          case rel => exact ⟨k + 1, by omega, by go_num, by rw [Hb.out]; have := firstBad_step (k := 0) (many := n) Hx.out hm; simpa using this, HF1.out⟩
          case measure => simp [intOf]; omega
        · have hm' : (mayE x n == 0) = false := by rw [beq_eq_false_iff_ne]; exact hm
          have hw : IntKind.i64.wrap ((k : Int) + 1) = (k : Int) + 1 := IntWalk.i64_in _ (by omega)
          go_wp2_with fail
          go_ret2
          have := firstBad_hit (k := 0) (many := n) Hx.out hm
          rw [Nat.zero_add] at this
          rw [Hb.out, this]
          exact ⟨rfl, HF1.out⟩
      · obtain rfl : k = n := by omega
        have hd : l.drop k = [] := List.drop_eq_nil_of_le (by have := Hn.out; omega)
        have Hd := Lib.hid hd
        clear hd
        go_wp2_with fail
        go_ret2
        rw [Hb.out, Hd.out]
        exact ⟨rfl, HF.out⟩
end Go.Proofs.YtbkadfdpboghiaaDoor
