/- Package code: the document's answer: lines, Print. -/
import Derived.Test.YtodjiicneijkkaaDoorCodeH
namespace Go.Proofs.YtodjiicneijkkaaDoor
open Go.RowKit Go.Maps

set_option maxHeartbeats 1000000 in
theorem rline_any (x : Ins) (hx : x.Wf) (w : World) : Calls Tryd.prog 29 #[x.val] w (Tells (.string (tx (lineL x))) w) := by
  have HX := Lib.hid hx
  have H0 := Lib.hid ((Holds.start w).alloc noneR_stable (.cells #[.int .i64 x.op, .int .i64 x.a, .int .i64 x.b, .int .i64 x.c, .int .i64 x.d] 32))
  have hks : (tx (kindsK (opK x.op))).size = manyOf x.op := by rw [tx_size, kindsK_length]; rfl
  have hm4 : manyOf x.op ≤ 4 := manyK_le (opK_lt x.op)
  clear hx
  go_enter Tryd.func29, Tryd.ntmps29
  go_wp2_with fail
  refine (rword_any x.op _).mono ?_
  rintro e w1 ⟨rfl, hF⟩
  have H1 := Lib.hid (H0.out.made noneR_stable hF)
  clear hF
  go_wp2_with fail
  go_loopw [3, 4] (fun tv iv wr => ∃ k : Nat, k ≤ manyOf x.op ∧ iv = .int .i64 (k : Int) ∧ tv = .string (tx (wordOf x.op ++ numsL x k)) ∧ Holds w.heap.size w noneR wr [(w.heap.size, .cells #[.int .i64 x.op, .int .i64 x.a, .int .i64 x.b, .int .i64 x.c, .int .i64 x.d] 32)]) (fun _ iv _ => manyOf x.op - (intOf iv).toNat)
  case atStart => exact ⟨0, by omega, rfl, by simp [numsL], H1.out⟩
  case round =>
    obtain ⟨k, hk, rfl, rfl, hh⟩ := hrel
    have H2 := Lib.hid hh
    clear hh
    obtain ⟨p0, p1, p2, p3, p4⟩ := cells5 (H2.out.box (k := w.heap.size) (o := .cells #[.int .i64 x.op, .int .i64 x.a, .int .i64 x.b, .int .i64 x.c, .int .i64 x.d] 32) (by simp))
    go_wp2_with fail
    refine (rkinds_any x.op _).mono ?_
    rintro e w2 ⟨rfl, hF⟩
    have H3 := Lib.hid (H2.out.made noneR_stable hF)
    clear hF p0 p1 p2 p3 p4
    by_cases hlt : k < manyOf x.op
    · have g : decide ((k : Int) < (manyOf x.op : Int)) = true := by rw [decide_eq_true_eq]; omega
      obtain ⟨p0, p1, p2, p3, p4⟩ := cells5 (H3.out.box (k := w.heap.size) (o := .cells #[.int .i64 x.op, .int .i64 x.a, .int .i64 x.b, .int .i64 x.c, .int .i64 x.d] 32) (by simp))
      have l1 := Lib.itoa_length_le (x.num k) (HX.out.num k).1 (HX.out.num k).2
      have l2 := numsL_length x HX.out k
      have l3 := wordK_length (opK_lt x.op)
      have s0 : (tx (wordOf x.op ++ numsL x k)).size ≤ 100 := by rw [tx_size, List.length_append]; unfold wordOf; omega
      have s1 : ¬ 9223372036854775807 < (tx (wordOf x.op ++ numsL x k)).size + 1 := by omega
      have s2 : ¬ 9223372036854775807 ≤ (tx (wordOf x.op ++ numsL x k)).size := by omega
      have s3 : ¬ 9223372036854775807 < (tx (wordOf x.op ++ numsL x k)).size + 1 + (tx (Lib.itoa (x.num k))).size := by rw [tx_size (Lib.itoa _)]; omega
      clear l1 l2 l3 s0
      go_wp2_with fail
      refine (rnum_any x k (by omega) _).mono ?_
      rintro e w3 ⟨rfl, hF⟩
      have H4 := Lib.hid (H3.out.made noneR_stable hF)
      clear hF p0 p1 p2 p3 p4
      go_wp2_with fail
      refine (dec_any (x.num k) (HX.out.num k) _).mono ?_
      rintro e w4 ⟨rfl, hF⟩
      have H5 := Lib.hid (H4.out.made noneR_stable hF)
      clear hF
      go_wp2_with fail
      go_roundw
      case rel =>
        refine ⟨k + 1, by omega, by go_num, ?_, H5.out⟩
        rw [numsL_succ]
        show Value.string ((tx _ ++ tx [32]) ++ tx _) = _
        rw [tx_append, tx_append]
        simp
      case measure => simp [intOf]; omega
    · obtain rfl : k = manyOf x.op := by omega
      go_wp2_with fail
      go_ret
      exact ⟨rfl, Frm.of_below H3.out.below (Nat.le_refl _)⟩

set_option maxHeartbeats 1000000 in
theorem rprint_any {a : Option Addr} {n c : Nat} {l : List Ins} {w : World} (hl : Ins.at_ w a n c l) (hwf : ∀ x ∈ l, x.Wf) :
    Calls Tryd.prog 19 #[.slice a n c] w (Tells (.tuple #[.string (tx (printP l).1), .int .i64 (printP l).2]) w) := by
  have hn : l.length = n := hl.1
  have HL := Lib.hid hl
  have HW := Lib.hid hwf
  have hcap := hl.2.2.1
  have hcap' := hl.2.1
  simp only [maxLen] at hcap
  have Hn := Lib.hid hn
  clear hl hwf hn
  by_cases hz : (checkP l).2 = 0
  · have e : printP l = (printL l, 0) := if_pos hz
    rw [e]
    clear e
    have h64 : n ≤ 64 := by have := checkP_len (checkP_zero hz); have := Hn.out; omega
    have hz' : ((checkP l).2 != 0) = false := by simp [hz]
    clear hz
    go_enter Tryd.func19, Tryd.ntmps19
    go_wp2_with fail
    refine (rcheck_any HL.out).mono ?_
    rintro e w1 ⟨rfl, hF1⟩
    have HF1 := Lib.hid hF1
    clear hF1
    go_wp2_with fail
    go_loopw [6, 7] (fun tv iv wr => ∃ k : Nat, k ≤ n ∧ iv = .int .i64 (k : Int) ∧ tv = .string (tx (printL (l.take k))) ∧ Frm [] w wr) (fun _ iv _ => n - (intOf iv).toNat)
    case atStart => exact ⟨0, by omega, rfl, rfl, HF1.out⟩
    case round =>
      obtain ⟨k, hk, rfl, rfl, hF⟩ := hrel
      have HF := Lib.hid hF
      clear hF
      by_cases hlt : k < n
      · obtain ⟨b, off, x, rfl, hbl, hx, p0, p1, p2, p3, p4⟩ := insAt (SlAt.frm HL.out HF.out) hlt
        have hxw := HW.out x (List.mem_of_getElem? hx)
        have Hs := Lib.hid (printL_succ hx)
        have Hxw := Lib.hid hxw
        have h1 := printL_length (l.take k) (fun y hy => HW.out y (List.mem_of_mem_take hy))
        have h2 := lineL_length x hxw
        have h3 : (l.take k).length ≤ k := by rw [List.length_take]; omega
        have s1 : ¬ 9223372036854775807 < (tx (printL (l.take k))).size + (tx (lineL x)).size := by rw [tx_size, tx_size]; omega
        have s2 : ¬ 9223372036854775807 < (tx (printL (l.take k))).size + (tx (lineL x)).size + 1 := by rw [tx_size, tx_size]; omega
        have s3 : ¬ 9223372036854775807 ≤ (tx (printL (l.take k))).size + (tx (lineL x)).size := by rw [tx_size, tx_size]; omega
        clear hx hxw h1 h2 h3
        go_wp2_with fail
        refine (rline_any x Hxw.out _).mono ?_
        rintro e w2 ⟨rfl, hF2⟩
        have HF2 := Lib.hid (HF.out.trans (T := []) hF2 (by simp))
        clear hF2 p0 p1 p2 p3 p4
        go_wp2_with fail
        go_roundw
        case rel =>
          refine ⟨k + 1, by omega, by go_num, ?_, HF2.out⟩
          rw [Hs.out]
          show Value.string ((tx _ ++ tx _) ++ tx [10]) = _
          rw [tx_append, tx_append]
          simp
        case measure => simp [intOf]; omega
      · obtain rfl : k = n := by omega
        have hd : l.take k = l := List.take_of_length_le (by have := Hn.out; omega)
        have Hd := Lib.hid hd
        clear hd
        go_wp2_with fail
        go_ret2
        refine ⟨?_, HF.out⟩
        rw [Hd.out]
        rfl
  · have e : printP l = ([], (checkP l).2) := if_neg hz
    rw [e]
    clear e
    have hz' : ((checkP l).2 != 0) = true := by simp [hz]
    clear hz
    go_enter Tryd.func19, Tryd.ntmps19
    go_wp2_with fail
    refine (rcheck_any HL.out).mono ?_
    rintro e w1 ⟨rfl, hF1⟩
    have HF1 := Lib.hid hF1
    clear hF1
    go_wp2_with fail
    go_ret2
    exact ⟨rfl, HF1.out⟩
end Go.Proofs.YtodjiicneijkkaaDoor
