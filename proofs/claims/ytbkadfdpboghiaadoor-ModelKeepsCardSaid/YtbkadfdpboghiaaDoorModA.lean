/- Package model: its small calls: has, within, room, first, written, known, timely. -/
import Derived.Test.YtbkadfdpboghiaaDoorModP
namespace Go.Proofs.YtbkadfdpboghiaaDoor
open Go.RowKit Go.Maps

set_option maxHeartbeats 400000 in
theorem has_any (n i : Int) (w : World) : Calls Tryd.prog 40 #[.int .i64 n, .int .i64 i] w (Reads (.bool (hasB n i)) w) := by
  by_cases h : 0 ≤ i
  · have e : hasB n i = decide (i < n) := by unfold hasB; rw [decide_eq_true h, Bool.true_and]
    rw [e]
    have g1 : decide (i ≥ 0) = true := by rw [decide_eq_true_eq]; omega
    clear e
    go_enter Tryd.func40, Tryd.ntmps40
    go_wp2_with fail
    go_ret
    exact ⟨rfl, rfl⟩
  · have e : hasB n i = false := by unfold hasB; rw [decide_eq_false h, Bool.false_and]
    rw [e]
    have g1 : decide (i ≥ 0) = false := by rw [decide_eq_false_iff_not]; omega
    clear e
    go_enter Tryd.func40, Tryd.ntmps40
    go_wp2_with fail
    go_ret
    exact ⟨rfl, rfl⟩

set_option maxHeartbeats 400000 in
theorem within_any (n a b : Int) (w : World) : Calls Tryd.prog 33 #[.int .i64 n, .int .i64 a, .int .i64 b] w (Reads (.int .i64 (withinE n a b)) w) := by
  by_cases h : n < a
  · have e : withinE n a b = 10 := if_pos (.inl h)
    rw [e]
    have g1 : decide (n < a) = true := by rw [decide_eq_true_eq]; omega
    clear e
    go_enter Tryd.func33, Tryd.ntmps33
    go_wp2_with fail
    go_ret
    exact ⟨rfl, rfl⟩
  · have g1 : decide (n < a) = false := by rw [decide_eq_false_iff_not]; omega
    by_cases h' : n > b
    · have e : withinE n a b = 10 := if_pos (.inr h')
      rw [e]
      have g2 : decide (n > b) = true := by rw [decide_eq_true_eq]; omega
      clear e
      go_enter Tryd.func33, Tryd.ntmps33
      go_wp2_with fail
      go_ret
      exact ⟨rfl, rfl⟩
    · have e : withinE n a b = 0 := if_neg (by omega)
      rw [e]
      have g2 : decide (n > b) = false := by rw [decide_eq_false_iff_not]; omega
      clear e
      go_enter Tryd.func33, Tryd.ntmps33
      go_wp2_with fail
      go_ret
      exact ⟨rfl, rfl⟩

set_option maxHeartbeats 400000 in
theorem room_any (a : Option Addr) (n c : Nat) (w : World) : Calls Tryd.prog 34 #[.slice a n c] w (Reads (.int .i64 (roomE n)) w) := by
  by_cases h : 256 < n
  · have e : roomE n = 11 := if_pos h
    rw [e]
    have g1 : decide ((n : Int) > 256) = true := by rw [decide_eq_true_eq]; omega
    clear e
    go_enter Tryd.func34, Tryd.ntmps34
    go_wp2_with fail
    go_ret
    exact ⟨rfl, rfl⟩
  · have e : roomE n = 0 := if_neg h
    rw [e]
    have g1 : decide ((n : Int) > 256) = false := by rw [decide_eq_false_iff_not]; omega
    clear e
    go_enter Tryd.func34, Tryd.ntmps34
    go_wp2_with fail
    go_ret
    exact ⟨rfl, rfl⟩

set_option maxHeartbeats 1000000 in
theorem first_any {a : Option Addr} {n c : Nat} {es : List Int} {w : World} (hl : SlAt intEnc 1 w a n c es) : Calls Tryd.prog 32 #[.slice a n c] w (Reads (.int .i64 (firstE es)) w) := by
  have hn : es.length = n := hl.1
  have HL := Lib.hid hl
  have hcap := hl.2.2.1
  have hcap' := hl.2.1
  simp only [maxLen] at hcap
  have Hn := Lib.hid hn
  clear hl hn
  go_enter Tryd.func32, Tryd.ntmps32
  go_wp2_with fail
  go_loopw [7] (fun iv wr => ∃ k : Nat, k ≤ n ∧ iv = .int .i64 (k : Int) ∧ firstE es = firstE (es.drop k) ∧ wr = w) (fun iv _ => n - (intOf iv).toNat)
  case atStart => exact ⟨0, by omega, rfl, by simp, rfl⟩
  case round =>
    obtain ⟨k, hk, rfl, hb, rfl⟩ := hrel
    have Hb := Lib.hid hb
    clear hb
    by_cases hlt : k < n
    · obtain ⟨b, off, x, rfl, hbl, hx, p0⟩ := HL.out.intAt hlt
      have Hx := Lib.hid hx
      clear hx
      by_cases hm : x = 0
      · have hm' : (x == 0) = true := by rw [beq_iff_eq]; exact hm
        have Hm := Lib.hid hm
        clear hm
        go_wp2_with fail
        go_roundw
        case rel => exact ⟨k + 1, by omega, by go_num, by rw [Hb.out]; exact firstE_step Hx.out Hm.out, by first | rfl | trivial⟩
        case measure => simp [intOf]; omega
      · have hm' : (x == 0) = false := by rw [beq_eq_false_iff_ne]; exact hm
        have Hm := Lib.hid hm
        clear hm
        go_wp2_with fail
        go_ret
        rw [Hb.out, firstE_hit Hx.out Hm.out]
        exact ⟨rfl, rfl⟩
    · obtain rfl : k = n := by omega
      have hd : es.drop k = [] := List.drop_eq_nil_of_le (by have := Hn.out; omega)
      have Hd := Lib.hid hd
      clear hd
      go_wp2_with fail
      go_ret
      rw [Hb.out, Hd.out]
      exact ⟨rfl, rfl⟩

theorem SlAt.pgAt {w : World} {a : Option Addr} {n c : Nat} {l : List Pg} (h : SlAt Pg.enc 1 w a n c l) {i : Nat} (hi : i < n) : ∃ b off x, a = some ⟨b, off, none⟩ ∧ b < w.heap.size ∧ l[i]? = some x ∧ w.cell? ⟨b, off + i, none⟩ = some (.slice x.a x.n x.c) := by
  obtain ⟨b, off, x, h1, h2, h3, h4⟩ := h.at_ hi
  have := h4 0 (.slice x.a x.n x.c) rfl
  rw [Nat.mul_one, Nat.add_zero] at this
  exact ⟨b, off, x, h1, h2, h3, this⟩
theorem SlAt.plAt {w : World} {a : Option Addr} {n c : Nat} {l : List Pl} (h : SlAt Pl.enc 5 w a n c l) {i : Nat} (hi : i < n) : ∃ b off x, a = some ⟨b, off, none⟩ ∧ b < w.heap.size ∧ l[i]? = some x ∧
    w.cell? ⟨b, off + i * 5, none⟩ = some (.int .i64 x.pr) ∧ w.cell? ⟨b, off + i * 5 + 1, none⟩ = some (.int .i64 x.f0) ∧ w.cell? ⟨b, off + i * 5 + 2, none⟩ = some (.int .i64 x.f1) ∧ w.cell? ⟨b, off + i * 5 + 3, none⟩ = some (.int .i64 x.f2) ∧ w.cell? ⟨b, off + i * 5 + 4, none⟩ = some (.int .i64 x.f3) := by
  obtain ⟨b, off, x, h1, h2, h3, h4⟩ := h.at_ hi
  exact ⟨b, off, x, h1, h2, h3, h4 0 _ rfl, h4 1 _ rfl, h4 2 _ rfl, h4 3 _ rfl, h4 4 _ rfl⟩
theorem SlAt.stAt {w : World} {a : Option Addr} {n c : Nat} {l : List St} (h : SlAt St.enc 4 w a n c l) {i : Nat} (hi : i < n) : ∃ b off x, a = some ⟨b, off, none⟩ ∧ b < w.heap.size ∧ l[i]? = some x ∧
    w.cell? ⟨b, off + i * 4, none⟩ = some (.int .i64 x.dst) ∧ w.cell? ⟨b, off + i * 4 + 1, none⟩ = some (.int .i64 x.at_) ∧ w.cell? ⟨b, off + i * 4 + 2, none⟩ = some (.int .i64 x.kind) ∧ w.cell? ⟨b, off + i * 4 + 3, none⟩ = some (.int .i64 x.data) := by
  obtain ⟨b, off, x, h1, h2, h3, h4⟩ := h.at_ hi
  exact ⟨b, off, x, h1, h2, h3, h4 0 _ rfl, h4 1 _ rfl, h4 2 _ rfl, h4 3 _ rfl⟩

set_option maxHeartbeats 1000000 in
theorem written_any {a : Option Addr} {n c : Nat} {l : List Pg} {w : World} (hO : Ops w) (hl : SlAt Pg.enc 1 w a n c l) (hi : ∀ p ∈ l, Ins.at_ w p.a p.n p.c p.l) : Calls Tryd.prog 35 #[.slice a n c] w (Tells (.int .i64 (writtenE l)) w) := by
  have hn : l.length = n := hl.1
  have HO := Lib.hid hO
  have HL := Lib.hid hl
  have HI := Lib.hid hi
  have hcap := hl.2.2.1
  have hcap' := hl.2.1
  simp only [maxLen] at hcap
  have Hn := Lib.hid hn
  clear hO hl hn hi
  go_enter Tryd.func35, Tryd.ntmps35
  go_wp2_with fail
  go_loopw [9] (fun iv wr => ∃ k : Nat, k ≤ n ∧ iv = .int .i64 (k : Int) ∧ writtenE l = firstE ((l.map fun p => (checkP p.l).2).drop k) ∧ Frm [] w wr) (fun iv _ => n - (intOf iv).toNat)
  case atStart => exact ⟨0, by omega, rfl, by simp [writtenE], Frm.refl _ _⟩
  case round =>
    obtain ⟨k, hk, rfl, hb, hF⟩ := hrel
    have Hb := Lib.hid hb
    have HF := Lib.hid hF
    clear hb hF
    by_cases hlt : k < n
    · obtain ⟨b, off, x, rfl, hbl, hx, p0⟩ := (SlAt.frm HL.out HF.out).pgAt hlt
      have hxi := SlAt.frm (HI.out x (List.mem_of_getElem? hx)) HF.out
      have Hxi := Lib.hid hxi
      have Hx := Lib.hid (show (l.map fun p => (checkP p.l).2)[k]? = some (checkP x.l).2 by rw [List.getElem?_map, hx]; rfl)
      clear hx hxi
      go_wp2_with fail
      refine (check_any (HO.out.frm HF.out) Hxi.out).mono ?_
      rintro e w1 ⟨rfl, hF1⟩
      have HF1 := Lib.hid (HF.out.trans (T := []) hF1 (by simp))
      clear hF1 p0 Hxi
      by_cases hm : (checkP x.l).2 = 0
      · have hm' : ((checkP x.l).2 == 0) = true := by rw [beq_iff_eq]; exact hm
        have Hm := Lib.hid hm
        clear hm
        go_wp2_with fail
        go_roundw
        case rel => exact ⟨k + 1, by omega, by go_num, by rw [Hb.out]; exact firstE_step Hx.out Hm.out, HF1.out⟩
        case measure => simp [intOf]; omega
      · have hm' : ((checkP x.l).2 == 0) = false := by rw [beq_eq_false_iff_ne]; exact hm
        have Hm := Lib.hid hm
        clear hm
        go_wp2_with fail
        go_ret
        rw [Hb.out, firstE_hit Hx.out Hm.out]
        exact ⟨rfl, HF1.out⟩
    · obtain rfl : k = n := by omega
      have hd : (l.map fun p => (checkP p.l).2).drop k = [] := List.drop_eq_nil_of_le (by rw [List.length_map]; have := Hn.out; omega)
      have Hd := Lib.hid hd
      clear hd
      go_wp2_with fail
      go_ret
      rw [Hb.out, Hd.out]
      exact ⟨rfl, HF.out⟩
end Go.Proofs.YtbkadfdpboghiaaDoor
