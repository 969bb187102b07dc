/- Package code: the document's answer: Check; a program as the document has it. -/
import Derived.Test.YtbkadfdpboghiaaDoorCodeE
import Derived.Deep.RegionLaw
import Derived.Deep.RegionHeld3
namespace Go.Proofs.YtbkadfdpboghiaaDoor
open Go.RowKit Go.Maps

set_option maxHeartbeats 1000000 in
theorem rcheck_any {a : Option Addr} {n c : Nat} {l : List Ins} {w : World} (hl : Ins.at_ w a n c l) : Calls Tryd.prog 28 #[.slice a n c] w (Tells (.tuple #[.int .i64 (checkP l).1, .int .i64 (checkP l).2]) w) := by
  have hn : l.length = n := hl.1
  have HL := Lib.hid hl
  have hcap := hl.2.2.1
  have hcap' := hl.2.1
  simp only [maxLen] at hcap
  clear hl
  by_cases h64 : 64 < n
  · have g1 : decide ((n : Int) > 64) = true := by rw [decide_eq_true_eq]; omega
    have e : checkP l = (0, 11) := if_pos (by omega)
    rw [e]
    clear e hn
    go_enter Tryd.func28, Tryd.ntmps28
    go_wp2_with fail
    go_ret2
    exact ⟨rfl, Frm.refl _ _⟩
  · have g1 : decide ((n : Int) > 64) = false := by rw [decide_eq_false_iff_not]; omega
    have e : checkP l = firstBad n 0 l := by unfold checkP; rw [if_neg (by omega), hn]
    rw [e]
    clear e
    have Hn := Lib.hid hn
    clear hn
    go_enter Tryd.func28, Tryd.ntmps28
    go_wp2_with fail
    go_loopw [4] (fun iv wr => ∃ k : Nat, k ≤ n ∧ iv = .int .i64 (k : Int) ∧ firstBad n 0 l = firstBad n k (l.drop k) ∧ Frm [] w wr) (fun iv _ => n - (intOf iv).toNat)
    case atStart => exact ⟨0, by omega, rfl, by simp, Frm.refl _ _⟩
    case round =>
      obtain ⟨k, hk, rfl, hb, hF⟩ := hrel
      have HF := Lib.hid hF
      have Hb := Lib.hid hb
      clear hF hb
      by_cases hlt : k < n
      · obtain ⟨b, off, x, rfl, hbl, hx, p0, p1, p2, p3, p4⟩ := insAt (SlAt.frm HL.out HF.out) hlt
        have Hx := Lib.hid hx
        clear hx
        go_wp2_with fail
        refine (rmay_any x n _).mono ?_
        rintro e w1 ⟨rfl, hF1⟩
        have HF1 := Lib.hid (HF.out.trans (T := []) hF1 (by simp))
        clear hF1 p0 p1 p2 p3 p4
        by_cases hm : mayE x n = 0
        · have hm' : (mayE x n != 0) = false := by simp [hm]
          go_wp2_with fail
          go_roundw
          case rel => exact ⟨k + 1, by omega, by go_num, by rw [Hb.out]; have := firstBad_step (k := 0) (many := n) Hx.out hm; simpa using this, HF1.out⟩
          case measure => simp [intOf]; omega
        · have hm' : (mayE x n != 0) = true := by simp [hm]
          have hw : IntKind.i64.wrap ((k : Int) + 1) = (k : Int) + 1 := IntWalk.i64_in _ (by omega)
          go_wp2_with fail
          go_ret2
          have := firstBad_hit (k := 0) (many := n) Hx.out hm
          rw [Nat.zero_add] at this
          rw [Hb.out, this]
          exact ⟨rfl, HF1.out⟩
      · obtain rfl : k = n := by omega
        have hd : l.drop k = [] := List.drop_eq_nil_of_le (by have := Hn.out; omega)
        have Hd := Lib.hid hd
        clear hd
        go_wp2_with fail
        go_ret2
        rw [Hb.out, Hd.out]
        exact ⟨rfl, HF.out⟩

theorem infoRInstr : (Tryd.prog.info? 88).map (fun i => (i.zero, i.size, i.bytes)) = some (some (.agg #[.int .i64 0, .int .i64 0, .int .i64 0, .int .i64 0, .int .i64 0]), 5, 40) := by kernel_rfl
def PlainRel (w : World) (l : List Ins) (ov iv : Value) (wr : World) : Prop :=
  ∃ (k : Nat) (a : Option Addr) (c : Nat), k ≤ l.length ∧ iv = .int .i64 (k : Int) ∧ ov = .slice a k c ∧ Holds w.heap.size w (sepR (rowR 88 5 (.slice a k c) k (flat Ins.enc (l.take k))) noneR) wr []
set_option maxHeartbeats 2000000 in
theorem plain_any {a : Option Addr} {n c : Nat} {l : List Ins} {w : World} (hl : Ins.at_ w a n c l) (hn80 : n ≤ 80) : Calls Tryd.prog 24 #[.slice a n c] w fun e w' =>
    ∃ a' c', e = .returned (.slice a' n c') ∧ Holds w.heap.size w (sepR (rowR 88 5 (.slice a' n c') n (flat Ins.enc l)) noneR) w' [] := by
  have hn : l.length = n := hl.1
  have HL := Lib.hid hl
  have hcap := hl.2.2.1
  have hcap' := hl.2.1
  simp only [maxLen] at hcap
  have Hn := Lib.hid hn
  clear hl hn
  have H0 := Lib.hid ((Holds.start w).nilRow 88 5)
  obtain ⟨i0, hi0, hi1, hi2, hi3⟩ := info_parts infoRInstr
  have Hi := Lib.hid (And.intro hi0 (And.intro hi1 (And.intro hi2 hi3)))
  clear hi0 hi1 hi2 hi3
  go_enter Tryd.func24, Tryd.ntmps24
  go_wp2_with fail
  go_loopw [3, 4] (fun ov iv wr => PlainRel w l ov iv wr) (fun _ iv _ => n - (intOf iv).toNat)
  case atStart => exact ⟨0, none, 0, Nat.zero_le _, rfl, rfl, H0.out⟩
  case round =>
    obtain ⟨k, a1, c1, hk, rfl, rfl, hh⟩ := hrel
    have hkn : k ≤ n := by have := Hn.out; omega
    have HH := Lib.hid hh
    clear hh hk
    by_cases hlt : k < n
    · obtain ⟨b, off, x, rfl, hbl, hx, q0, q1, q2, q3, q4⟩ := insAt HL.out hlt
      have hkeep : ∀ (R : World → List Nat → Prop) (W : World) (L : List (Nat × Obj)), Holds w.heap.size w R W L → W.cell? ⟨b, off + k * 5, none⟩ = some (.int .i64 x.op) ∧ W.cell? ⟨b, off + k * 5 + 1, none⟩ = some (.int .i64 x.a) ∧ W.cell? ⟨b, off + k * 5 + 2, none⟩ = some (.int .i64 x.b) ∧ W.cell? ⟨b, off + k * 5 + 3, none⟩ = some (.int .i64 x.c) ∧ W.cell? ⟨b, off + k * 5 + 4, none⟩ = some (.int .i64 x.d) := fun _ _ _ h =>
        ⟨(h.oldCell hbl).trans q0, (h.oldCell hbl).trans q1, (h.oldCell hbl).trans q2, (h.oldCell hbl).trans q3, (h.oldCell hbl).trans q4⟩
      obtain ⟨p0, p1, p2, p3, p4⟩ := hkeep _ _ _ HH.out
      have z0 := World.block_lt_of_cell? _ _ p0
      dsimp only at z0
      have Hx := Lib.hid hx
      have hst : Stable (sepR (rowR 88 5 (.slice a1 k c1) k (flat Ins.enc (l.take k))) noneR) := sepR_stable (rowR_stable _ _ _ _ _) noneR_stable
      have h6 := (HH.out.drew hst).alloc hst (.cells #[.int .i64 x.op, .int .i64 x.a, .int .i64 x.b, .int .i64 x.c, .int .i64 x.d] 88)
      have H6 := Lib.hid h6
      have HK := Lib.hid hkeep
      clear hx h6 hst q0 q1 q2 q3 q4 hkeep
      go_wp2_with fail
      go_region_held3 (fun w' => w'.cell? ⟨b, off + k * 5, none⟩ = some (.int .i64 x.op) ∧ w'.cell? ⟨b, off + k * 5 + 1, none⟩ = some (.int .i64 x.a) ∧ w'.cell? ⟨b, off + k * 5 + 2, none⟩ = some (.int .i64 x.b) ∧ w'.cell? ⟨b, off + k * 5 + 3, none⟩ = some (.int .i64 x.c) ∧ w'.cell? ⟨b, off + k * 5 + 4, none⟩ = some (.int .i64 x.d))
        (first | exact ⟨p0, p1, p2, p3, p4⟩ | exact HK.out _ _ _ H6.out | exact HK.out _ _ _ H7.out)
        ((refine step_append_foot rfl (.tmp 11) (.tmp 38) 54 rfl 88 i0 (.agg #[.int .i64 0, .int .i64 0, .int .i64 0, .int .i64 0, .int .i64 0]) 5 40 Tryd.underlying54 Hi.out.1 Hi.out.2.1 Hi.out.2.2.1 Hi.out.2.2.2 rfl (by decide) (.slice a1 k c1) k (flat Ins.enc (l.take k)) rfl H6.out.row ⟨wr.heap.size, 0, none⟩ 1 1 x.enc rfl rfl (cells_new _ _ _) (Ins.enc_one x) (by unfold maxLen; omega) (by omega) ?_; intro a3 c3 w3 hown hF hnew; have H7 := Lib.hid (H6.out.appended noneR_stable hown hF hnew); clear hown hF hnew))
      all_goals go_wp2_with fail
      all_goals
        go_roundw
        case rel =>
          refine ⟨k + 1, a3, c3, by have := Hn.out; omega, by go_num, rfl, ?_⟩
          rw [List.take_add_one, Hx.out, Option.toList_some, flat_append, flat_single]
          exact H7.out.sub (by simp)
        case measure => simp [intOf]; omega
    · obtain rfl : k = n := by omega
      go_wp2_with fail
      go_ret
      refine ⟨a1, c1, rfl, ?_⟩
      have := HH.out
      rwa [List.take_of_length_le (by have := Hn.out; omega)] at this
end Go.Proofs.YtbkadfdpboghiaaDoor
