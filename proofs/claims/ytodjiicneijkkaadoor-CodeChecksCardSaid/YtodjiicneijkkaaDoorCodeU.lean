/- Package code: Parse: the program that a text is. -/
import Derived.Test.YtodjiicneijkkaaDoorCodeS
namespace Go.Proofs.YtodjiicneijkkaaDoor
open Go.RowKit Go.Maps

theorem info_parts {t : TypeId} {z : Value} {s n : Nat} (h : (Tryd.prog.info? t).map (fun i => (i.zero, i.size, i.bytes)) = some (some z, s, n)) : ∃ i, Tryd.prog.info? t = some i ∧ i.zero = some z ∧ i.size = s ∧ i.bytes = n := by
  cases hi : Tryd.prog.info? t with
  | none => rw [hi] at h; cases h
  | some i =>
    rw [hi] at h
    simp at h
    exact ⟨i, rfl, h.1, h.2.1, h.2.2⟩
theorem infoInstr : (Tryd.prog.info? 23).map (fun i => (i.zero, i.size, i.bytes)) = some (some (.agg #[.int .i64 0, .int .i64 0, .int .i64 0, .int .i64 0, .int .i64 0]), 5, 40) := by kernel_rfl
theorem Ins.enc_len (x : Ins) : x.enc.length = 5 := rfl
theorem Ins.enc_one (x : Ins) : ∀ u ∈ x.enc, u.oneCell' = true := by intro u hu; simp [Ins.enc] at hu; rcases hu with rfl | rfl | rfl | rfl | rfl <;> rfl

def parseGo (many : Int) : Nat → List Ins → Bs → List Ins × Int × Int
  | 0, _, _ => ([], 0, 0)
  | f + 1, p, s => if s = [] then (p, 0, 0) else
    if (if (Lib.cut s [10]).2.2 = true then (rdLine (Lib.cut s [10]).1 many).2 else 15) = 0 then parseGo many f (p ++ [(rdLine (Lib.cut s [10]).1 many).1]) (Lib.cut s [10]).2.1
    else ([], (p.length : Int) + 1, if (Lib.cut s [10]).2.2 = true then (rdLine (Lib.cut s [10]).1 many).2 else 15)
def parseR (t : Bs) : List Ins × Int × Int := if 64 < Lib.countByte t 10 then ([], 0, 11) else parseGo (Lib.countByte t 10 : Nat) (t.length + 1) [] t
theorem parseGo_end {many : Int} {f : Nat} {p : List Ins} : parseGo many (f + 1) p [] = (p, 0, 0) := by unfold parseGo; rw [if_pos rfl]
theorem parseGo_miss {many : Int} {f : Nat} {p : List Ins} {s : Bs} (hs : s ≠ []) (hc : (Lib.cut s [10]).2.2 = false) : parseGo many (f + 1) p s = ([], (p.length : Int) + 1, 15) := by
  unfold parseGo; rw [if_neg hs, hc]; simp
theorem parseGo_bad {many : Int} {f : Nat} {p : List Ins} {s : Bs} (hs : s ≠ []) (hc : (Lib.cut s [10]).2.2 = true) (he : (rdLine (Lib.cut s [10]).1 many).2 ≠ 0) : parseGo many (f + 1) p s = ([], (p.length : Int) + 1, (rdLine (Lib.cut s [10]).1 many).2) := by
  unfold parseGo; rw [if_neg hs, hc]; simp [he]
theorem parseGo_ok {many : Int} {f : Nat} {p : List Ins} {s : Bs} (hs : s ≠ []) (hc : (Lib.cut s [10]).2.2 = true) (he : (rdLine (Lib.cut s [10]).1 many).2 = 0) : parseGo many (f + 1) p s = parseGo many f (p ++ [(rdLine (Lib.cut s [10]).1 many).1]) (Lib.cut s [10]).2.1 := by
  rw [parseGo]; rw [if_neg hs, hc]; simp [he]
theorem cut_rest {s : Bs} (hc : (Lib.cut s [10]).2.2 = true) : (Lib.cut s [10]).2.1.length + 1 ≤ s.length ∧ (Lib.cut s [10]).1.length ≤ s.length := by
  unfold Lib.cut at hc ⊢
  split
  · rename_i h
    have := Lib.index_room s [10] h
    simp only [List.length_drop, List.length_take, List.length_cons, List.length_nil] at this ⊢
    omega
  · rename_i h; rw [if_neg h] at hc; simp at hc
theorem cut_len (s : Bs) : (Lib.cut s [10]).1.length ≤ s.length := by
  unfold Lib.cut
  split
  · simp only [List.length_take]; omega
  · exact Nat.le_refl _

theorem cut_any (t : Bs) (ht : t.length ≤ 10000) (b : Bool) (hb : (Lib.cut t [10]).2.2 = b) {w : World} (hf : Facts w) :
    Calls Tryd.prog 31 #[.string (tx t), .string ⟨#[10]⟩] w (Tells (.tuple #[.string (tx (Lib.cut t [10]).1), .string (tx (Lib.cut t [10]).2.1), .bool b]) w) := by
  obtain ⟨m, hm⟩ := hf.maxl
  refine (Tryd.strings_Cut (tx t) ⟨#[10]⟩ m w (by rw [tx_size]; omega) hm).mono ?_
  rintro e w' ⟨rfl, n, rfl⟩
  refine ⟨?_, (Frm.refl _ _).drewN n⟩
  have : (Lib.cut (tx t).data.toList (ByteArray.mk #[10]).data.toList) = Lib.cut t [10] := rfl
  rw [this, hb]
  rfl
def strLen : Value → Nat
  | .string b => b.size
  | _ => 0
def ParRel (w : World) (t : Bs) (many : Int) (sv pv : Value) (wr : World) : Prop :=
  ∃ (s : Bs) (p : List Ins) (a : Option Addr) (c : Nat), sv = .string (tx s) ∧ pv = .slice a p.length c ∧ p.length + s.length ≤ t.length ∧ parseGo many (t.length + 1) [] t = parseGo many (t.length + 1 - p.length) p s ∧
    Holds w.heap.size w (sepR (rowR 23 5 (.slice a p.length c) p.length (flat Ins.enc p)) noneR) wr []

set_option maxHeartbeats 2000000 in
theorem parse_any (t : Bs) (ht : t.length ≤ 10000) {w : World} (hf : Facts w) : Calls Tryd.prog 20 #[.string (tx t)] w fun e w' =>
    ∃ a c, e = .returned (.tuple #[.slice a (parseR t).1.length c, .int .i64 (parseR t).2.1, .int .i64 (parseR t).2.2]) ∧ Holds w.heap.size w (sepR (rowR 23 5 (.slice a (parseR t).1.length c) (parseR t).1.length (flat Ins.enc (parseR t).1)) noneR) w' [] := by
  have HF := Lib.hid hf
  clear hf
  have hcl : Lib.countByte t 10 ≤ t.length := List.count_le_length
  have Hc := Tryd.strings_Count_one (tx t) 10 w
  have hdt : (tx t).data.toList = t := rfl
  rw [hdt] at Hc
  have Hnil := Lib.hid ((Holds.start w).nilRow 23 5)
  by_cases h64 : 64 < Lib.countByte t 10
  · have e : parseR t = ([], 0, 11) := if_pos h64
    rw [e]
    have g : decide ((Lib.countByte t 10 : Int) > 64) = true := by rw [decide_eq_true_eq]; omega
    have HC := Lib.hid Hc
    clear Hc e hdt
    go_enter Tryd.func20, Tryd.ntmps20
    go_wp2_with fail
    refine HC.out.mono ?_
    rintro e w1 ⟨rfl, rfl⟩
    go_wp2_with fail
    go_ret3
    exact ⟨none, 0, rfl, Hnil.out⟩
  · have e : parseR t = parseGo (Lib.countByte t 10 : Nat) (t.length + 1) [] t := if_neg h64
    rw [e]
    have g : decide ((Lib.countByte t 10 : Int) > 64) = false := by rw [decide_eq_false_iff_not]; omega
    have HC := Lib.hid Hc
    clear Hc e hdt
    generalize Lib.countByte t 10 = many at *
    go_enter Tryd.func20, Tryd.ntmps20
    go_wp2_with fail
    refine HC.out.mono ?_
    rintro e w1 ⟨rfl, rfl⟩
    go_wp2_with fail
    go_loopw [0, 6] (fun sv pv wr => ParRel w1 t many sv pv wr) (fun sv _ _ => strLen sv)
    case atStart => exact ⟨t, [], none, 0, rfl, rfl, by simp, rfl, Hnil.out⟩
    case round =>
      obtain ⟨s, p, a, c, rfl, rfl, hlen, hgo, hh⟩ := hrel
      have HH := Lib.hid hh
      have HG := Lib.hid hgo
      clear hh hgo
      by_cases hs : s = []
      · subst hs
        have e0 := HG.out
        rw [show t.length + 1 - p.length = (t.length - p.length) + 1 by omega, parseGo_end] at e0
        have E0 := Lib.hid e0
        clear e0
        rw [show tx [] = ⟨#[]⟩ from rfl]
        go_wp2_with fail
        go_ret3
        rw [E0.out]
        exact ⟨a, c, rfl, HH.out⟩
      · have q1 : ((tx s).toList == (ByteArray.mk #[]).toList) = false := by rw [show (ByteArray.mk #[]).toList = [] from ByteArray.toList_mk [], tx_toList, beq_eq_false_iff_ne]; exact hs
        have q2 : ((tx s).toList == []) = false := by rw [tx_toList, beq_eq_false_iff_ne]; exact hs
        have q3 : (tx s).toList.isEmpty = false := by rw [tx_toList]; cases s with | nil => exact absurd rfl hs | cons _ _ => rfl
        have Hs := Lib.hid hs
        have hf1 : t.length + 1 - p.length = (t.length - p.length) + 1 := by omega
        have e0 := HG.out
        rw [hf1] at e0
        have E0 := Lib.hid e0
        clear e0 hf1 hs
        cases hc : (Lib.cut s [10]).2.2 with
        | true =>
          have Hcut := Lib.hid hc
          have hcr := cut_rest hc
          clear hc
          go_wp2_with fail
          refine (cut_any s (by omega) true Hcut.out (HF.out.frm (Frm.of_below HH.out.below (Nat.le_refl _)))).mono ?_
          rintro e w2 ⟨rfl, hF2⟩
          have H2 := Lib.hid (HH.out.made (sepR_stable (rowR_stable _ _ _ _ _) noneR_stable) hF2)
          clear hF2
          go_wp2_with fail
          refine (read_any (Lib.cut s [10]).1 (by omega) many (HF.out.frm (Frm.of_below H2.out.below (Nat.le_refl _)))).mono ?_
          rintro e w3 ⟨rfl, hF3⟩
          have H3 := Lib.hid ((H2.out.made (sepR_stable (rowR_stable _ _ _ _ _) noneR_stable) hF3).alloc (sepR_stable (rowR_stable _ _ _ _ _) noneR_stable) (.cells #[.int .i64 (rdLine (Lib.cut s [10]).1 many).1.op, .int .i64 (rdLine (Lib.cut s [10]).1 many).1.a, .int .i64 (rdLine (Lib.cut s [10]).1 many).1.b, .int .i64 (rdLine (Lib.cut s [10]).1 many).1.c, .int .i64 (rdLine (Lib.cut s [10]).1 many).1.d] 23))
          clear hF3
          by_cases he : (rdLine (Lib.cut s [10]).1 many).2 = 0
          · have E1 := Lib.hid (E0.out.trans (parseGo_ok Hs.out Hcut.out he))
            have g1 : ((rdLine (Lib.cut s [10]).1 many).2 != 0) = false := by simp [he]
            clear he
            generalize hx : (rdLine (Lib.cut s [10]).1 many).1 = x at *
            clear hx
            go_wp2_with (at_builtin; refine Stop.of ?_)
            refine Stop.go ?_
            obtain ⟨i1, hj0, hj1, hj2, hj3⟩ := info_parts infoInstr
            have h5 := H3.out.alloc (sepR_stable (rowR_stable _ _ _ _ _) noneR_stable) (.cells #[.int .i64 x.op, .int .i64 x.a, .int .i64 x.b, .int .i64 x.c, .int .i64 x.d] 23)
            refine wpList_append_foot _ rfl _ _ 24 rfl 23 i1 (.agg #[.int .i64 0, .int .i64 0, .int .i64 0, .int .i64 0, .int .i64 0]) 5 40 Tryd.underlying24 hj0 hj1 hj2 hj3 rfl (by decide) (.slice a p.length c) p.length (flat Ins.enc p) rfl h5.row ⟨_, 0, none⟩ 1 1 x.enc rfl rfl (cells_at _ x.enc _ _ (by simp)) (Ins.enc_one x) (by unfold maxLen; omega) (by omega) ?_
            intro a' c' w4 hown hF hnew
            have H6 := Lib.hid (h5.appended noneR_stable hown hF hnew)
            clear hown hF hnew h5
            go_wp2_with fail
            go_roundw
            case rel =>
              refine ⟨(Lib.cut s [10]).2.1, p ++ [x], a', c', rfl, ?_, ?_, ?_, ?_⟩
              · simp
              · simp only [List.length_append, List.length_cons, List.length_nil]; omega
              · have hn : t.length + 1 - (p ++ [x]).length = t.length - p.length := by simp only [List.length_append, List.length_cons, List.length_nil]; omega
                rw [hn]
                exact E1.out
              · have e1 : (p ++ [x]).length = p.length + 1 := by simp
                have e2 : flat Ins.enc (p ++ [x]) = flat Ins.enc p ++ x.enc := by rw [flat_append, flat_single]
                rw [e1, e2]
                exact H6.out.sub (by simp)
            case measure => simp [strLen, tx_size]; omega
          · have E1 := Lib.hid (E0.out.trans (parseGo_bad Hs.out Hcut.out he))
            have g1 : ((rdLine (Lib.cut s [10]).1 many).2 != 0) = true := by simp [he]
            have g2 : IntKind.i64.wrap ((p.length : Int) + 1) = (p.length : Int) + 1 := IntWalk.i64_in _ (by omega)
            clear he
            go_wp2_with fail
            go_ret3
            rw [E1.out]
            exact ⟨none, 0, rfl, (H3.out.drop.sub (by simp)).nilRow _ _⟩
        | false =>
          have Hcut := Lib.hid hc
          have hcl := cut_len s
          have E1 := Lib.hid (E0.out.trans (parseGo_miss Hs.out hc))
          clear hc
          go_wp2_with fail
          refine (cut_any s (by omega) false Hcut.out (HF.out.frm (Frm.of_below HH.out.below (Nat.le_refl _)))).mono ?_
          rintro e w2 ⟨rfl, hF2⟩
          have H2 := Lib.hid (HH.out.made (sepR_stable (rowR_stable _ _ _ _ _) noneR_stable) hF2)
          clear hF2
          go_wp2_with fail
          refine (read_any (Lib.cut s [10]).1 (by omega) many (HF.out.frm (Frm.of_below H2.out.below (Nat.le_refl _)))).mono ?_
          rintro e w3 ⟨rfl, hF3⟩
          have H3 := Lib.hid ((H2.out.made (sepR_stable (rowR_stable _ _ _ _ _) noneR_stable) hF3).alloc (sepR_stable (rowR_stable _ _ _ _ _) noneR_stable) (.cells #[.int .i64 (rdLine (Lib.cut s [10]).1 many).1.op, .int .i64 (rdLine (Lib.cut s [10]).1 many).1.a, .int .i64 (rdLine (Lib.cut s [10]).1 many).1.b, .int .i64 (rdLine (Lib.cut s [10]).1 many).1.c, .int .i64 (rdLine (Lib.cut s [10]).1 many).1.d] 23))
          have g2 : IntKind.i64.wrap ((p.length : Int) + 1) = (p.length : Int) + 1 := IntWalk.i64_in _ (by omega)
          clear hF3
          go_wp2_with fail
          go_ret3
          rw [E1.out]
          exact ⟨none, 0, rfl, (H3.out.drop.sub (by simp)).nilRow _ _⟩
end Go.Proofs.YtodjiicneijkkaaDoor
