/- Package code: find, number, read. -/
import Derived.Test.YtodjiicneijkkaaDoorCodeP
namespace Go.Proofs.YtodjiicneijkkaaDoor
open Go.RowKit Go.Maps

def findK (t : Bs) : Nat := if t ∈ words.tail then words.tail.idxOf t + 1 else 0
theorem findK_word {k : Nat} (h1 : 1 ≤ k) (h2 : k < 16) : findK (wordK k) = k := by
  have : ∀ k : Fin 16, 1 ≤ k.1 → findK (wordK k.1) = k.1 := by decide
  exact this ⟨k, h2⟩ h1
theorem findK_miss {t : Bs} (h : ∀ j, 1 ≤ j → j < 16 → wordK j ≠ t) : findK t = 0 := by
  unfold findK
  rw [if_neg]
  intro hm
  have : ∀ t ∈ words.tail, ∃ j, j < 16 ∧ 1 ≤ j ∧ wordK j = t := by decide
  obtain ⟨j, h1, h2, h3⟩ := this t hm
  exact h j h2 h1 h3
theorem tx_toList (l : Bs) : (tx l).toList = l := ByteArray.toList_mk l

set_option maxHeartbeats 1000000 in
theorem find_any (t : Bs) {w : World} (hO : Ops w) : Calls Tryd.prog 41 #[.string (tx t)] w (Tells (.tuple #[.int .i64 (findK t : Nat), .bool (decide (findK t ≠ 0))]) w) := by
  have HO := Lib.hid hO
  clear hO
  go_enter Tryd.func41, Tryd.ntmps41
  go_wp2_with fail
  go_loopw [4] (fun iv wr => ∃ k : Nat, 1 ≤ k ∧ k ≤ 16 ∧ iv = .int .i64 (k : Int) ∧ (∀ j, 1 ≤ j → j < k → wordK j ≠ t) ∧ Frm [] w wr) (fun iv _ => 16 - (intOf iv).toNat)
  case atStart => exact ⟨1, by omega, by omega, rfl, fun j h1 h2 => by omega, Frm.refl _ _⟩
  case round =>
    obtain ⟨k, hk1, hk, rfl, hno, hF⟩ := hrel
    have HF := Lib.hid hF
    have HN := Lib.hid hno
    clear hF hno
    by_cases hlt : k < 16
    · obtain ⟨c0, c1, c2⟩ := (HO.out.frm HF.out) k hlt
      have z0 := World.block_lt_of_cell? _ _ c0
      dsimp only at z0
      have g1 : decide ((k : Int) ≤ 15) = true := by rw [decide_eq_true_eq]; omega
      by_cases he : wordK k = t
      · have g2 : ((tx (wordK k)).toList == (tx t).toList) = true := by rw [he]; simp
        subst he
        have hfk := findK_word hk1 hlt
        have Hfk := Lib.hid hfk
        clear hfk
        go_wp2_with fail
        go_ret2
        rw [Hfk.out]
        refine ⟨?_, HF.out⟩
        rw [decide_eq_true (show k ≠ 0 by omega)]
        rfl
      · have g2 : ((tx (wordK k)).toList == (tx t).toList) = false := by rw [tx_toList, tx_toList, beq_eq_false_iff_ne]; exact he
        have He := Lib.hid he
        clear he
        go_wp2_with fail
        go_roundw
        case rel => exact ⟨k + 1, by omega, by omega, by go_num, fun j h1 h2 => by rcases Nat.lt_succ_iff_lt_or_eq.1 h2 with h3 | rfl; exact HN.out j h1 h3; exact He.out, HF.out⟩
        case measure => simp [intOf]; omega
    · obtain rfl : k = 16 := by omega
      have hm := findK_miss HN.out
      have Hm := Lib.hid hm
      clear hm
      go_wp2_with fail
      go_ret2
      rw [Hm.out]
      exact ⟨rfl, HF.out⟩

/-- The number that a text is. -/
def numR (t : Bs) : Option Int := match Lib.atoiAll t with
  | .ok v => if Lib.itoa v = t then some v else none
  | _ => none
theorem numR_ok {t : Bs} {v : Int} (h : Lib.atoiAll t = .ok v) : numR t = if Lib.itoa v = t then some v else none := by unfold numR; rw [h]
theorem numR_bad {t : Bs} (h : ∀ v, Lib.atoiAll t ≠ .ok v) : numR t = none := by
  unfold numR
  split
  · rename_i v hv; exact absurd hv (h v)
  · rfl
/-- Atoi of what is no numeral. -/
theorem atoi_bad (s : ByteArray) (hlim : s.size ≤ 281474976710656) (h1 : ∀ v, Lib.atoiAll s.data.toList ≠ .ok v) (h2 : Lib.atoiAll s.data.toList ≠ .range) (ev : Value) (w : World) (hv : w.cell? ⟨3, 0, none⟩ = some ev) (hev : ev = .nilIface ∨ ∃ te pe, ev = .iface te pe) :
    Calls Tryd.prog 47 #[.string s] w fun e w' => ∃ N, e = .returned (.tuple #[.int .i64 0, .iface 104 (.pointer (some ⟨N, 0, none⟩))]) ∧ Below w.heap.size w w' :=
  (Any.strconv_Atoi_syntax Tryd.laysC172 s hlim (by cases h : Lib.atoiAll s.data.toList <;> first | rfl | exact absurd h (h1 _) | exact absurd h h2) ev w hv hev).mono fun _ _ ⟨N, he, _, _, hb⟩ => ⟨N, he, hb⟩
theorem numR_ran {t : Bs} (h : Lib.atoiAll t = .range) : numR t = none := by unfold numR; rw [h]
theorem numR_inI {t : Bs} {v : Int} (h : numR t = some v) : inI v := by
  unfold numR at h
  split at h
  · rename_i v' hv
    split at h
    · simp at h; subst h; exact Lib.atoiAll_bounds hv
    · cases h
  · cases h
theorem numR_itoa {t : Bs} {v : Int} (h : numR t = some v) : Lib.itoa v = t := by
  unfold numR at h
  split at h
  · split at h
    · rename_i he; simp at h; subst h; exact he
    · cases h
  · cases h

set_option maxHeartbeats 1000000 in
theorem number_any (t : Bs) (ht : t.length ≤ 10000) {w : World} (hf : Facts w) : Calls Tryd.prog 42 #[.string (tx t)] w (Tells (.tuple #[.int .i64 ((numR t).getD 0), .bool (numR t).isSome]) w) := by
  have HF := Lib.hid hf
  have hsz : (tx t).size ≤ 10000 := by rw [tx_size]; exact ht
  have hdt : (tx t).data.toList = t := rfl
  clear hf
  cases ha : Lib.atoiAll t with
  | ok v =>
    have hv := Lib.atoiAll_bounds ha
    have Ha := Lib.hid ha
    clear ha hdt
    go_enter Tryd.func42, Tryd.ntmps42
    go_wp2_with fail
    refine (Tryd.strconv_Atoi_ok (tx t) (by omega) v Ha.out w).mono ?_
    rintro e w1 ⟨rfl, hw⟩
    have hF1 : Frm [] w w1 := by
      rcases hw with rfl | ⟨t', rfl⟩
      · exact Frm.refl _ _
      · exact Frm.of_below (Lib.bytesWorld_below w _ t') (Nat.le_refl _)
    have HF1 := Lib.hid hF1
    clear hw hF1
    go_wp2_with fail
    refine (itoa_any v hv (HF.out.frm HF1.out)).mono ?_
    rintro e w2 ⟨rfl, hF2⟩
    have HF2 := Lib.hid (HF1.out.trans (T := []) hF2 (by simp))
    clear hF2
    by_cases he : Lib.itoa v = t
    · have g : ((tx (Lib.itoa v)).toList == (tx t).toList) = true := by rw [he]; simp
      have hr := (numR_ok Ha.out).trans (if_pos he)
      have Hr := Lib.hid hr
      clear he hr
      go_wp2_with fail
      go_ret2
      rw [Hr.out]
      exact ⟨rfl, HF2.out⟩
    · have g : ((tx (Lib.itoa v)).toList == (tx t).toList) = false := by rw [tx_toList, tx_toList, beq_eq_false_iff_ne]; exact he
      have hr := (numR_ok Ha.out).trans (if_neg he)
      have Hr := Lib.hid hr
      clear he hr
      go_wp2_with fail
      go_ret2
      rw [Hr.out]
      exact ⟨rfl, HF2.out⟩
  | range =>
    have hr := numR_ran ha
    have Ha := Lib.hid ha
    have Hr := Lib.hid hr
    obtain ⟨te, pe, hc⟩ := HF.out.ran
    clear ha hr hdt
    go_enter Tryd.func42, Tryd.ntmps42
    go_wp2_with fail
    refine (Tryd.strconv_Atoi_range (tx t) (by omega) Ha.out _ w hc (.inr ⟨_, _, rfl⟩)).mono ?_
    rintro e w1 ⟨N, rfl, _, _, hbel⟩
    have HF1 := Lib.hid (Frm.of_below (S := []) hbel (Nat.le_refl _))
    clear hbel
    go_wp2_with fail
    go_ret2
    rw [Hr.out]
    exact ⟨rfl, HF1.out⟩
  | _ =>
    have h1 : ∀ v, Lib.atoiAll t ≠ .ok v := fun v h => by rw [ha] at h; cases h
    have h2 : Lib.atoiAll t ≠ .range := fun h => by rw [ha] at h; cases h
    have hr := numR_bad h1
    have Ha := Lib.hid (And.intro h1 h2)
    have Hr := Lib.hid hr
    obtain ⟨te, pe, hc⟩ := HF.out.syn
    clear ha hr hdt h1 h2
    go_enter Tryd.func42, Tryd.ntmps42
    go_wp2_with fail
    refine (atoi_bad (tx t) (by omega) Ha.out.1 Ha.out.2 _ w hc (.inr ⟨_, _, rfl⟩)).mono ?_
    rintro e w1 ⟨N, rfl, hbel⟩
    have HF1 := Lib.hid (Frm.of_below (S := []) hbel (Nat.le_refl _))
    clear hbel
    go_wp2_with fail
    go_ret2
    rw [Hr.out]
    exact ⟨rfl, HF1.out⟩
end Go.Proofs.YtodjiicneijkkaaDoor
