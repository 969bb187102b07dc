/- A heap's inner calls: one entry goes up, or down, as far as it must; one is taken out. -/
import Derived.Test.YtclaicpnjllhjaaHeapW
namespace Go.Proofs.Ytclaicpnjllhjaa
open Go.RowKit Go.Maps

section
variable {B : Nat} {w0 w : World} {Q : World → List Nat → Prop} {L : List (Nat × Obj)}

/-- On its way up. -/
def RiseRel (B : Nat) (w0 : World) (Q : World → List Nat → Prop) (L : List (Nat × Obj)) (b n : Nat) (r : List Ent) (iv : Value) (wr : World) : Prop :=
  ∃ (l : List Ent) (i : Nat), iv = .int .i64 (i : Int) ∧ i < n ∧ l.length = n ∧ riseL l i = r ∧ Holds B w0 (sepR (rawR b l) Q) wr L

set_option maxHeartbeats 2000000 in
set_option maxRecDepth 100000 in
theorem rise_goes (hQ : Stable Q) {b : Nat} {l : List Ent} (h : Holds B w0 (sepR (rawR b l) Q) w L) (hn : l.length ≤ 200) {i : Nat} (hi : i < l.length) :
    Calls Try.prog 36 #[.pointer (some ⟨b, 0, none⟩), .int .i64 (i : Int)] w (Goes (.tuple #[]) B w0 (sepR (rawR b (riseL l i)) Q) L) := by
  have hs : RiseRel B w0 Q L b l.length (riseL l i) (.int .i64 (i : Int)) w := ⟨l, i, rfl, hi, rfl, rfl, h⟩
  generalize riseL l i = r at hs ⊢
  generalize l.length = n at hs hn hi
  have Hs := Lib.hid hs
  clear hs h hi
  go_enter Try.func36, Try.ntmps36
  go_wp2_with fail
  go_loopw [1] (fun iv wr => RiseRel B w0 Q L b n r iv wr) (fun iv _ => (intOf iv).toNat)
  case atStart => exact Hs.out
  case round =>
    obtain ⟨l, i, rfl, hi, hl, hr, hH⟩ := hrel
    have HH := Lib.hid hH
    have Hl := Lib.hid hl
    have Hr := Lib.hid hr
    clear hH hl hr Hs
    by_cases h0 : 0 < i
    · obtain ⟨p, hp⟩ : ∃ p, (i - 1) / 2 = p := ⟨_, rfl⟩
      have hpi : p < i := by omega
      have hpw : ((i : Int) - 1) / 2 = (p : Int) := by omega
      obtain ⟨x, hx⟩ : ∃ x, l[i]? = some x := ⟨_, List.getElem?_eq_getElem (by have := Hl.out; omega)⟩
      obtain ⟨y, hy⟩ : ∃ y, l[p]? = some y := ⟨_, List.getElem?_eq_getElem (by have := Hl.out; omega)⟩
      have hah : aheadL l i p = x.k.lt y.k := aheadL_eq hx hy
      have hc := ahead_goes hQ HH.out (by have := Hl.out; omega) hx hy
      have Hx := Lib.hid hx
      have Hy := Lib.hid hy
      have Hp := Lib.hid hp
      cases hlt : x.k.lt y.k
      · rw [hlt] at hc hah
        have hre : riseL l i = l := riseL_end (fun hh => by rw [hp, hah] at hh; cases hh.2)
        have Hre := Lib.hid hre
        have Hc := Lib.hid hc
        clear hx hy hp hah hc hlt hre
        go_wp2_with fail
        refine Hc.out.mono ?_
        rintro e w1 ⟨rfl, h1⟩
        have H1 := Lib.hid h1
        clear h1
        go_wp2_with fail
        go_end0
        have h2 := H1.out
        rw [← Hr.out, Hre.out]
        exact ⟨rfl, h2⟩
      · rw [hlt] at hc hah
        have hre : riseL l i = riseL (swapL l i p) p := by
          have h3 := riseL_step h0 (l := l) (by rw [hp]; exact hah)
          rwa [hp] at h3
        have Hre := Lib.hid hre
        have Hc := Lib.hid hc
        clear hx hy hp hah hc hlt hre
        go_wp2_with fail
        refine Hc.out.mono ?_
        rintro e w1 ⟨rfl, h1⟩
        have hc2 := swap_goes hQ h1 (by have := Hl.out; omega) Hx.out Hy.out
        have Hc2 := Lib.hid hc2
        clear hc2 h1 Hc
        go_wp2_with fail
        refine Hc2.out.mono ?_
        rintro e w2 ⟨rfl, h2⟩
        have H2 := Lib.hid h2
        clear h2 Hc2
        go_wp2_with fail
        go_roundw
        case rel => exact ⟨swapL l i p, p, rfl, by omega, by rw [swapL_length]; exact Hl.out, by rw [← Hre.out]; exact Hr.out, H2.out⟩
        case measure => simp [intOf]; omega
    · have hre : riseL l i = l := riseL_end (fun hh => h0 hh.1)
      have Hre := Lib.hid hre
      clear hre
      go_wp2_with fail
      go_end0
      have h2 := HH.out
      rw [← Hr.out, Hre.out]
      exact ⟨rfl, h2⟩

/-- On its way down: the inner loop, which of two is first. -/
def firstUpto (l : List Ent) (i c : Nat) : Nat := if c = 2 * i + 1 then i else if c = 2 * i + 2 then first1 l i else firstL l i
def SinkIn (B : Nat) (w0 : World) (Q : World → List Nat → Prop) (L : List (Nat × Obj)) (b i : Nat) (l : List Ent) (fv cv : Value) (wr : World) : Prop :=
  ∃ c : Nat, fv = .int .i64 ((firstUpto l i c : Nat) : Int) ∧ cv = .int .i64 (c : Int) ∧ 2 * i + 1 ≤ c ∧ c ≤ 2 * i + 3 ∧ Holds B w0 (sepR (rawR b l) Q) wr L
def SinkRel (B : Nat) (w0 : World) (Q : World → List Nat → Prop) (L : List (Nat × Obj)) (b n : Nat) (r : List Ent) (iv : Value) (wr : World) : Prop :=
  ∃ (l : List Ent) (i : Nat), iv = .int .i64 (i : Int) ∧ i < n ∧ l.length = n ∧ sinkL l i = r ∧ Holds B w0 (sepR (rawR b l) Q) wr L
theorem aheadL_out {l : List Ent} {c f : Nat} (h : l.length ≤ c) : aheadL l c f = false := by
  unfold aheadL
  rw [List.getElem?_eq_none h]
theorem firstUpto_lt (l : List Ent) (i c : Nat) (hi : i < l.length) : firstUpto l i c < l.length := by
  unfold firstUpto
  split
  · exact hi
  · split
    · exact (first1_spec l i hi).1
    · exact (firstL_spec l i hi).1
theorem firstUpto_next {l : List Ent} {i c : Nat} (h1 : 2 * i + 1 ≤ c) (h2 : c ≤ 2 * i + 2) : firstUpto l i (c + 1) = if aheadL l c (firstUpto l i c) = true then c else firstUpto l i c := by
  unfold firstUpto
  by_cases e : c = 2 * i + 1
  · subst e
    rw [if_neg (by omega), if_pos (by omega), if_pos rfl]
    rfl
  · have e2 : c = 2 * i + 2 := by omega
    subst e2
    simp only [show ¬ (2 * i + 2 + 1 = 2 * i + 1) by omega, show ¬ (2 * i + 2 + 1 = 2 * i + 2) by omega, show ¬ (2 * i + 2 = 2 * i + 1) by omega, if_false, if_true]
    rfl
/-- Past the end nothing turns. -/
theorem firstUpto_past {l : List Ent} {i c : Nat} (hi : 2 * i + 1 ≤ c) (h : l.length ≤ c) : firstUpto l i c = firstL l i := by
  unfold firstUpto
  by_cases e : c = 2 * i + 1
  · subst e
    rw [if_pos rfl]
    unfold firstL first1
    rw [aheadL_out (by omega), aheadL_out (by omega)]
    rfl
  · rw [if_neg e]
    split
    · rename_i e2
      subst e2
      unfold firstL
      rw [aheadL_out (by omega)]
      rfl
    · rfl

set_option maxHeartbeats 4000000 in
set_option maxRecDepth 100000 in
theorem sink_goes (hQ : Stable Q) {b : Nat} {l : List Ent} (h : Holds B w0 (sepR (rawR b l) Q) w L) (hn : l.length ≤ 200) {i : Nat} (hi : i < l.length) :
    Calls Try.prog 46 #[.pointer (some ⟨b, 0, none⟩), .int .i64 (i : Int)] w (Goes (.tuple #[]) B w0 (sepR (rawR b (sinkL l i)) Q) L) := by
  have hs : SinkRel B w0 Q L b l.length (sinkL l i) (.int .i64 (i : Int)) w := ⟨l, i, rfl, hi, rfl, rfl, h⟩
  generalize sinkL l i = r at hs ⊢
  generalize l.length = n at hs hn hi
  have Hs := Lib.hid hs
  clear hs h hi
  go_enter Try.func46, Try.ntmps46
  go_wp2_with fail
  go_loopw [1] (fun iv wr => SinkRel B w0 Q L b n r iv wr) (fun iv _ => n - (intOf iv).toNat)
  case atStart => exact Hs.out
  case round =>
    obtain ⟨l, i, rfl, hi, hl, hr, hH⟩ := hrel
    have hin : SinkIn B w0 Q L b i l (.int .i64 (i : Int)) (.int .i64 ((2 * i + 1 : Nat) : Int)) wr := ⟨2 * i + 1, by simp [firstUpto], rfl, by omega, by omega, hH⟩
    have Hin := Lib.hid hin
    have Hl := Lib.hid hl
    have Hr := Lib.hid hr
    clear hH hl hr Hs hin
    go_wp2_with fail
    go_loopw [4, 5] (fun fv cv wr => SinkIn B w0 Q L b i l fv cv wr) (fun _ cv _ => 2 * i + 3 - (intOf cv).toNat)
    case atStart => exact Hin.out
    case round =>
      obtain ⟨c, rfl, rfl, hc1, hc2, hH⟩ := hrel
      have hll := Hl.out
      obtain ⟨ev, M, D, hp, h1⟩ := hH.rawOpen
      obtain ⟨g, cap, rfl, hg, hcap, _⟩ := h1.rowVal (by omega)
      obtain ⟨c0, c1, f0, hb⟩ := h1.hCell0
      have HH := Lib.hid hH
      clear hH Hin hp h1 c1 f0
      by_cases hgo : c ≤ 2 * i + 2 ∧ c < l.length
      · obtain ⟨hg1, hg2⟩ := hgo
        have d1 : decide ((c : Int) ≤ 2 * (i : Int) + 2) = true := by rw [decide_eq_true_eq]; omega
        have d2 : decide (c < l.length) = true := by rw [decide_eq_true_eq]; omega
        have d3 : decide ((c : Int) < (l.length : Int)) = true := by rw [decide_eq_true_eq]; omega
        have hfl := firstUpto_lt l i c (by omega)
        have hnx := firstUpto_next hc1 hg1 (l := l)
        obtain ⟨f, hf⟩ : ∃ f, firstUpto l i c = f := ⟨_, rfl⟩
        rw [hf] at hfl hnx ⊢
        obtain ⟨x, hx⟩ : ∃ x, l[c]? = some x := ⟨_, List.getElem?_eq_getElem (by omega)⟩
        obtain ⟨y, hy⟩ : ∃ y, l[f]? = some y := ⟨_, List.getElem?_eq_getElem (by omega)⟩
        rw [aheadL_eq hx hy] at hnx
        have hc := ahead_goes hQ HH.out (by omega) hx hy
        clear hf hx hy
        have hw : IntKind.i64.wrap ((c : Int) + 1) = (c : Int) + 1 := IntWalk.i64_in _ (by omega)
        cases hlt : x.k.lt y.k
        · rw [hlt] at hnx hc
          have Hnx := Lib.hid hnx
          have Hc := Lib.hid hc
          clear hnx hc hlt hll
          go_wp2_with fail
          refine Hc.out.mono ?_
          rintro e w1 ⟨rfl, h1⟩
          have H1 := Lib.hid h1
          clear h1
          go_wp2_with fail
          go_roundw
          case rel => exact ⟨c + 1, by rw [Hnx.out]; rfl, by go_num, by omega, by omega, H1.out⟩
          case measure => simp [intOf]; omega
        · rw [hlt] at hnx hc
          have Hnx := Lib.hid hnx
          have Hc := Lib.hid hc
          clear hnx hc hlt hll
          go_wp2_with fail
          refine Hc.out.mono ?_
          rintro e w1 ⟨rfl, h1⟩
          have H1 := Lib.hid h1
          clear h1
          go_wp2_with fail
          go_roundw
          case rel => exact ⟨c + 1, by rw [Hnx.out]; rfl, by go_num, by omega, by omega, H1.out⟩
          case measure => simp [intOf]; omega
      · have hfu : firstUpto l i c = firstL l i := by
          by_cases h3 : c = 2 * i + 3
          · subst h3; unfold firstUpto; rw [if_neg (by omega), if_neg (by omega)]
          · exact firstUpto_past hc1 (by omega)
        rw [hfu]
        clear hfu
        have hge := firstL_ge l i
        have hst := @sinkL_step l i
        have hen := @sinkL_end l i
        obtain ⟨f, hf⟩ : ∃ f, firstL l i = f := ⟨_, rfl⟩
        rw [hf] at hge hst hen ⊢
        clear hf
        have hex : c = 2 * i + 3 ∨ (c ≤ 2 * i + 2 ∧ l.length ≤ c) := by omega
        clear hgo
        by_cases hfi : f = i
        · subst hfi
          have hre := hen rfl
          have Hre := Lib.hid hre
          clear hge hst hen hre hll
          rcases hex with rfl | ⟨hc3, hc4⟩
          · have d1 : decide (((2 * f + 3 : Nat) : Int) ≤ 2 * (f : Int) + 2) = false := by rw [decide_eq_false_iff_not]; omega
            have d1' : decide (2 * (f : Int) + 3 ≤ 2 * (f : Int) + 2) = false := by rw [decide_eq_false_iff_not]; omega
            go_wp2_with fail
            go_end0
            have h2 := HH.out
            rw [← Hr.out, Hre.out]
            exact ⟨rfl, h2⟩
          · have d1 : decide ((c : Int) ≤ 2 * (f : Int) + 2) = true := by rw [decide_eq_true_eq]; omega
            have d2 : decide (c < l.length) = false := by rw [decide_eq_false_iff_not]; omega
            have d3 : decide ((c : Int) < (l.length : Int)) = false := by rw [decide_eq_false_iff_not]; omega
            go_wp2_with fail
            go_end0
            have h2 := HH.out
            rw [← Hr.out, Hre.out]
            exact ⟨rfl, h2⟩
        · obtain ⟨s1, s2, s3, _⟩ := hge hfi
          have hre := hst hfi
          have Hre := Lib.hid hre
          clear hge hst hen hre
          obtain ⟨x, hx⟩ : ∃ x, l[i]? = some x := ⟨_, List.getElem?_eq_getElem (by omega)⟩
          obtain ⟨y, hy⟩ : ∃ y, l[f]? = some y := ⟨_, List.getElem?_eq_getElem (by omega)⟩
          have hc := swap_goes hQ HH.out (by omega) hx hy
          have Hc := Lib.hid hc
          have n1 : ((f : Int) == (i : Int)) = false := by rw [beq_eq_false_iff_ne]; omega
          have n2 : (f == i) = false := by rw [beq_eq_false_iff_ne]; omega
          clear hx hy hc hll
          rcases hex with rfl | ⟨hc3, hc4⟩
          · have d1 : decide (((2 * i + 3 : Nat) : Int) ≤ 2 * (i : Int) + 2) = false := by rw [decide_eq_false_iff_not]; omega
            have d1' : decide (2 * (i : Int) + 3 ≤ 2 * (i : Int) + 2) = false := by rw [decide_eq_false_iff_not]; omega
            go_wp2_with fail
            refine Hc.out.mono ?_
            rintro e w1 ⟨rfl, h1⟩
            have H1 := Lib.hid h1
            clear h1 Hc
            go_wp2_with fail
            go_roundw
            case rel => exact ⟨swapL l i f, f, rfl, by have := Hl.out; omega, by rw [swapL_length]; exact Hl.out, by rw [← Hre.out]; exact Hr.out, H1.out⟩
            case measure => simp [intOf]; omega
          · have d1 : decide ((c : Int) ≤ 2 * (i : Int) + 2) = true := by rw [decide_eq_true_eq]; omega
            have d2 : decide (c < l.length) = false := by rw [decide_eq_false_iff_not]; omega
            have d3 : decide ((c : Int) < (l.length : Int)) = false := by rw [decide_eq_false_iff_not]; omega
            go_wp2_with fail
            refine Hc.out.mono ?_
            rintro e w1 ⟨rfl, h1⟩
            have H1 := Lib.hid h1
            clear h1 Hc
            go_wp2_with fail
            go_roundw
            case rel => exact ⟨swapL l i f, f, rfl, by have := Hl.out; omega, by rw [swapL_length]; exact Hl.out, by rw [← Hre.out]; exact Hr.out, H1.out⟩
            case measure => simp [intOf]; omega
end
end Go.Proofs.Ytclaicpnjllhjaa
