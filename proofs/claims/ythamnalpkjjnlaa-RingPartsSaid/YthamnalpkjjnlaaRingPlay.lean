/- RingPlays, walked. -/
import Derived.Test.YthamnalpkjjnlaaRingSame
import Derived.Test.YthamnalpkjjnlaaRingOpen
namespace Go.Proofs.Ythamnalpkjjnlaa
open Go.RowKit Go.Maps

def LawTrue (w : World) (e : Ending) (w' : World) : Prop := e = .returned (.bool true) ∧ Below w.heap.size w w'
theorem few_le (w : World) (a1 : Option Addr) (n1 c1 : Nat) (h : n1 ≤ 60) : Calls Try.prog 11 #[.slice a1 n1 c1] w fun e w' => e = .returned (.bool true) ∧ w' = w := by
  go_enter Try.func11, Try.ntmps11
  go_wp2_with fail
  go_ret
  exact ⟨by simp; omega, rfl⟩
theorem few_gt (w : World) (a1 : Option Addr) (n1 c1 : Nat) (h : 60 < n1) : Calls Try.prog 11 #[.slice a1 n1 c1] w fun e w' => e = .returned (.bool false) ∧ w' = w := by
  go_enter Try.func11, Try.ntmps11
  go_wp2_with fail
  go_ret
  exact ⟨by simp; omega, rfl⟩
theorem Holds.boxes {B : Nat} {w0 w : World} {R : World → List Nat → Prop} {L : List (Nat × Obj)} (h : Holds B w0 R w L) : ∀ p ∈ L, p.1 < w.heap.size := fun p hp => lt_of_obj (h.box (k := p.1) (o := p.2) hp)
/-- The document's ring, made. -/
theorem Holds.newRef {B : Nat} {w0 w : World} {Q : World → List Nat → Prop} {L : List (Nat × Obj)} (hQ : Stable Q) (h : Holds B w0 Q w L) (room : Nat) : Holds B w0 (sepR (refR w.heap.size room []) Q) (w.alloc (.cells #[.int .i64 (room : Int), .slice none 0 0] 32)) L := by
  have h1 := (h.newBox hQ #[.int .i64 (room : Int), .slice none 0 0] 32).nilRow 44 2
  have h2 : Holds B w0 (sepR (OffAt none 0 0 []) (sepR (boxR w.heap.size #[.int .i64 (room : Int), .slice none 0 0] 32) Q)) _ L := Holds.toOff (S := []) h1 rfl
  exact (h2.conv Conv.exch).refShut (S := [])

set_option maxHeartbeats 1000000 in
set_option maxRecDepth 100000 in
theorem plays_bad (w : World) (room : Int) (h : room < 1 ∨ room > 4096) (a1 : Option Addr) (n1 c1 : Nat) : Calls Try.prog 3 #[.int .i64 room, .slice a1 n1 c1] w (LawTrue w) := by
  have hn := new_bad w room h
  have Hn := Lib.hid hn
  clear hn
  have hg : (decide (room < 1) = true ∧ room < 1) ∨ (decide (room < 1) = false ∧ decide (room > 4096) = true ∧ ¬ room < 1 ∧ 4096 < room) := by
    by_cases h1 : room < 1
    · exact .inl ⟨by simpa using h1, h1⟩
    · exact .inr ⟨by simpa using h1, by rw [decide_eq_true_eq]; omega, h1, by omega⟩
  clear h
  rcases hg with ⟨g1, g2⟩ | ⟨g1, g2, g3, g4⟩
  all_goals
    go_enter Try.func3, Try.ntmps3
    go_wp2_with fail
    refine Hn.out.mono ?_
    rintro e w1 ⟨rfl, hF⟩
    have HF := Lib.hid hF
    clear hF
    go_wp2_with fail
    refine (awake_any _).mono ?_
    rintro e w3 ⟨rfl, hf⟩
    have H3 := Lib.hid ((HF.out.below (Nat.le_refl _) (by simp)).trans (hf.mono HF.out.size))
    clear hf HF
    go_wp2_with fail
    go_ret
    exact ⟨rfl, H3.out⟩

set_option maxHeartbeats 1000000 in
set_option maxRecDepth 100000 in
theorem plays_out (w : World) (room : Nat) (h1 : 1 ≤ room) (h2 : room ≤ 4096) (a1 : Option Addr) (n1 c1 : Nat) (h : 60 < n1) : Calls Try.prog 3 #[.int .i64 (room : Int), .slice a1 n1 c1] w (LawTrue w) := by
  have g1 : decide ((room : Int) < 1) = false := by rw [decide_eq_false_iff_not]; omega
  have g2 : decide ((room : Int) > 4096) = false := by rw [decide_eq_false_iff_not]; omega
  go_enter Try.func3, Try.ntmps3
  go_wp2_with fail
  refine (new_goes noneR_stable (Holds.start w) room h1 h2).mono ?_
  rintro e w1 ⟨rfl, h3⟩
  have H1 := Lib.hid h3
  clear h3
  go_wp2_with fail
  refine (few_gt _ a1 n1 c1 h).mono ?_
  rintro e w2 ⟨rfl, rfl⟩
  go_wp2_with fail
  refine (awake_any _).mono ?_
  rintro e w3 ⟨rfl, hf⟩
  have H3 := Lib.hid (H1.out.made (sepR_stable (ringR_stable _ _ _) noneR_stable) (Frm.of_below hf (Nat.le_refl _)))
  clear hf H1
  go_wp2_with fail
  go_ret
  exact ⟨rfl, H3.out.below⟩

def PlayRel (w : World) (A C room n : Nat) (iv : Value) (wr : World) : Prop :=
  ∃ (i : Nat) (S : List It), i ≤ n ∧ iv = .int .i64 (i : Int) ∧ S.length ≤ i ∧ Holds w.heap.size w (bothR A C room S noneR) wr []

set_option maxHeartbeats 4000000 in
set_option maxRecDepth 100000 in
theorem plays_in (w : World) (room : Nat) (h1 : 1 ≤ room) (h2 : room ≤ 4096) (a1 : Option Addr) (n1 c1 : Nat) (l : List OpV) (hl : SlAt opEnc 3 w a1 n1 c1 l) (h3 : n1 ≤ 60) :
    Calls Try.prog 3 #[.int .i64 (room : Int), .slice a1 n1 c1] w (LawTrue w) := by
  have gc1 := hl.2.1
  have Hl := Lib.hid hl
  have g1 : decide ((room : Int) < 1) = false := by rw [decide_eq_false_iff_not]; omega
  have g2 : decide ((room : Int) > 4096) = false := by rw [decide_eq_false_iff_not]; omega
  clear hl
  go_enter Try.func3, Try.ntmps3
  go_wp2_with fail
  refine (new_goes noneR_stable (Holds.start w) room h1 h2).mono ?_
  rintro e w1 ⟨rfl, h4⟩
  obtain ⟨A, hA⟩ : ∃ A, w.heap.size = A := ⟨_, rfl⟩
  obtain ⟨C, hC⟩ : ∃ C, w1.heap.size = C := ⟨_, rfl⟩
  have h5 := (h4.newRef (sepR_stable (ringR_stable _ _ _) noneR_stable) room).conv Conv.exch
  rw [hC] at h5
  have hloop : PlayRel w w.heap.size C room n1 (.int .i64 0) (w1.alloc (.cells #[.int .i64 (room : Int), .slice none 0 0] 32)) := ⟨0, [], Nat.zero_le _, rfl, Nat.le_refl _, h5⟩
  rw [hA] at hloop
  have Hloop := Lib.hid hloop
  have HC := Lib.hid hC
  have HA := Lib.hid hA
  clear hloop h4 h5 hA hC
  rw [HA.out]
  go_wp2_with fail
  refine (few_le _ a1 n1 c1 h3).mono ?_
  rintro e w2 ⟨rfl, rfl⟩
  go_wp2_with fail
  rw [HC.out]
  go_loopw [8] (fun iv wr => PlayRel w A C room n1 iv wr) (fun iv _ => n1 - (intOf iv).toNat)
  case atStart => exact Hloop.out
  case round =>
    obtain ⟨i, S, hi, rfl, hSl, hH⟩ := hrel
    have HH := Lib.hid hH
    clear hH Hloop
    by_cases hlt : i < n1
    · have hm := Hl.out.frm (Frm.of_below HH.out.below (Nat.le_refl _))
      obtain ⟨b1, o1, o, rfl, hb1, ho, hcell⟩ := hm.at_ hlt
      have p0 := hcell 0 _ rfl
      have p1 := hcell 1 _ rfl
      have p2 := hcell 2 _ rfl
      simp only [Nat.add_zero] at p0
      have hwf : IntKind.i64.wrap ((i : Int) + 1) = (i : Int) + 1 := IntWalk.i64_in _ (by omega)
      have i0 : (0 : Int) ≤ (i : Int) := by omega
      have i1 : (i : Int) < (n1 : Int) := by omega
      clear hm hcell ho
      go_wp2_with fail
      refine (does_goes noneR_stable HH.out h1 (by omega) o).mono ?_
      rintro e w3 ⟨rfl, h5⟩
      have hdl := doS_len room o S
      have H3 := Lib.hid h5
      clear h5 HH p0 p1 p2
      go_wp2_with fail
      refine (same_goes noneR_stable H3.out H3.out.boxes).mono ?_
      rintro e w4 ⟨rfl, h6⟩
      have H4 := Lib.hid h6
      clear h6 H3
      go_wp2_with fail
      go_roundw
      case rel => exact ⟨i + 1, doS room o S, by omega, by go_num, by omega, H4.out⟩
      case measure => simp [intOf]; omega
    · obtain rfl : i = n1 := by omega
      go_wp2_with fail
      refine (awake_any _).mono ?_
      rintro e w3 ⟨rfl, hf⟩
      have H3 := Lib.hid (HH.out.made (bothR_stable noneR_stable _ _ _ _) (Frm.of_below hf (Nat.le_refl _)))
      clear hf HH
      go_wp2_with fail
      go_ret
      exact ⟨rfl, H3.out.below⟩
theorem plays_any (w : World) (room : Int) (a1 : Option Addr) (n1 c1 : Nat) (l : List OpV) (hl : SlAt opEnc 3 w a1 n1 c1 l) : Calls Try.prog 3 #[.int .i64 room, .slice a1 n1 c1] w (LawTrue w) := by
  by_cases h : room < 1 ∨ room > 4096
  · exact plays_bad w room h a1 n1 c1
  · obtain ⟨r, hr⟩ : ∃ r : Nat, room = (r : Int) := ⟨room.toNat, by omega⟩
    subst hr
    by_cases h2 : n1 ≤ 60
    · exact plays_in w r (by omega) (by omega) a1 n1 c1 l hl h2
    · exact plays_out w r (by omega) (by omega) a1 n1 c1 (by omega)
end Go.Proofs.Ythamnalpkjjnlaa
