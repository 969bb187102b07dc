/- SlabPlays, walked. -/
import Derived.Test.YtpfolcoijncfjaaSlabDoes
import Derived.Test.YtpfolcoijncfjaaSlabOpen
import Derived.Test.YtpfolcoijncfjaaSlabAwake
namespace Go.Proofs.Ytpfolcoijncfjaa
open Go.RowKit Go.Maps

def LawTrue (w : World) (e : Ending) (w' : World) : Prop := e = .returned (.bool true) ∧ Below w.heap.size w w'
theorem Holds.boxes {B : Nat} {w0 w : World} {R : World → List Nat → Prop} {L : List (Nat × Obj)} (h : Holds B w0 R w L) : ∀ p ∈ L, p.1 < w.heap.size := fun p hp => lt_of_obj (h.box (k := p.1) (o := p.2) hp)

theorem doesS_keeps {s : St} {l : List (Int × Int)} {o : OpV} (ho : s.Ok) {n : Int} (hu : s.Upto n) : (doesS s l o).Ok ∧ (doesS s l o).Upto (n + 1) := by
  have hn : s.Upto (n + 1) := Upto.mono hu (by omega)
  unfold doesS
  by_cases h0 : o.ask = 0
  · rw [if_pos h0]
    refine ⟨takes_Ok ho (r := (s.takes o.cls o.urg o.v).1) rfl, ?_⟩
    rcases takes_both s o.cls o.v o.urg with ⟨E, _, h1, _⟩ | ⟨h1, _⟩
    · rw [h1]; exact hn
    · rw [h1]; exact upto_take ho hu _ _
  · rw [if_neg h0]
    obtain ⟨⟨X, T⟩, hx⟩ : ∃ x, handleAt l o = x := ⟨_, rfl⟩
    rw [hx]
    dsimp only
    cases hlk : s.look X T with
    | none => exact ⟨ho, hn⟩
    | some q =>
      obtain ⟨i, c, v⟩ := q
      dsimp only
      obtain ⟨rfl, hat, hc0, hil, hsi⟩ := look_at hlk
      by_cases h1 : o.ask = 1
      · rw [if_pos h1]
        have hat1 := (ok_at ho i).2.2.2 (by rw [hat]; exact hc0)
        rw [hat] at hat1
        exact ⟨free_Ok ho hil (by rw [hat]; exact hc0) hat1, Upto.mono (upto_free hil hu (by rw [hat])) (by omega)⟩
      · rw [if_neg h1]
        by_cases h3 : o.ask = 3
        · rw [if_pos h3]
          exact ⟨set_Ok ho hsi _, Upto.mono (upto_set hsi _ hu) (by omega)⟩
        · rw [if_neg h3]
          exact ⟨ho, hn⟩

set_option maxHeartbeats 1000000 in
set_option maxRecDepth 100000 in
theorem plays_bad (w : World) (n r : Int) (h : n < 1 ∨ 4096 < n ∨ r < 0 ∨ n < r) (a1 : Option Addr) (n1 c1 : Nat) : Calls Try.prog 3 #[.agg #[.int .i64 n, .int .i64 r], .slice a1 n1 c1] w (LawTrue w) := by
  have hn := fun (W : World) => new_bad (w := W) n r h
  have Hn := Lib.hid hn
  clear hn
  have hg : (decide (n < 1) = true ∧ n < 1) ∨ (decide (n < 1) = false ∧ decide (n > 4096) = true ∧ ¬ n < 1 ∧ 4096 < n) ∨ (decide (n < 1) = false ∧ decide (n > 4096) = false ∧ decide (r < 0) = true ∧ ¬ n < 1 ∧ ¬ 4096 < n ∧ r < 0) ∨ (decide (n < 1) = false ∧ decide (n > 4096) = false ∧ decide (r < 0) = false ∧ decide (r > n) = true ∧ ¬ n < 1 ∧ ¬ 4096 < n ∧ ¬ r < 0 ∧ n < r) := by
    simp only [decide_eq_true_eq, decide_eq_false_iff_not]
    omega
  clear h
  rcases hg with ⟨g1, g2⟩ | ⟨g1, g2, g3, g4⟩ | ⟨g1, g2, g3, g4, g5, g6⟩ | ⟨g1, g2, g3, g4, g5, g6, g7, g8⟩
  all_goals
    go_enter Try.func3, Try.ntmps3
    go_wp2_with fail
    refine (Hn.out _).mono ?_
    rintro e w1 ⟨rfl, rfl⟩
    go_wp2_with fail
    refine (awake_any _).mono ?_
    rintro e w3 ⟨rfl, hf⟩
    have H3 := Lib.hid hf
    clear hf
    go_wp2_with fail
    go_ret
    refine ⟨rfl, ?_⟩
    have hb := H3.out
    simp only [World.size_alloc] at hb
    exact (Frm.below ((Frm.refl [] w).alloc _) (Nat.le_refl _) (by simp)).trans (hb.mono (by omega))

set_option maxHeartbeats 1000000 in
set_option maxRecDepth 100000 in
theorem plays_out (w : World) (n r : Nat) (h1 : 1 ≤ n) (h2 : n ≤ 4096) (h3 : r ≤ n) (a1 : Option Addr) (n1 c1 : Nat) (h : 60 < n1) : Calls Try.prog 3 #[.agg #[.int .i64 (n : Int), .int .i64 (r : Int)], .slice a1 n1 c1] w (LawTrue w) := by
  have g1 : decide ((n : Int) < 1) = false := by rw [decide_eq_false_iff_not]; omega
  have g2 : decide ((n : Int) > 4096) = false := by rw [decide_eq_false_iff_not]; omega
  have g3 : decide ((r : Int) < 0) = false := by rw [decide_eq_false_iff_not]; omega
  have g4 : decide ((r : Int) > (n : Int)) = false := by rw [decide_eq_false_iff_not]; omega
  have g5 : decide ((n1 : Int) ≤ 60) = false := by rw [decide_eq_false_iff_not]; omega
  have hA := (Holds.start w).alloc noneR_stable (.cells #[.int .i64 (n : Int), .int .i64 (r : Int)] 22)
  have HA := Lib.hid hA
  clear hA
  go_enter Try.func3, Try.ntmps3
  go_wp2_with fail
  refine (new_goes noneR_stable HA.out n r h1 h2 h3).mono ?_
  rintro e w1 ⟨rfl, h4⟩
  obtain ⟨e0, e1⟩ := cells2 (h4.box (k := w.heap.size) (o := .cells #[.int .i64 (n : Int), .int .i64 (r : Int)] 22) (by simp))
  have H1 := Lib.hid h4
  clear h4
  go_wp2_with fail
  refine (few_any _ a1 n1 c1).mono ?_
  rintro e w2 ⟨rfl, rfl⟩
  rw [g5]
  go_wp2_with fail
  refine (awake_any _).mono ?_
  rintro e w3 ⟨rfl, hf⟩
  have H3 := Lib.hid (H1.out.made (sepR_stable (slabR_stable _ _) noneR_stable) (Frm.of_below hf (Nat.le_refl _)))
  clear hf H1
  go_wp2_with fail
  go_ret
  exact ⟨rfl, H3.out.below⟩

abbrev twoBox (n r : Nat) : Obj := .cells #[.int .i64 (n : Int), .int .i64 (r : Int)] 22
def PlayRel (w : World) (P A C n r m : Nat) (iv : Value) (wr : World) : Prop :=
  ∃ (i : Nat) (s : St) (l : List (Int × Int)), i ≤ m ∧ iv = .int .i64 (i : Int) ∧ s.Ok ∧ s.Upto i ∧ l.length = i ∧ Holds w.heap.size w (playR P A C s l noneR) wr [(w.heap.size, twoBox n r)]

set_option maxHeartbeats 4000000 in
set_option maxRecDepth 100000 in
theorem plays_in (w : World) (n r : Nat) (h1 : 1 ≤ n) (h2 : n ≤ 4096) (h3 : r ≤ n) (a1 : Option Addr) (n1 c1 : Nat) (l1 : List OpV) (hl : OpsAt w a1 n1 c1 l1) (h : n1 ≤ 60) : Calls Try.prog 3 #[.agg #[.int .i64 (n : Int), .int .i64 (r : Int)], .slice a1 n1 c1] w (LawTrue w) := by
  have g1 : decide ((n : Int) < 1) = false := by rw [decide_eq_false_iff_not]; omega
  have g2 : decide ((n : Int) > 4096) = false := by rw [decide_eq_false_iff_not]; omega
  have g3 : decide ((r : Int) < 0) = false := by rw [decide_eq_false_iff_not]; omega
  have g4 : decide ((r : Int) > (n : Int)) = false := by rw [decide_eq_false_iff_not]; omega
  have g5 : decide ((n1 : Int) ≤ 60) = true := by rw [decide_eq_true_eq]; omega
  have gc1 := hl.2.1
  have Hl := Lib.hid hl
  have hA := (Holds.start w).alloc noneR_stable (twoBox n r)
  have HA := Lib.hid hA
  clear hA hl
  go_enter Try.func3, Try.ntmps3
  go_wp2_with fail
  refine (new_goes noneR_stable HA.out n r h1 h2 h3).mono ?_
  rintro e w1 ⟨rfl, h4⟩
  obtain ⟨e0, e1⟩ := cells2 (h4.box (k := w.heap.size) (o := twoBox n r) (by simp))
  have H1 := Lib.hid h4
  clear h4
  go_wp2_with fail
  refine (few_any _ a1 n1 c1).mono ?_
  rintro e w2 ⟨rfl, rfl⟩
  rw [g5]
  go_wp2_with fail
  refine (rnew_goes (sepR_stable (slabR_stable _ _) noneR_stable) H1.out n r h2).mono ?_
  rintro e w3 ⟨C, rfl, hC, h5⟩
  obtain ⟨A, hA⟩ : ∃ A, (w.alloc (twoBox n r)).heap.size = A := ⟨_, rfl⟩
  rw [hA] at h5
  have h6 := (h5.conv Conv.exch).newBox (sepR_stable (slabR_stable _ _) (sepR_stable (refR_stable _ _) noneR_stable)) #[.pointer (some ⟨A, 0, none⟩), .pointer (some ⟨C, 0, none⟩), .slice none 0 0] 35
  have h7 : Holds w.heap.size w (play0 w3.heap.size A C ⟨n, r, [], []⟩ ⟨n, r, [], []⟩ [] none 0 noneR) _ [(w.heap.size, twoBox n r)] := (h6.nilRow 38 2).conv Conv.exch
  have hloop : PlayRel w w3.heap.size A C n r n1 (.int .i64 0) _ := ⟨0, _, [], Nat.zero_le _, rfl, new_Ok h2 h3, new_Upto n r, rfl, h7.playShut⟩
  have Hloop := Lib.hid hloop
  have hA2 : w.heap.size + 1 = A := by rw [← hA]; simp
  have HAe := Lib.hid hA2
  clear hA2 h5 h6 h7 hloop hA H1 HA e0 e1
  rw [HAe.out]
  go_wp2_with fail
  generalize w3.heap.size = P at Hloop ⊢
  go_loopw [8] (fun iv wr => PlayRel w P A C n r n1 iv wr) (fun iv _ => n1 - (intOf iv).toNat)
  case atStart => exact Hloop.out
  case round =>
    obtain ⟨i, s, l, hi, rfl, ho, hu, hll, hH⟩ := hrel
    have HH := Lib.hid hH
    have Ho := Lib.hid ho
    have Hu := Lib.hid hu
    clear hH ho hu Hloop
    by_cases hlt : i < n1
    · obtain ⟨bl, off, ⟨ask, cls, urg, vv, att, hs, ht⟩, rfl, hblt, hok, hwf, p0, p1, p2, p3, p4, p5, p6⟩ := Hl.out.at_ hlt
      have q0 := (HH.out.oldCell hblt).trans p0
      have q1 := (HH.out.oldCell hblt).trans p1
      have q2 := (HH.out.oldCell hblt).trans p2
      have q3 := (HH.out.oldCell hblt).trans p3
      have q4 := (HH.out.oldCell hblt).trans p4
      have q5 := (HH.out.oldCell hblt).trans p5
      have q6 := (HH.out.oldCell hblt).trans p6
      have Hp := Lib.hid (And.intro p0 (And.intro p1 (And.intro p2 (And.intro p3 (And.intro p4 (And.intro p5 p6))))))
      dsimp only at q0 q1 q2 q3 q4 q5 q6
      obtain ⟨a0, c0, h0⟩ := HH.out.playOpen
      obtain ⟨d0, d1, _⟩ := h0.pCells
      have dP := h0.pLt
      have hble := HH.out.le
      have hlt' : bl < wr.heap.size := by omega
      have htu : s.turn ≤ 1000000 := by have := upto_turn Ho.out Hu.out; omega
      have hwr : IntKind.i64.wrap ((i : Int) + 1) = (i : Int) + 1 := IntWalk.i64_in _ (by omega)
      have i0 : (0 : Int) ≤ (i : Int) := by omega
      have i1 : (i : Int) < (n1 : Int) := by omega
      have gi1 : decide ((i : Int) < (n1 : Int)) = true := by rw [decide_eq_true_eq]; omega
      have hkeep := doesS_keeps (l := l) (o := ⟨ask, cls, urg, vv, att, hs, ht⟩) Ho.out Hu.out
      obtain ⟨s7, hs7⟩ : ∃ s7, doesS s l ⟨ask, cls, urg, vv, att, hs, ht⟩ = s7 := ⟨_, rfl⟩
      obtain ⟨l7, hl7⟩ : ∃ l7, l ++ [doesH s ⟨ask, cls, urg, vv, att, hs, ht⟩] = l7 := ⟨_, rfl⟩
      have hl7l : l7.length = i + 1 := by rw [← hl7, ← hll]; simp
      rw [hs7] at hkeep
      have Hkeep := Lib.hid hkeep
      have Hs7 := Lib.hid hs7
      have Hl7 := Lib.hid hl7
      have Hl7l := Lib.hid hl7l
      have hsB : ∀ (a : Option Addr) (c : Nat), Stable (sepR (boxR P #[.pointer (some ⟨A, 0, none⟩), .pointer (some ⟨C, 0, none⟩), .slice a l7.length c] 35) (sepR (rowR 38 2 (.slice a l7.length c) l7.length (handleCells l7)) noneR)) := fun a c => sepR_stable (boxR_stable _ _ _) (sepR_stable (rowR_stable _ _ _ _ _) noneR_stable)
      have hl1000 : l.length ≤ 1000 := by omega
      have Hd := Lib.hid (HH.out.drew (playR_stable noneR_stable _ _ _ _ _))
      clear h0 hok hwf p0 p1 p2 p3 p4 p5 p6 hkeep hs7 hl7 hl7l hll hi
      go_wp2_with fail
      go_region_held3 (fun w' => w'.cell? ⟨bl, off + i * 7, none⟩ = some (.int .i64 ask) ∧ w'.cell? ⟨bl, off + i * 7 + 1, none⟩ = some (.int .i64 cls) ∧ w'.cell? ⟨bl, off + i * 7 + 2, none⟩ = some (.bool urg) ∧ w'.cell? ⟨bl, off + i * 7 + 3, none⟩ = some (.int .i64 vv) ∧
          w'.cell? ⟨bl, off + i * 7 + 4, none⟩ = some (.int .i64 att) ∧ w'.cell? ⟨bl, off + i * 7 + 5, none⟩ = some (.int .i64 hs) ∧ w'.cell? ⟨bl, off + i * 7 + 6, none⟩ = some (.int .i64 ht) ∧ w'.cell? ⟨P, 0, none⟩ = some (.pointer (some ⟨A, 0, none⟩)) ∧ w'.cell? ⟨P, 1, none⟩ = some (.pointer (some ⟨C, 0, none⟩)))
        (first | exact ⟨q0, q1, q2, q3, q4, q5, q6, d0, d1⟩ | exact ⟨r0, r1, r2, r3, r4, r5, r6, r7, r8⟩ | exact ⟨t0, t1, t2, t3, t4, t5, t6, t7, t8⟩)
        ((first
          | (go_at_call 14
             refine (same_goes (hsB a5 c5) H5.out Hkeep.out.1 H5.out.boxes).mono ?_
             rintro e w6 ⟨rfl, h6⟩
             have h8 := (h6.conv (Conv.right Conv.toThird)).pSlab'
             have t0 := (h8.oldCell hblt).trans (Hp.out.1)
             have t1 := (h8.oldCell hblt).trans (Hp.out.2.1)
             have t2 := (h8.oldCell hblt).trans (Hp.out.2.2.1)
             have t3 := (h8.oldCell hblt).trans (Hp.out.2.2.2.1)
             have t4 := (h8.oldCell hblt).trans (Hp.out.2.2.2.2.1)
             have t5 := (h8.oldCell hblt).trans (Hp.out.2.2.2.2.2.1)
             have t6 := (h8.oldCell hblt).trans (Hp.out.2.2.2.2.2.2)
             obtain ⟨t7, t8, _⟩ := h8.pCells
             have H8 := Lib.hid h8
             clear h6 h8)
          | (go_at_call 13
             refine (does_any noneR_stable Hd.out Ho.out htu hl1000 ⟨ask, cls, urg, vv, att, hs, ht⟩ Hd.out.boxes).mono ?_
             rintro e w4 ⟨rfl, h4⟩
             rw [Hs7.out, Hl7.out] at h4
             obtain ⟨a5, c5, h5⟩ := h4.playOpen
             have r0 := (h5.oldCell hblt).trans (Hp.out.1)
             have r1 := (h5.oldCell hblt).trans (Hp.out.2.1)
             have r2 := (h5.oldCell hblt).trans (Hp.out.2.2.1)
             have r3 := (h5.oldCell hblt).trans (Hp.out.2.2.2.1)
             have r4 := (h5.oldCell hblt).trans (Hp.out.2.2.2.2.1)
             have r5 := (h5.oldCell hblt).trans (Hp.out.2.2.2.2.2.1)
             have r6 := (h5.oldCell hblt).trans (Hp.out.2.2.2.2.2.2)
             obtain ⟨r7, r8, _⟩ := h5.pCells
             have H5 := Lib.hid (show Holds w.heap.size w (bothR A C s7 _) w4 _ from (h5.pSlab).conv (Conv.right Conv.third))
             clear h4 h5)))
      go_wp2_with fail
      go_roundw
      case rel => exact ⟨i + 1, s7, l7, by omega, by go_num, Hkeep.out.1, by have := Hkeep.out.2; simpa using this, Hl7l.out, H8.out.playShut⟩
      case measure => simp [intOf]; omega
    · obtain rfl : i = n1 := by omega
      go_wp2_with fail
      refine (awake_any _).mono ?_
      rintro e w4 ⟨rfl, hf⟩
      have H3 := Lib.hid (HH.out.made (playR_stable noneR_stable _ _ _ _ _) (Frm.of_below hf (Nat.le_refl _)))
      clear hf HH
      go_wp2_with fail
      go_ret
      exact ⟨rfl, H3.out.below⟩

theorem plays_any (w : World) (n r : Int) (a1 : Option Addr) (n1 c1 : Nat) (l1 : List OpV) (hl : OpsAt w a1 n1 c1 l1) : Calls Try.prog 3 #[.agg #[.int .i64 n, .int .i64 r], .slice a1 n1 c1] w (LawTrue w) := by
  by_cases h : n < 1 ∨ 4096 < n ∨ r < 0 ∨ n < r
  · exact plays_bad w n r h a1 n1 c1
  · obtain ⟨n, rfl⟩ : ∃ m : Nat, n = (m : Int) := ⟨n.toNat, by omega⟩
    obtain ⟨r, rfl⟩ : ∃ m : Nat, r = (m : Int) := ⟨r.toNat, by omega⟩
    by_cases h2 : n1 ≤ 60
    · exact plays_in w n r (by omega) (by omega) (by omega) a1 n1 c1 l1 hl h2
    · exact plays_out w n r (by omega) (by omega) (by omega) a1 n1 c1 (by omega)
end Go.Proofs.Ytpfolcoijncfjaa
