/- SlabCopies, walked. -/
import Derived.Test.YtpfolcoijncfjaaSlabCopA
namespace Go.Proofs.Ytpfolcoijncfjaa
open Go.RowKit Go.Shelf
attribute [local go_sem] Oper.semAt_some

set_option maxHeartbeats 2000000 in
set_option maxRecDepth 100000 in
theorem copies_out (w : World) (n : Int) (a1 : Option Addr) (n1 c1 : Nat) (a2 : Option Addr) (n2 c2 : Nat) (h : n < 1 ∨ n > 40 ∨ 60 < n1 ∨ 60 < n2) : Calls Try.prog 4 #[.int .i64 n, .slice a1 n1 c1, .slice a2 n2 c2] w (LawTrue w) := by
  have hg : (decide (n < 1) = true) ∨ (decide (n < 1) = false ∧ decide (n > 40) = true) ∨ (decide (n < 1) = false ∧ decide (n > 40) = false ∧ decide ((n1 : Int) ≤ 60) = false) ∨ (decide (n < 1) = false ∧ decide (n > 40) = false ∧ decide ((n1 : Int) ≤ 60) = true ∧ decide ((n2 : Int) ≤ 60) = false) := by
    simp only [decide_eq_true_eq, decide_eq_false_iff_not]
    omega
  have H0 := Lib.hid ((Holds.start w).alloc noneR_stable (.cells #[.bool false] 4))
  clear h
  rcases hg with g1 | ⟨g1, g2⟩ | ⟨g1, g2, g3⟩ | ⟨g1, g2, g3, g4⟩
  · go_enter Try.func4, Try.ntmps4
    go_wp2_with fail
    refine (awake_any _).mono ?_
    rintro e v3 ⟨rfl, hf⟩
    have h2 := H0.out.made noneR_stable (Frm.of_below hf (Nat.le_refl _))
    have ob := h2.box (k := w.heap.size) (o := .cells #[.bool false] 4) (by simp)
    have u1 := cells1 ob
    have u0 : v3.frozen? ⟨w.heap.size, 0, none⟩ = false := frozen_of_obj ob 0
    have zu := lt_of_obj ob
    have H2 := Lib.hid h2
    have g9 := cells1 (obj_setCell ob 0 (.bool true))
    clear hf h2 ob
    go_wp2_with fail
    exact bodyPost_ret (v := .bool true) (by simp [results, Try.results4, go_sem, g9]) rfl ⟨rfl, H2.out.below.setCell (p := ⟨w.heap.size, 0, none⟩) (Nat.le_refl _) _⟩
  · go_enter Try.func4, Try.ntmps4
    go_wp2_with fail
    refine (awake_any _).mono ?_
    rintro e v3 ⟨rfl, hf⟩
    have h2 := H0.out.made noneR_stable (Frm.of_below hf (Nat.le_refl _))
    have ob := h2.box (k := w.heap.size) (o := .cells #[.bool false] 4) (by simp)
    have u1 := cells1 ob
    have u0 : v3.frozen? ⟨w.heap.size, 0, none⟩ = false := frozen_of_obj ob 0
    have zu := lt_of_obj ob
    have H2 := Lib.hid h2
    have g9 := cells1 (obj_setCell ob 0 (.bool true))
    clear hf h2 ob
    go_wp2_with fail
    exact bodyPost_ret (v := .bool true) (by simp [results, Try.results4, go_sem, g9]) rfl ⟨rfl, H2.out.below.setCell (p := ⟨w.heap.size, 0, none⟩) (Nat.le_refl _) _⟩
  · go_enter Try.func4, Try.ntmps4
    go_wp2_with fail
    refine (few_any _ a1 n1 c1).mono ?_
    rintro e w2 ⟨rfl, rfl⟩
    rw [g3]
    go_wp2_with fail
    refine (awake_any _).mono ?_
    rintro e v3 ⟨rfl, hf⟩
    have h2 := H0.out.made noneR_stable (Frm.of_below hf (Nat.le_refl _))
    have ob := h2.box (k := w.heap.size) (o := .cells #[.bool false] 4) (by simp)
    have u1 := cells1 ob
    have u0 : v3.frozen? ⟨w.heap.size, 0, none⟩ = false := frozen_of_obj ob 0
    have zu := lt_of_obj ob
    have H2 := Lib.hid h2
    have g9 := cells1 (obj_setCell ob 0 (.bool true))
    clear hf h2 ob
    go_wp2_with fail
    exact bodyPost_ret (v := .bool true) (by simp [results, Try.results4, go_sem, g9]) rfl ⟨rfl, H2.out.below.setCell (p := ⟨w.heap.size, 0, none⟩) (Nat.le_refl _) _⟩
  · go_enter Try.func4, Try.ntmps4
    go_wp2_with fail
    refine (few_any _ a1 n1 c1).mono ?_
    rintro e w2 ⟨rfl, rfl⟩
    rw [g3]
    go_wp2_with fail
    refine (few_any _ a2 n2 c2).mono ?_
    rintro e w2 ⟨rfl, rfl⟩
    rw [g4]
    go_wp2_with fail
    refine (awake_any _).mono ?_
    rintro e v3 ⟨rfl, hf⟩
    have h2 := H0.out.made noneR_stable (Frm.of_below hf (Nat.le_refl _))
    have ob := h2.box (k := w.heap.size) (o := .cells #[.bool false] 4) (by simp)
    have u1 := cells1 ob
    have u0 : v3.frozen? ⟨w.heap.size, 0, none⟩ = false := frozen_of_obj ob 0
    have zu := lt_of_obj ob
    have H2 := Lib.hid h2
    have g9 := cells1 (obj_setCell ob 0 (.bool true))
    clear hf h2 ob
    go_wp2_with fail
    exact bodyPost_ret (v := .bool true) (by simp [results, Try.results4, go_sem, g9]) rfl ⟨rfl, H2.out.below.setCell (p := ⟨w.heap.size, 0, none⟩) (Nat.le_refl _) _⟩

def CRel (w : World) (P A C m : Nat) (iv : Value) (wr : World) : Prop :=
  ∃ (i : Nat) (s : St) (l : List (Int × Int)), i ≤ m ∧ iv = .int .i64 (i : Int) ∧ s.Ok ∧ s.Upto i ∧ l.length = i ∧ Holds w.heap.size w (playR P A C s l noneR) wr [(w.heap.size, .cells #[.bool false] 4)]
/-- What lies beside in the second loop: the copy, the document's, what All went through. -/
abbrev cQ (N R : Nat) (s : St) (a : Option Addr) (c : Nat) : World → List Nat → Prop :=
  sepR (slabR N s) (sepR (refR R s.ref) (sepR (rowR 75 3 (.slice a s.slots.length c) s.slots.length (slotCells s.slots)) noneR))
theorem cQ_stable (N R : Nat) (s : St) (a : Option Addr) (c : Nat) : Stable (cQ N R s a c) := sepR_stable (slabR_stable _ _) (sepR_stable (refR_stable _ _) (sepR_stable (rowR_stable _ _ _ _ _) noneR_stable))
abbrev cL (w : World) (b13 R g : Nat) (s : St) (a : Option Addr) (c : Nat) : List (Nat × Obj) := [(b13, .cells #[.pointer (some ⟨R, 0, none⟩)] 31), (g, .cells #[.slice a s.slots.length c] 66), (w.heap.size, .cells #[.bool false] 4)]
def CRel2 (w : World) (P A C N R b13 g : Nat) (s : St) (a : Option Addr) (c n1 m : Nat) (iv : Value) (wr : World) : Prop :=
  ∃ (i : Nat) (s2 : St) (l2 : List (Int × Int)), i ≤ m ∧ iv = .int .i64 (i : Int) ∧ s2.Ok ∧ s2.Upto ((n1 + i : Nat) : Int) ∧ l2.length = n1 + i ∧ Holds w.heap.size w (playR P A C s2 l2 (cQ N R s a c)) wr (cL w b13 R g s a c)

set_option maxHeartbeats 8000000 in
set_option maxRecDepth 100000 in
theorem copies_in (w : World) (n : Nat) (h1 : 1 ≤ n) (h2 : n ≤ 40) (a1 : Option Addr) (n1 c1 : Nat) (l1 : List OpV) (hl : OpsAt w a1 n1 c1 l1) (h3 : n1 ≤ 60) (a2 : Option Addr) (n2 c2 : Nat) (m1 : List OpV) (hm : OpsAt w a2 n2 c2 m1) (h4 : n2 ≤ 60) :
    Calls Try.prog 4 #[.int .i64 (n : Int), .slice a1 n1 c1, .slice a2 n2 c2] w (LawTrue w) := by
  have g1 : decide ((n : Int) < 1) = false := by rw [decide_eq_false_iff_not]; omega
  have g2 : decide ((n : Int) > 40) = false := by rw [decide_eq_false_iff_not]; omega
  have g5 : decide ((n1 : Int) ≤ 60) = true := by rw [decide_eq_true_eq]; omega
  have g6 : decide ((n2 : Int) ≤ 60) = true := by rw [decide_eq_true_eq]; omega
  have gc1 := hl.2.1
  have gc2 := hm.2.1
  have Hl := Lib.hid hl
  have Hm := Lib.hid hm
  clear hl hm
  refine (callsIn_wide (n := 3)).1 ?_
  refine callsIn_of_wp_marks Try.func4 rfl trivial ?_ rfl
  simp only [Try.ntmps4, List.size_toArray, List.length_cons, List.length_nil, Nat.reduceAdd, Nat.reduceSub, Array.replicate_succ, Array.replicate_zero, List.push_toArray, List.append_toArray, List.nil_append, List.cons_append]
  refine wpIn_wide.2 ?_
  have H0 := Lib.hid ((Holds.start w).alloc noneR_stable (.cells #[.bool false] 4))
  go_wp2_with fail
  refine (few_any _ a1 n1 c1).mono ?_
  rintro e w2 ⟨rfl, rfl⟩
  rw [g5]
  go_wp2_with fail
  refine (few_any _ a2 n2 c2).mono ?_
  rintro e w2 ⟨rfl, rfl⟩
  rw [g6]
  go_wp2_with fail
  refine (new_goes noneR_stable H0.out n 0 h1 (by omega) (by omega)).mono ?_
  rintro e w1 ⟨rfl, h4⟩
  have H1 := Lib.hid h4
  clear h4
  go_wp2_with fail
  refine (rnew_goes (sepR_stable (slabR_stable _ _) noneR_stable) H1.out n 0 (by omega)).mono ?_
  rintro e w3 ⟨C, rfl, hC, h5⟩
  obtain ⟨A, hA⟩ : ∃ A, (w.alloc (.cells #[.bool false] 4)).heap.size = A := ⟨_, rfl⟩
  rw [hA] at h5
  have h6 := (h5.conv Conv.exch).newBox (sepR_stable (slabR_stable _ _) (sepR_stable (refR_stable _ _) noneR_stable)) #[.pointer (some ⟨A, 0, none⟩), .pointer (some ⟨C, 0, none⟩), .slice none 0 0] 35
  have h7 : Holds w.heap.size w (play0 w3.heap.size A C ⟨n, 0, [], []⟩ ⟨n, 0, [], []⟩ [] none 0 noneR) _ [(w.heap.size, .cells #[.bool false] 4)] := (h6.nilRow 38 2).conv Conv.exch
  have hloop : CRel w w3.heap.size A C n1 (.int .i64 0) _ := ⟨0, _, [], Nat.zero_le _, rfl, new_Ok (by omega) (by omega), new_Upto n 0, rfl, h7.playShut⟩
  have Hloop := Lib.hid hloop
  have hA2 : w.heap.size + 1 = A := by rw [← hA]; simp
  have HAe := Lib.hid hA2
  clear hA2 h5 h6 h7 hloop hA H1 H0
  rw [HAe.out]
  go_wp2_with fail
  generalize w3.heap.size = P at Hloop ⊢
  go_loopw [10] (fun iv wr => CRel w P A C n1 iv wr) (fun iv _ => n1 - (intOf iv).toNat)
  case atStart => exact Hloop.out
  case round =>
    obtain ⟨i, s, l, hi, rfl, ho, hu, hll, hH⟩ := hrel
    have HH := Lib.hid hH
    have Ho := Lib.hid ho
    have Hu := Lib.hid hu
    clear hH ho hu Hloop
    by_cases hlt : i < n1
    · obtain ⟨bl, off, ⟨ask, cls, urg, vv, att, hs, ht⟩, rfl, hblt, hok, hwf, p0, p1, p2, p3, p4, p5, p6⟩ := Hl.out.at_ hlt
      have q0 := (HH.out.oldCell hblt).trans p0
      have q1 := (HH.out.oldCell hblt).trans p1
      have q2 := (HH.out.oldCell hblt).trans p2
      have q3 := (HH.out.oldCell hblt).trans p3
      have q4 := (HH.out.oldCell hblt).trans p4
      have q5 := (HH.out.oldCell hblt).trans p5
      have q6 := (HH.out.oldCell hblt).trans p6
      dsimp only at q0 q1 q2 q3 q4 q5 q6
      have hble := HH.out.le
      have hlt' : bl < wr.heap.size := by omega
      have htu : s.turn ≤ 1000000 := by have := upto_turn Ho.out Hu.out; omega
      have hwr : IntKind.i64.wrap ((i : Int) + 1) = (i : Int) + 1 := IntWalk.i64_in _ (by omega)
      have i0 : (0 : Int) ≤ (i : Int) := by omega
      have i1 : (i : Int) < (n1 : Int) := by omega
      have gi1 : decide ((i : Int) < (n1 : Int)) = true := by rw [decide_eq_true_eq]; omega
      have hkeep := doesS_keeps (l := l) (o := ⟨ask, cls, urg, vv, att, hs, ht⟩) Ho.out Hu.out
      have Hkeep := Lib.hid hkeep
      have hl1000 : l.length ≤ 1000 := by omega
      have hd := does_any noneR_stable HH.out Ho.out htu hl1000 ⟨ask, cls, urg, vv, att, hs, ht⟩ HH.out.boxes
      have Hd := Lib.hid hd
      have Hll := Lib.hid hll
      clear hok hwf p0 p1 p2 p3 p4 p5 p6 hkeep hd hll HH
      go_wp2_with fail
      refine Hd.out.mono ?_
      rintro e w4 ⟨rfl, h5⟩
      have H4 := Lib.hid h5
      clear h5 Hd q0 q1 q2 q3 q4 q5 q6
      go_wp2_with fail
      go_roundw
      case rel => exact ⟨i + 1, _, _, by omega, by go_num, Hkeep.out.1, Upto.mono Hkeep.out.2 (by omega), by rw [List.length_append, List.length_singleton, Hll.out], H4.out⟩
      case measure => simp [intOf]; omega
    · obtain rfl : i = n1 := by omega
      have hsP := playR_stable noneR_stable P A C s l
      obtain ⟨a0, c0, h0⟩ := HH.out.playOpen
      obtain ⟨sv, fv, hS⟩ := h0.pSlab.slabAt
      have hcp := copy_any hS Ho.out
      have Hcp := Lib.hid hcp
      clear h0 hS hcp
      go_wp2_with fail
      refine Hcp.out.mono ?_
      rintro e w2 ⟨N, rfl, h5⟩
      have h6 := sepR_unit (HH.out.join hsP h5)
      have hsP2 := sepR_stable (slabR_stable N s) hsP
      obtain ⟨a0, c0, h0⟩ := h6.drop.playOpen
      obtain ⟨sv, fv, hS⟩ := h0.pSlab.slabAt
      have hal := all_any hS Ho.out
      have H6 := Lib.hid h6
      have Hal := Lib.hid hal
      clear h5 h6 h0 hS hal Hcp HH
      go_wp2_with fail
      refine Hal.out.mono ?_
      rintro e w3 ⟨a, c, g, rfl, hg, hA⟩
      have h10 := sepR_unit (H6.out.joinL hsP2 hA (by simp; exact hg))
      have hsP3 := sepR_stable (rowR_stable 75 3 (.slice a s.slots.length c) s.slots.length (slotCells s.slots)) hsP2
      obtain ⟨a0, c0, h0⟩ := h10.drop.drop.playOpen
      obtain ⟨_, d1, _⟩ := h0.pCells
      have dP := h0.pLt
      obtain ⟨lv, fv, hR⟩ := h0.pRef
      have hrm := Ho.out.room
      have hfl := Ho.out.freed_le
      have hsl0 := Ho.out.len
      have hrc := rcopy_any hR (by show s.full.length ≤ 4096; rw [full_len]; omega) (by show s.freed.length ≤ 4096; omega)
      have H10 := Lib.hid h10
      have Hrc := Lib.hid hrc
      clear hg hA h10 h0 hR hrc Hal H6 hrm hfl hsl0
      go_wp2_with fail
      refine Hrc.out.mono ?_
      rintro e w4 ⟨R, rfl, h5⟩
      have h11 := sepR_unit (H10.out.join hsP3 h5)
      have hsP4 := sepR_stable (refR_stable R s.ref) hsP3
      have h12 := (h11.alloc hsP4 (.cells #[.pointer (some ⟨R, 0, none⟩)] 31)).conv Conv.third
      obtain ⟨b13, hb13⟩ : ∃ b, w4.heap.size = b := ⟨_, rfl⟩
      have hsm := same_goes (sepR_stable (rowR_stable _ _ _ _ _) hsP) h12 Ho.out h12.boxes
      have hfn := func_all2 g
      have t0 := cells1 (h12.box (k := w4.heap.size) (o := .cells #[.pointer (some ⟨R, 0, none⟩)] 31) (by simp))
      have tz := World.block_lt_of_cell? _ _ t0
      dsimp only at tz
      have Hsm := Lib.hid hsm
      clear h5 h11 h12 hsm Hrc H10 d1 dP
      go_wp2_with fail
      refine Hsm.out.mono ?_
      rintro e w5 ⟨rfl, h7⟩
      rw [hb13] at h7
      try rw [hb13]
      have h8 := (h7.conv ((Conv.playIn.right.right).trans (Conv.playIn.right.trans Conv.playIn))).sub (M := cL w b13 R g s a c) (fun p hp => by simpa using hp)
      have hloop2 : CRel2 w P A C N R b13 g s a c i n2 (.int .i64 0) w5 := ⟨0, s, l, Nat.zero_le _, rfl, Ho.out, by simpa using Hu.out, by simpa using hll, h8⟩
      have Hloop2 := Lib.hid hloop2
      clear h7 h8 hloop2 Hsm hfn t0 tz hb13 hsP hsP2 hsP3 hsP4
      go_wp2_with fail
      go_loopw [14] (fun iv wr => CRel2 w P A C N R b13 g s a c i n2 iv wr) (fun iv _ => n2 - (intOf iv).toNat)
      case atStart => exact Hloop2.out
      case round =>
        rename World => wy
        obtain ⟨j, s2, l2, hj, rfl, ho2, hu2, hll2, hH⟩ := hrel
        have HY := Lib.hid hH
        have Ho2 := Lib.hid ho2
        have Hu2 := Lib.hid hu2
        clear hH ho2 hu2 Hloop2
        by_cases hlt2 : j < n2
        · obtain ⟨bl, off, ⟨ask, cls, urg, vv, att, hs, ht⟩, rfl, hblt, hok, hwf, p0, p1, p2, p3, p4, p5, p6⟩ := Hm.out.at_ hlt2
          have q0 := (HY.out.oldCell hblt).trans p0
          have q1 := (HY.out.oldCell hblt).trans p1
          have q2 := (HY.out.oldCell hblt).trans p2
          have q3 := (HY.out.oldCell hblt).trans p3
          have q4 := (HY.out.oldCell hblt).trans p4
          have q5 := (HY.out.oldCell hblt).trans p5
          have q6 := (HY.out.oldCell hblt).trans p6
          dsimp only at q0 q1 q2 q3 q4 q5 q6
          have hble := HY.out.le
          have hlt' : bl < wy.heap.size := by omega
          have htu : s2.turn ≤ 1000000 := by have := upto_turn Ho2.out Hu2.out; omega
          have hwr : IntKind.i64.wrap ((j : Int) + 1) = (j : Int) + 1 := IntWalk.i64_in _ (by omega)
          have i0 : (0 : Int) ≤ (j : Int) := by omega
          have i1 : (j : Int) < (n2 : Int) := by omega
          have gi1 : decide ((j : Int) < (n2 : Int)) = true := by rw [decide_eq_true_eq]; omega
          have hkeep := doesS_keeps (l := l2) (o := ⟨ask, cls, urg, vv, att, hs, ht⟩) Ho2.out Hu2.out
          have Hkeep := Lib.hid hkeep
          have hl1000 : l2.length ≤ 1000 := by omega
          have hd := does_any (cQ_stable N R s a c) HY.out Ho2.out htu hl1000 ⟨ask, cls, urg, vv, att, hs, ht⟩ HY.out.boxes
          have Hd := Lib.hid hd
          have Hll := Lib.hid hll2
          clear hok hwf p0 p1 p2 p3 p4 p5 p6 hkeep hd hll2 HY
          go_wp2_with fail
          refine Hd.out.mono ?_
          rintro e w6 ⟨rfl, h5⟩
          have H4 := Lib.hid h5
          clear h5 Hd q0 q1 q2 q3 q4 q5 q6
          go_wp2_with fail
          go_roundw
          case rel => exact ⟨j + 1, _, _, by omega, by go_num, Hkeep.out.1, Upto.mono Hkeep.out.2 (by omega), by rw [List.length_append, List.length_singleton, Hll.out]; omega, H4.out⟩
          case measure => simp [intOf]; omega
        · obtain rfl : j = n2 := by omega
          have hsY := playR_stable (cQ_stable N R s a c) P A C s2 l2
          obtain ⟨a0, c0, h0⟩ := HY.out.playOpen
          have hrw9 := h0.drop.drop.drop.drop.drop.drop.row
          have hab : ∀ ad, a = some ad → ad.block < wy.heap.size := fun ad ha => by
            subst ha
            rcases row_nil_or hrw9 with ⟨hv, _⟩ | ⟨g', cc, hv, hg', _⟩
            · simp at hv
            · simp only [Value.slice.injEq, Option.some.injEq] at hv
              rw [hv.1]; exact hg'
          have h10 := HY.out.alloc hsY (.cells #[.int .i64 0] 3)
          obtain ⟨a0, c0, h0⟩ := h10.playOpen
          have hsl : SlAt slEnc 3 (wy.alloc (.cells #[.int .i64 0] 3)) a s.slots.length c s.slots := SlAt.of_row slEnc_len (by rw [flat_sl]; exact h0.drop.drop.drop.drop.drop.drop.row) rfl
          have hc := cells1 (h10.box (k := g) (o := .cells #[.slice a s.slots.length c] 66) (by simp))
          have hgl : g < wy.heap.size := lt_of_obj (HY.out.box (k := g) (o := .cells #[.slice a s.slots.length c] 66) (by simp))
          have hwl : w.heap.size < wy.heap.size := lt_of_obj (HY.out.box (k := w.heap.size) (o := .cells #[.bool false] 4) (by simp))
          have hbl : b13 < wy.heap.size := lt_of_obj (HY.out.box (k := b13) (o := .cells #[.pointer (some ⟨R, 0, none⟩)] 31) (by simp))
          have hnb := obj_new wy (.cells #[.int .i64 0] 3)
          have hsz : wy.heap.size ≤ (wy.alloc (.cells #[.int .i64 0] 3)).heap.size := by simp
          have hszz : (wy.alloc (.cells #[.int .i64 0] 3)).heap.size = wy.heap.size + 1 := by simp
          obtain ⟨nb, hnbe⟩ : ∃ nb, wy.heap.size = nb := ⟨_, rfl⟩
          have H10 := Lib.hid h10
          clear h0 h10 HY hrw9
          go_wp2_with fail
          refine (wpIn_wide (n := 3)).1 ?_
          have h11 := H10.out
          rw [hnbe] at hab hgl hwl hbl hsz hszz hnb h11
          try simp only [hnbe]
          generalize wy.alloc (.cells #[.int .i64 0] 3) = W0 at h11 hsz hszz hc hsl hnb ⊢
          have HW := Lib.hid h11
          clear h11 H10
          refine' wpIn_rangeFunc_box (F := Fence.wide) rfl (by omega) (gf := 33) (lb := #[.pointer (some ⟨g, 0, none⟩)]) rfl trivial (enters_of Try.func33 (by kernel_rfl) rfl)
            (allTwo_stops Fence.wide _ trivial rfl (by omega) g nb a c s.slots s.slots.length rfl (by have := Ho.out.len; have := Ho.out.room; omega) W0 hgl hsz hc hsl hab) belowK_t (belowK_b hsz) (Below.refl _ _) (fun _ => rfl)
            (fun pre W => W.heap[nb]? = some (.cells #[.int .i64 pre.length] 3) ∧ Frm [nb] W0 W) (fun _ pre _ => ¬ ∃ k, k ≤ (heldL s.slots 0).length ∧ pre = (heldL s.slots 0).take k)
            (OwnFrom.and (ownFrom_obj _ _ _ (fun pre : List (Nat × Int × Int) => #[Value.int .i64 pre.length])) (ownFrom_frm (Nat.le_refl _)))
            (fun c => ownFrom_pure _ _)
            ⟨hnb, Frm.refl _ _⟩ 38 (fun x : Nat × Int × Int => #[.int .i64 (x.1 : Int), .int .i64 x.2.1]) _ ?assign ?body ?done ?stop
          case assign =>
            rintro l pre x W K ⟨hn1, hf⟩ hK
            have Hn1 := Lib.hid hn1
            have HK := Lib.hid hK
            have Hf := Lib.hid hf
            clear hn1 hK hf
            gi_wp2
            have hle := Hf.out.size
            have h1 := obj_new W (.cells #[.int .i64 (x.1 : Int), .int .i64 x.2.1] 38)
            have h2 := (Below.refl nb W).alloc (by omega) (.cells #[.int .i64 (x.1 : Int), .int .i64 x.2.1] 38)
            generalize W.heap.size = Bx at hle h1 ⊢
            exact HK.out Bx _ ((KeepsOthers.alloc _ _).from _) h2 ⟨obj_alloc Hn1.out _, Hf.out.alloc _⟩ hle h1
          case body =>
            rintro l pre x Bx W hl ⟨hn1, hf⟩ hBx hK hlt
            have hH := HW.out.frmBox hsY hf (by omega) (by
              intro p hp
              simp only [cL, List.mem_cons, List.not_mem_nil, or_false] at hp
              rcases hp with rfl | rfl | rfl
              · dsimp only; omega
              · dsimp only; omega
              · dsimp only; omega) hn1
            obtain ⟨m, hm⟩ : ∃ m, pre.length = m := ⟨_, rfl⟩
            obtain ⟨a0, c0, h0⟩ := hH.playOpen
            obtain ⟨lv, fv, hR⟩ := h0.drop.drop.drop.drop.drop.refAt
            have hrm := Ho.out.room
            have hln := Ho.out.len
            have hhl := heldL_len s.slots 0
            have htl : ∀ q, Calls Try.prog 18 #[.pointer (some ⟨R, 0, none⟩), .int .i64 (x.1 : Int), .int .i64 x.2.1] (W.drewN q) fun e w' => e = .returned (.bool (tellsS s.full (x.1 : Int) x.2.1)) ∧ w' = W.drewN q := fun q =>
              (rtells_any (hR.kept ((Frm.refl [] W).drewN q) (by simp)) (by show s.full.length ≤ 10000; rw [full_len]; omega) _ _).mono fun _ _ ⟨e1, e2⟩ => ⟨e1, e2.symm⟩
            have zR := lt_of_obj hR.box
            have s0 := cells1 hn1
            have f0 : W.frozen? ⟨nb, 0, none⟩ = false := frozen_of_obj hn1 0
            have t0 := cells1 (hH.box (k := b13) (o := .cells #[.pointer (some ⟨R, 0, none⟩)] 31) (by simp))
            have u0 : W.frozen? ⟨w.heap.size, 0, none⟩ = false := frozen_of_obj (hH.box (k := w.heap.size) (o := .cells #[.bool false] 4) (by simp)) 0
            have u1 := cells1 (hH.box (k := w.heap.size) (o := .cells #[.bool false] 4) (by simp))
            have zu := lt_of_obj (hH.box (k := w.heap.size) (o := .cells #[.bool false] 4) (by simp))
            obtain ⟨r0, r1⟩ := cells2 hK
            have zB := lt_of_obj hK
            have zn := lt_of_obj hn1
            have hWs := hf.size
            rw [hm] at hlt s0
            have hwr : IntKind.i64.wrap ((m : Int) + 1) = (m : Int) + 1 := IntWalk.i64_in _ (by omega)
            have hts : (¬ x ∈ heldL s.slots 0) → ¬ ∃ k, k ≤ (heldL s.slots 0).length ∧ pre ++ [x] = (heldL s.slots 0).take k := by
              rintro hne ⟨k, _, he⟩
              refine hne (List.mem_of_mem_take (i := k) ?_)
              rw [← he]
              simp
            have Hn1 := Lib.hid hn1
            have Hf := Lib.hid hf
            have Hm9 := Lib.hid hm
            have fT : Fence.wide.fn 18 := trivial
            have d1 : 1 ≤ 3 - 1 - 1 := by omega
            clear hH h0 hn1 hK hf hm hnb hc hsl hab
            cases htt : tellsS s.full (x.1 : Int) x.2.1
            · have hno := hts fun hx => by
                have h1 := (held_tells Ho.out hx).1
                rw [htt] at h1
                cases h1
              simp only [htt] at htl
              have Htl := Lib.hid htl
              have Hno := Lib.hid hno
              clear hno hts htl hR htt
              gi_wp2_with fail
              refine wpIn_region_quiet_plain (by kernel_rfl) (by kernel_rfl) (by kernel_rfl) ?_
              repeat (gi_big_quiet_step ((gi_at_call 18; exact CallsIn.quiet_of_same (CallsIn.inRound l (callsIn_wide.2 (Htl.out _))))))
              refine wpQuietIn_nil ?_
              rintro _ ⟨nq, rfl⟩
              gi_wp2_with fail
              exact ⟨((drewN_keeps W nq).trans (KeepsOthers.setCell _ _ _)).from _, Hno.out⟩
            · obtain ⟨cc, vv, hfx⟩ := tells_full htt
              obtain ⟨g2, cap2, rfl, hg2, hca, p0, p1, p2, _⟩ := hR.slot (c := cc) (t := x.2.1) (v := vv) (i := x.1) hfx
              have hRc := hR.c0
              have hxl : x.1 < s.room := by have := (List.getElem?_eq_some_iff.1 hfx).1; rw [full_len] at this; exact this
              rw [show s.ref.L.length = s.room from full_len s] at hRc
              have i0 : (0 : Int) ≤ (x.1 : Int) := by omega
              have i1 : (x.1 : Int) < (s.room : Int) := by omega
              simp only [htt] at htl
              have Htl := Lib.hid htl
              cases hv : (vv == x.2.2)
              · have hv1 : (vv != x.2.2) = true := by rw [bne, hv]; rfl
                have hv2 : decide (vv = x.2.2) = false := by simpa using hv
                have hno := hts fun hx => by
                  obtain ⟨_, c', h1⟩ := held_tells Ho.out hx
                  rw [hfx] at h1
                  simp only [Option.some.injEq, Prod.mk.injEq] at h1
                  rw [h1.2.2] at hv
                  simp at hv
                have Hno := Lib.hid hno
                clear hno hts htl hR htt hfx hv
                gi_wp2_with fail
                refine wpIn_region_quiet_plain (by kernel_rfl) (by kernel_rfl) (by kernel_rfl) ?_
                repeat (gi_big_quiet_step ((gi_at_call 18; exact CallsIn.quiet_of_same (CallsIn.inRound l (callsIn_wide.2 (Htl.out _))))))
                refine wpQuietIn_nil ?_
                rintro _ ⟨nq, rfl⟩
                gi_wp2_with fail
                exact ⟨((drewN_keeps W nq).trans (KeepsOthers.setCell _ _ _)).from _, Hno.out⟩
              · have hv1 : (vv != x.2.2) = false := by rw [bne, hv]; rfl
                have hv2 : decide (vv = x.2.2) = true := by simpa using hv
                clear hts htl hR htt hfx hv
                gi_wp2_with fail
                refine wpIn_region_quiet_plain (by kernel_rfl) (by kernel_rfl) (by kernel_rfl) ?_
                repeat (gi_big_quiet_step ((gi_at_call 18; exact CallsIn.quiet_of_same (CallsIn.inRound l (callsIn_wide.2 (Htl.out _))))))
                refine wpQuietIn_nil ?_
                rintro _ ⟨nq, rfl⟩
                gi_wp2_with fail
                have hln : (pre ++ [x]).length = m + 1 := by simp [Hm9.out]
                have hfr : Frm [nb] W ((W.drewN nq).setCell ⟨nb, 0, none⟩ (.int .i64 ((m : Int) + 1))) := ((Frm.refl [nb] W).drewN nq).setCell (a := ⟨nb, 0, none⟩) (.inl (by simp)) _
                refine ⟨((drewN_keeps W nq).trans (KeepsOthers.setCell _ _ _)).from _, hfr.below (by omega) (by simp), ?_, Hf.out.trans hfr (by simp)⟩
                have h5 := obj_setCell (w := W.drewN nq) Hn1.out 0 (.int .i64 ((m : Int) + 1))
                rw [hln]
                exact h5
          case done =>
            rintro D xs W hD hxs ⟨hn1, hf⟩ hKD
            rw [hxs, held_live Ho.out] at hn1
            obtain ⟨k, hk⟩ : ∃ k, s.full.countP (isOf 0) = k := ⟨_, rfl⟩
            rw [hk] at hn1
            clear hxs
            have hH := HW.out.frmMore hsY hf (by omega) (by
              intro p hp
              simp only [cL, List.mem_cons, List.not_mem_nil, or_false] at hp
              rcases hp with rfl | rfl | rfl
              · dsimp only; omega
              · dsimp only; omega
              · dsimp only; omega) hn1 hD hKD
            have s0 := cells1 hn1
            have t0 := cells1 (hH.box (k := b13) (o := .cells #[.pointer (some ⟨R, 0, none⟩)] 31) (by simp))
            obtain ⟨a0, c0, h0⟩ := (hH.drew hsY).playOpen
            have hs1 : Stable (sepR (boxR P #[.pointer (some ⟨A, 0, none⟩), .pointer (some ⟨C, 0, none⟩), .slice a0 l2.length c0] 35) (sepR (rowR 38 2 (.slice a0 l2.length c0) l2.length (handleCells l2)) (sepR (slabR A s2) (sepR (refR C s2.ref) (sepR (slabR N s) (sepR (rowR 75 3 (.slice a s.slots.length c) s.slots.length (slotCells s.slots)) noneR)))))) :=
              sepR_stable (boxR_stable _ _ _) (sepR_stable (rowR_stable _ _ _ _ _) (sepR_stable (slabR_stable _ _) (sepR_stable (refR_stable _ _) (sepR_stable (slabR_stable _ _) (sepR_stable (rowR_stable _ _ _ _ _) noneR_stable)))))
            have hs2 : Stable (sepR (boxR P #[.pointer (some ⟨A, 0, none⟩), .pointer (some ⟨C, 0, none⟩), .slice a0 l2.length c0] 35) (sepR (rowR 38 2 (.slice a0 l2.length c0) l2.length (handleCells l2)) (sepR (slabR A s2) (sepR (refR C s2.ref) (sepR (rowR 75 3 (.slice a s.slots.length c) s.slots.length (slotCells s.slots)) noneR))))) :=
              sepR_stable (boxR_stable _ _ _) (sepR_stable (rowR_stable _ _ _ _ _) (sepR_stable (slabR_stable _ _) (sepR_stable (refR_stable _ _) (sepR_stable (rowR_stable _ _ _ _ _) noneR_stable))))
            have hs3 : Stable (sepR (slabR N s) (sepR (refR R s.ref) (sepR (boxR P #[.pointer (some ⟨A, 0, none⟩), .pointer (some ⟨C, 0, none⟩), .slice a0 l2.length c0] 35) (sepR (rowR 38 2 (.slice a0 l2.length c0) l2.length (handleCells l2)) (sepR (rowR 75 3 (.slice a s.slots.length c) s.slots.length (slotCells s.slots)) noneR))))) :=
              sepR_stable (slabR_stable _ _) (sepR_stable (refR_stable _ _) (sepR_stable (boxR_stable _ _ _) (sepR_stable (rowR_stable _ _ _ _ _) (sepR_stable (rowR_stable _ _ _ _ _) noneR_stable))))
            have hlv := rlive_goes hs1 (h0.conv Conv.c6) Ho.out 0
            rw [hk] at hlv
            have Hlv := Lib.hid hlv
            have hzn := lt_of_obj hn1
            clear hf hn1 hc hsl hab hnb h0 hlv hH
            go_wp2_with fail
            refine wp_region_noPanic ?_
            go_region_with (first
              | (go_at_call 19; refine Hlv.out.mono ?_; rintro e w4 ⟨rfl, h4⟩
                 have y0 := cells1 (h4.box (k := nb) (o := .cells #[.int .i64 (k : Nat)] 3) (by simp))
                 have y1 := cells1 (h4.box (k := b13) (o := .cells #[.pointer (some ⟨R, 0, none⟩)] 31) (by simp))
                 have h4c := h4.conv Conv.c6
                 have hc1 := same_goes hs2 h4c Ho.out h4c.boxes
                 have Hc1 := Lib.hid hc1
                 clear h4 h4c hc1)
              | (go_at_call_of 14 (Value.pointer (some ⟨N, 0, none⟩)); refine Hc1.out.mono ?_; rintro e w5 ⟨rfl, h5⟩
                 have y3 := h5.drop.drop.theBox
                 have y4 := lt_of_obj y3
                 obtain ⟨_, y2, _⟩ := cells3 y3
                 have h5c := (h5.conv Conv.c6).conv Conv.c6
                 have hc2 := same_goes hs3 h5c Ho2.out h5c.boxes
                 have Hc2 := Lib.hid hc2
                 clear h5 h5c hc2 y3)
              | (go_at_call_of 14 (Value.pointer (some ⟨A, 0, none⟩)); refine Hc2.out.mono ?_; rintro e w6 ⟨rfl, h6⟩; have H6 := Lib.hid h6; clear h6)
              | (go_at_call 10; refine (awake_any _).mono ?_; rintro e w7 ⟨rfl, hf7⟩
                 have h7 := H6.out.made (bothR_stable hs3 _ _ _) (Frm.of_below hf7 (Nat.le_refl _))
                 have u1 := cells1 (h7.box (k := w.heap.size) (o := .cells #[.bool false] 4) (by simp))
                 have u0 : w7.frozen? ⟨w.heap.size, 0, none⟩ = false := frozen_of_obj (h7.box (k := w.heap.size) (o := .cells #[.bool false] 4) (by simp)) 0
                 have zu := World.block_lt_of_cell? _ _ u1
                 dsimp only at zu
                 have H7 := Lib.hid h7
                 clear h7 hf7 H6))
            all_goals refine NoPanic.normal ?_
            all_goals go_wp2_with fail
            all_goals
              have g1 : (w7.setCell ⟨w.heap.size, 0, none⟩ (.bool true)).heap[D]? = some (.deferred (some [])) := obj_setCell_ne (H7.out.box (k := D) (o := .deferred (some [])) (by simp)) (a := ⟨w.heap.size, 0, none⟩) (by dsimp only; omega) _
              have g2 : (w7.setCell ⟨w.heap.size, 0, none⟩ (.bool true)).heap[w.heap.size]? = some (.cells #[.bool true] 4) := obj_setCell (H7.out.box (k := w.heap.size) (o := .cells #[.bool false] 4) (by simp)) 0 _
              have g3 := cells1 ((World.putObj_heap_other (o := .deferred none) (show w.heap.size ≠ D by omega)).trans g2)
              refine ⟨by simp, .inl ⟨_, _, rfl, run_takeDeferred g1, ?_⟩⟩
              refine ⟨.bool true, by simp [results, Try.results4, go_sem, g3], rfl, ?_⟩
              exact (H7.out.below.setCell (p := ⟨w.heap.size, 0, none⟩) (Nat.le_refl _) _).trans (belowK_b (w := w) (Nat.le_refl _) _ D _ _ (by omega) g1 rfl rfl)
          case stop =>
            rintro D c pre W _ hk h _
            exact absurd hk h
theorem copies_any (w : World) (n : Int) (a1 : Option Addr) (n1 c1 : Nat) (l1 : List OpV) (hl : OpsAt w a1 n1 c1 l1) (a2 : Option Addr) (n2 c2 : Nat) (m1 : List OpV) (hm : OpsAt w a2 n2 c2 m1) :
    Calls Try.prog 4 #[.int .i64 n, .slice a1 n1 c1, .slice a2 n2 c2] w (LawTrue w) := by
  by_cases h : n < 1 ∨ n > 40 ∨ 60 < n1 ∨ 60 < n2
  · exact copies_out w n a1 n1 c1 a2 n2 c2 h
  · obtain ⟨r, rfl⟩ : ∃ r : Nat, n = (r : Int) := ⟨n.toNat, by omega⟩
    exact copies_in w r (by omega) (by omega) a1 n1 c1 l1 hl (by omega) a2 n2 c2 m1 hm (by omega)
end Go.Proofs.Ytpfolcoijncfjaa
