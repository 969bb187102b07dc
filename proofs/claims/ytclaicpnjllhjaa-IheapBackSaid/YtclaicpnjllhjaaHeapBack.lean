/- IheapBack, walked. -/
import Derived.Test.YtclaicpnjllhjaaHeapPlay
namespace Go.Proofs.Ytclaicpnjllhjaa
open Go.RowKit Go.Maps

theorem back_some {k : Kv} {S : List Ent} {x : Ent} (hS : Srt S) (hf : findE k S = some x) : findE k (delE k S) = none ∧ pushE k (delE k S) = 0 ∧ pushS ⟨k, x.v⟩ (delE k S) = S := by
  obtain ⟨hm, rfl⟩ := findE_some hf
  have h1 : findE x.k (delE x.k S) = none := findE_not fun y hy => by
    have := (List.mem_filter.1 hy).2
    simpa using this
  obtain ⟨e1, e2⟩ := push_none (x := ⟨x.k, x.v⟩) h1
  refine ⟨h1, e1, ?_⟩
  rw [e2]
  exact srt_unique (insE_srt (delE_srt hS) (findE_none h1)) hS ((insE_perm _ _).trans (delE_perm hS hm).symm)
theorem back_none {k : Kv} {S : List Ent} {v : Int} (hS : Srt S) (hf : findE k S = none) : pushE k S = 0 ∧ pushS ⟨k, v⟩ S = insE ⟨k, v⟩ S ∧ getV k (insE ⟨k, v⟩ S) = v ∧ getE k (insE ⟨k, v⟩ S) = 0 ∧ delE k (insE ⟨k, v⟩ S) = S ∧ (insE ⟨k, v⟩ S).length = S.length + 1 := by
  obtain ⟨e1, e2⟩ := push_none (x := ⟨k, v⟩) hf
  have hT : Srt (insE ⟨k, v⟩ S) := insE_srt hS (findE_none hf)
  have hm : (⟨k, v⟩ : Ent) ∈ insE ⟨k, v⟩ S := (insE_perm _ _).mem_iff.2 (by simp)
  have hg := get_some (findE_of hT hm rfl)
  refine ⟨e1, e2, hg.1, hg.2, ?_, by rw [(insE_perm _ _).length_eq]; rfl⟩
  exact srt_unique (delE_srt hT) hS ((delE_perm hT hm).symm.trans (insE_perm _ _)).cons_inv

set_option maxHeartbeats 1000000 in
set_option maxRecDepth 100000 in
theorem back_out (w : World) (a1 : Option Addr) (n1 c1 : Nat) (h : 60 < n1) (k : Kv) (v : Int) : Calls Try.prog 6 #[.slice a1 n1 c1, k.val, .int .i64 v] w (LawTrue w) := by
  go_enter Try.func6, Try.ntmps6
  go_wp2_with fail
  refine (new_goes noneR_stable ((Holds.start w).alloc noneR_stable (.cells #[.int .i64 k.at_, .int .i64 k.src, .int .i64 k.sent, .int .i64 k.no] 33))).mono ?_
  rintro e w1 ⟨rfl, h1⟩
  have H1 := Lib.hid h1
  clear h1
  go_wp2_with fail
  refine (few_gt _ a1 n1 c1 h).mono ?_
  rintro e w2 ⟨rfl, rfl⟩
  go_wp2_with fail
  refine (awake_any _).mono ?_
  rintro e w3 ⟨rfl, hf⟩
  have H3 := Lib.hid (H1.out.made (sepR_stable (heapR_stable _ _) noneR_stable) (Frm.of_below hf (Nat.le_refl _)))
  clear hf H1
  go_wp2_with fail
  go_ret
  exact ⟨rfl, H3.out.below⟩

def BackRel (w : World) (A C : Nat) (k : Kv) (n : Nat) (iv : Value) (wr : World) : Prop :=
  ∃ (i : Nat) (S : List Ent), i ≤ n ∧ iv = .int .i64 (i : Int) ∧ InvB i S ∧ Holds w.heap.size w (bothR A C S noneR) wr [(w.heap.size, .cells #[.int .i64 k.at_, .int .i64 k.src, .int .i64 k.sent, .int .i64 k.no] 33)]

set_option maxHeartbeats 4000000 in
set_option maxRecDepth 100000 in
theorem back_in (w : World) (a1 : Option Addr) (n1 c1 : Nat) (l : List OpV) (hl : SlAt opEnc 6 w a1 n1 c1 l) (hw : ∀ o ∈ l, o.k.Wf) (h2 : n1 ≤ 60) (k : Kv) (v : Int) (hk : k.Wf) :
    Calls Try.prog 6 #[.slice a1 n1 c1, k.val, .int .i64 v] w (LawTrue w) := by
  have gc1 := hl.2.1
  have Hl := Lib.hid hl
  have Hw := Lib.hid hw
  have Hk := Lib.hid hk
  clear hl hw hk
  go_enter Try.func6, Try.ntmps6
  go_wp2_with fail
  refine (new_goes noneR_stable ((Holds.start w).alloc noneR_stable (.cells #[.int .i64 k.at_, .int .i64 k.src, .int .i64 k.sent, .int .i64 k.no] 33))).mono ?_
  rintro e w1 ⟨rfl, h1⟩
  obtain ⟨A, hA⟩ : ∃ A, (w.alloc (.cells #[.int .i64 k.at_, .int .i64 k.src, .int .i64 k.sent, .int .i64 k.no] 33)).heap.size + 1 = A := ⟨_, rfl⟩
  rw [hA] at h1 ⊢
  have hsA := sepR_stable (heapR_stable A []) noneR_stable
  have h3 := ((h1.newBox hsA #[.slice none 0 0] 30).nilRow 42 5).toRead ent_len (l := []) rfl
  have h4 := ((h3.conv Conv.exch).refShut (S := [])).conv Conv.exch
  obtain ⟨C, hC⟩ : ∃ C, w1.heap.size = C := ⟨_, rfl⟩
  rw [hC] at h4
  have hloop : BackRel w A C k n1 (.int .i64 0) (w1.alloc (.cells #[.slice none 0 0] 30)) := ⟨0, [], Nat.zero_le _, rfl, ⟨List.Pairwise.nil, Nat.le_refl _⟩, h4⟩
  have Hloop := Lib.hid hloop
  have HC := Lib.hid hC
  clear hloop h1 h3 h4 hA hC
  go_wp2_with fail
  refine (few_le _ a1 n1 c1 h2).mono ?_
  rintro e w2 ⟨rfl, rfl⟩
  go_wp2_with fail
  rw [HC.out]
  go_loopw [9] (fun iv wr => BackRel w A C k n1 iv wr) (fun iv _ => n1 - (intOf iv).toNat)
  case atStart => exact Hloop.out
  case round =>
    obtain ⟨i, S, hi, rfl, hinv, hH⟩ := hrel
    have HH := Lib.hid hH
    have Hinv := Lib.hid hinv
    have hSl := hinv.len
    clear hH Hloop hinv
    by_cases hlt : i < n1
    · have hm := Hl.out.frm (Frm.of_below HH.out.below (Nat.le_refl _))
      obtain ⟨b1, o1, o, rfl, hb1, ho, hcell⟩ := hm.at_ hlt
      have p0 := hcell 0 _ rfl
      have p1 := hcell 1 _ rfl
      have p2 := hcell 2 _ rfl
      have p3 := hcell 3 _ rfl
      have p4 := hcell 4 _ rfl
      have p5 := hcell 5 _ rfl
      simp only [Nat.add_zero] at p0
      have How := Lib.hid (Hw.out o (List.mem_of_getElem? ho))
      have hwf : IntKind.i64.wrap ((i : Int) + 1) = (i : Int) + 1 := IntWalk.i64_in _ (by omega)
      have i0 : (0 : Int) ≤ (i : Int) := by omega
      have i1 : (i : Int) < (n1 : Int) := by omega
      clear hm hcell ho
      go_wp2_with fail
      refine (does_goes noneR_stable HH.out (by omega) Hinv.out.srt o How.out).mono ?_
      rintro e w3 ⟨rfl, h3⟩
      have Hnew := Lib.hid (Hinv.out.does o)
      have hnl := Hnew.out.len
      have H3 := Lib.hid h3
      clear h3 HH p0 p1 p2 p3 p4 p5
      go_wp2_with fail
      go_roundw
      case rel => exact ⟨i + 1, doS o S, by omega, by go_num, Hnew.out, H3.out⟩
      case measure => simp [intOf]; omega
    · obtain rfl : i = n1 := by omega
      have hsr := sepR_stable (refR_stable C S) noneR_stable
      cases hf : findE k S with
      | some x =>
        have hg := get_some hf
        obtain ⟨bf, b1, b2⟩ := back_some Hinv.out.srt hf
        have hdl : (delE k S).length ≤ S.length := List.length_filter_le _ _
        have hget := get_goes hsr HH.out (by omega) k Hk.out
        have hpull := fun w1 (h2 : Holds w.heap.size w (bothR A C S noneR) w1 [(w.heap.size, .cells #[.int .i64 k.at_, .int .i64 k.src, .int .i64 k.sent, .int .i64 k.no] 33)]) => pull_goes hsr h2 (by omega) k Hk.out
        have hget2 := fun w1 (h2 : Holds w.heap.size w (sepR (heapR A (delE k S)) (sepR (refR C S) noneR)) w1 [(w.heap.size, .cells #[.int .i64 k.at_, .int .i64 k.src, .int .i64 k.sent, .int .i64 k.no] 33)]) => get_goes hsr h2 (by omega) k Hk.out
        have hpush := fun w1 (h2 : Holds w.heap.size w (sepR (heapR A (delE k S)) (sepR (refR C S) noneR)) w1 [(w.heap.size, .cells #[.int .i64 k.at_, .int .i64 k.src, .int .i64 k.sent, .int .i64 k.no] 33)]) => push_goes hsr h2 (by omega) k x.v Hk.out
        rw [hg.1, hg.2] at hget
        simp only [hg.1, hg.2] at hpull
        have hgd : getV k (delE k S) = 0 ∧ getE k (delE k S) = 14 := by simp [getV, getE, bf]
        simp only [hgd.1, hgd.2] at hget2
        simp only [b1, b2] at hpush
        have Hget := Lib.hid hget
        have Hpull := Lib.hid hpull
        have Hget2 := Lib.hid hget2
        have Hpush := Lib.hid hpush
        clear hg bf b1 b2 hgd hget hpull hget2 hpush hf
        obtain ⟨p0, p1, p2, p3⟩ := cells4 (HH.out.box (k := w.heap.size) (o := .cells #[.int .i64 k.at_, .int .i64 k.src, .int .i64 k.sent, .int .i64 k.no] 33) (by simp))
        have z0 := World.block_lt_of_cell? _ _ p0
        dsimp only at z0
        go_wp2_with fail
        refine Hget.out.mono ?_
        rintro e w3 ⟨rfl, h3⟩
        clear p0 p1 p2 p3 z0
        obtain ⟨p0, p1, p2, p3⟩ := cells4 (h3.box (k := w.heap.size) (o := .cells #[.int .i64 k.at_, .int .i64 k.src, .int .i64 k.sent, .int .i64 k.no] 33) (by simp))
        have z0 := World.block_lt_of_cell? _ _ p0
        dsimp only at z0
        have H3 := Lib.hid h3
        clear h3 HH Hget
        go_wp2_with fail
        refine (Hpull.out _ H3.out).mono ?_
        rintro e w4 ⟨rfl, h4⟩
        clear p0 p1 p2 p3 z0
        obtain ⟨p0, p1, p2, p3⟩ := cells4 (h4.box (k := w.heap.size) (o := .cells #[.int .i64 k.at_, .int .i64 k.src, .int .i64 k.sent, .int .i64 k.no] 33) (by simp))
        have z0 := World.block_lt_of_cell? _ _ p0
        dsimp only at z0
        have H4 := Lib.hid h4
        clear h4 H3 Hpull
        go_wp2_with fail
        refine (Hget2.out _ H4.out).mono ?_
        rintro e w5 ⟨rfl, h5⟩
        clear p0 p1 p2 p3 z0
        obtain ⟨p0, p1, p2, p3⟩ := cells4 (h5.box (k := w.heap.size) (o := .cells #[.int .i64 k.at_, .int .i64 k.src, .int .i64 k.sent, .int .i64 k.no] 33) (by simp))
        have z0 := World.block_lt_of_cell? _ _ p0
        dsimp only at z0
        have H5 := Lib.hid h5
        clear h5 H4 Hget2
        go_wp2_with fail
        refine (Hpush.out _ H5.out).mono ?_
        rintro e w6 ⟨rfl, h6⟩
        have H6 := Lib.hid h6
        clear h6 H5 Hpush p0 p1 p2 p3 z0
        go_wp2_with fail
        refine (same_goes noneR_stable H6.out (by omega) H6.out.boxes).mono ?_
        rintro e w7 ⟨rfl, h7⟩
        have H7 := Lib.hid h7
        clear h7 H6
        go_wp2_with fail
        refine (awake_any _).mono ?_
        rintro e w8 ⟨rfl, hf⟩
        have H8 := Lib.hid (H7.out.made (bothR_stable noneR_stable _ _ _) (Frm.of_below hf (Nat.le_refl _)))
        clear hf H7
        go_wp2_with fail
        go_ret
        exact ⟨rfl, H8.out.below⟩
      | none =>
        have hg : getV k S = 0 ∧ getE k S = 14 := by simp [getV, getE, hf]
        obtain ⟨b1, b2, b3, b4, b5, b6⟩ := back_none (v := v) Hinv.out.srt hf
        have hget := get_goes hsr HH.out (by omega) k Hk.out
        have hpush := fun w1 (h2 : Holds w.heap.size w (bothR A C S noneR) w1 [(w.heap.size, .cells #[.int .i64 k.at_, .int .i64 k.src, .int .i64 k.sent, .int .i64 k.no] 33)]) => push_goes hsr h2 (by omega) k v Hk.out
        have hpull := fun w1 (h2 : Holds w.heap.size w (sepR (heapR A (insE ⟨k, v⟩ S)) (sepR (refR C S) noneR)) w1 [(w.heap.size, .cells #[.int .i64 k.at_, .int .i64 k.src, .int .i64 k.sent, .int .i64 k.no] 33)]) => pull_goes hsr h2 (by omega) k Hk.out
        rw [hg.1, hg.2] at hget
        simp only [b1, b2] at hpush
        simp only [b3, b4, b5] at hpull
        have Hget := Lib.hid hget
        have Hpush := Lib.hid hpush
        have Hpull := Lib.hid hpull
        clear hg b1 b2 b3 b4 b5 b6 hget hpush hpull hf
        obtain ⟨p0, p1, p2, p3⟩ := cells4 (HH.out.box (k := w.heap.size) (o := .cells #[.int .i64 k.at_, .int .i64 k.src, .int .i64 k.sent, .int .i64 k.no] 33) (by simp))
        have z0 := World.block_lt_of_cell? _ _ p0
        dsimp only at z0
        go_wp2_with fail
        refine Hget.out.mono ?_
        rintro e w3 ⟨rfl, h3⟩
        clear p0 p1 p2 p3 z0
        obtain ⟨p0, p1, p2, p3⟩ := cells4 (h3.box (k := w.heap.size) (o := .cells #[.int .i64 k.at_, .int .i64 k.src, .int .i64 k.sent, .int .i64 k.no] 33) (by simp))
        have z0 := World.block_lt_of_cell? _ _ p0
        dsimp only at z0
        have H3 := Lib.hid h3
        clear h3 HH Hget
        go_wp2_with fail
        refine (Hpush.out _ H3.out).mono ?_
        rintro e w4 ⟨rfl, h4⟩
        clear p0 p1 p2 p3 z0
        obtain ⟨p0, p1, p2, p3⟩ := cells4 (h4.box (k := w.heap.size) (o := .cells #[.int .i64 k.at_, .int .i64 k.src, .int .i64 k.sent, .int .i64 k.no] 33) (by simp))
        have z0 := World.block_lt_of_cell? _ _ p0
        dsimp only at z0
        have H4 := Lib.hid h4
        clear h4 H3 Hpush
        go_wp2_with fail
        refine (Hpull.out _ H4.out).mono ?_
        rintro e w5 ⟨rfl, h5⟩
        have H6 := Lib.hid h5
        clear h5 H4 Hpull p0 p1 p2 p3 z0
        go_wp2_with fail
        refine (same_goes noneR_stable H6.out (by omega) H6.out.boxes).mono ?_
        rintro e w7 ⟨rfl, h7⟩
        have H7 := Lib.hid h7
        clear h7 H6
        go_wp2_with fail
        refine (awake_any _).mono ?_
        rintro e w8 ⟨rfl, hf⟩
        have H8 := Lib.hid (H7.out.made (bothR_stable noneR_stable _ _ _) (Frm.of_below hf (Nat.le_refl _)))
        clear hf H7
        go_wp2_with fail
        go_ret
        exact ⟨rfl, H8.out.below⟩
end Go.Proofs.Ytclaicpnjllhjaa
