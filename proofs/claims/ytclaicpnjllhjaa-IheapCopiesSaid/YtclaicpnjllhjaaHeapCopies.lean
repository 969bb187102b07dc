/- IheapCopies, walked. -/
import Derived.Test.YtclaicpnjllhjaaHeapPlay
import Derived.Test.YtclaicpnjllhjaaHeapCopy
import Derived.Test.YtclaicpnjllhjaaHeapRefC
namespace Go.Proofs.Ytclaicpnjllhjaa
open Go.RowKit Go.Shelf Go.Maps
attribute [local go_sem] Oper.semAt_some

set_option maxHeartbeats 2000000 in
set_option maxRecDepth 100000 in
theorem copies_out (w : World) (a1 : Option Addr) (n1 c1 : Nat) (a2 : Option Addr) (n2 c2 : Nat) (h : 60 < n1 ∨ 60 < n2) : Calls Try.prog 4 #[.slice a1 n1 c1, .slice a2 n2 c2] w (LawTrue w) := by
  have hg : 60 < n1 ∨ (n1 ≤ 60 ∧ 60 < n2) := by omega
  have H0 := Lib.hid ((Holds.start w).alloc noneR_stable (.cells #[.bool false] 4))
  clear h
  rcases hg with g1 | ⟨g1, g2⟩
  · go_enter Try.func4, Try.ntmps4
    go_wp2_with fail
    refine (new_goes noneR_stable H0.out).mono ?_
    rintro e w1 ⟨rfl, h1⟩
    have H1 := Lib.hid h1
    clear h1
    go_wp2_with fail
    refine (few_gt _ a1 n1 c1 g1).mono ?_
    rintro e w2 ⟨rfl, rfl⟩
    go_wp2_with fail
    refine (awake_any _).mono ?_
    rintro e v3 ⟨rfl, hf⟩
    have h2 := H1.out.made (sepR_stable (heapR_stable _ _) noneR_stable) (Frm.of_below hf (Nat.le_refl _))
    have ob := h2.box (k := w.heap.size) (o := .cells #[.bool false] 4) (by simp)
    have u1 := cells1 ob
    have u0 : v3.frozen? ⟨w.heap.size, 0, none⟩ = false := frozen_of_obj ob 0
    have zu := lt_of_obj ob
    have H2 := Lib.hid h2
    have g9 := cells1 (obj_setCell ob 0 (.bool true))
    clear hf h2 ob
    go_wp2_with fail
    exact bodyPost_ret (v := .bool true) (by simp [results, Try.results4, go_sem, g9]) rfl ⟨rfl, H2.out.below.setCell (p := ⟨w.heap.size, 0, none⟩) (Nat.le_refl _) _⟩
  · go_enter Try.func4, Try.ntmps4
    go_wp2_with fail
    refine (new_goes noneR_stable H0.out).mono ?_
    rintro e w1 ⟨rfl, h1⟩
    have H1 := Lib.hid h1
    clear h1
    go_wp2_with fail
    refine (few_le _ a1 n1 c1 g1).mono ?_
    rintro e w2 ⟨rfl, rfl⟩
    go_wp2_with fail
    refine (few_gt _ a2 n2 c2 g2).mono ?_
    rintro e w2 ⟨rfl, rfl⟩
    go_wp2_with fail
    refine (awake_any _).mono ?_
    rintro e v3 ⟨rfl, hf⟩
    have h2 := H1.out.made (sepR_stable (heapR_stable _ _) noneR_stable) (Frm.of_below hf (Nat.le_refl _))
    have ob := h2.box (k := w.heap.size) (o := .cells #[.bool false] 4) (by simp)
    have u1 := cells1 ob
    have u0 : v3.frozen? ⟨w.heap.size, 0, none⟩ = false := frozen_of_obj ob 0
    have zu := lt_of_obj ob
    have H2 := Lib.hid h2
    have g9 := cells1 (obj_setCell ob 0 (.bool true))
    clear hf h2 ob
    go_wp2_with fail
    exact bodyPost_ret (v := .bool true) (by simp [results, Try.results4, go_sem, g9]) rfl ⟨rfl, H2.out.below.setCell (p := ⟨w.heap.size, 0, none⟩) (Nat.le_refl _) _⟩

section
variable {X1 X2 X3 X4 X5 X6 T : World → List Nat → Prop}
theorem Conv.c3 : Conv (sepR X1 (sepR X2 (sepR X3 T))) (sepR X3 (sepR X1 (sepR X2 T))) := Conv.third
theorem Conv.c4 : Conv (sepR X1 (sepR X2 (sepR X3 (sepR X4 T)))) (sepR X4 (sepR X1 (sepR X2 (sepR X3 T)))) := (Conv.c3.right).trans Conv.exch
theorem Conv.c5 : Conv (sepR X1 (sepR X2 (sepR X3 (sepR X4 (sepR X5 T))))) (sepR X5 (sepR X1 (sepR X2 (sepR X3 (sepR X4 T))))) := (Conv.c4.right).trans Conv.exch
theorem Conv.c6 : Conv (sepR X1 (sepR X2 (sepR X3 (sepR X4 (sepR X5 (sepR X6 T)))))) (sepR X6 (sepR X1 (sepR X2 (sepR X3 (sepR X4 (sepR X5 T)))))) := (Conv.c5.right).trans Conv.exch
end
abbrev cpL (w : World) (b9 C : Nat) : List (Nat × Obj) := [(b9, .cells #[.pointer (some ⟨C, 0, none⟩)] 27), (w.heap.size, .cells #[.bool false] 4)]
def CopRel (w : World) (A C b9 n : Nat) (iv : Value) (wr : World) : Prop :=
  ∃ (i : Nat) (S : List Ent), i ≤ n ∧ iv = .int .i64 (i : Int) ∧ InvB i S ∧ Holds w.heap.size w (bothR A C S noneR) wr (cpL w b9 C)
/-- What lies beside in the second loop: the copy, the list as it was, what All went through. -/
abbrev cpQ (N C bx : Nat) (a : Option Addr) (c : Nat) (S : List Ent) : World → List Nat → Prop :=
  sepR (heapR N S) (sepR (refR C S) (sepR (boxR bx #[.slice a S.length c] 62) (sepR (rowR 68 5 (.slice a S.length c) S.length (flat Ent.cells S)) noneR)))
theorem cpQ_stable (N C bx : Nat) (a : Option Addr) (c : Nat) (S : List Ent) : Stable (cpQ N C bx a c S) :=
  sepR_stable (heapR_stable _ _) (sepR_stable (refR_stable _ _) (sepR_stable (boxR_stable _ _ _) (sepR_stable (rowR_stable _ _ _ _ _) noneR_stable)))
def CopRel2 (w : World) (A O N C b9 bx : Nat) (a : Option Addr) (c : Nat) (S : List Ent) (n : Nat) (iv : Value) (wr : World) : Prop :=
  ∃ (i : Nat) (S2 : List Ent), i ≤ n ∧ iv = .int .i64 (i : Int) ∧ InvB (60 + i) S2 ∧ Holds w.heap.size w (bothR A O S2 (cpQ N C bx a c S)) wr (cpL w b9 C)

attribute [local go_sem high] key_neq key_guard in
set_option maxHeartbeats 8000000 in
set_option maxRecDepth 100000 in
theorem copies_in (w : World) (a1 : Option Addr) (n1 c1 : Nat) (l : List OpV) (hl : SlAt opEnc 6 w a1 n1 c1 l) (hw1 : ∀ o ∈ l, o.k.Wf) (h3 : n1 ≤ 60) (a2 : Option Addr) (n2 c2 : Nat) (m : List OpV) (hm : SlAt opEnc 6 w a2 n2 c2 m) (hw2 : ∀ o ∈ m, o.k.Wf) (h4 : n2 ≤ 60) :
    Calls Try.prog 4 #[.slice a1 n1 c1, .slice a2 n2 c2] w (LawTrue w) := by
  have gc1 := hl.2.1
  have gc2 := hm.2.1
  have Hl := Lib.hid hl
  have Hm := Lib.hid hm
  have Hw1 := Lib.hid hw1
  have Hw2 := Lib.hid hw2
  clear hl hm hw1 hw2
  refine (callsIn_wide (n := 3)).1 ?_
  refine callsIn_of_wp_marks Try.func4 rfl trivial ?_ rfl
  simp only [Try.ntmps4, List.size_toArray, List.length_cons, List.length_nil, Nat.reduceAdd, Nat.reduceSub, Array.replicate_succ, Array.replicate_zero, List.push_toArray, List.append_toArray, List.nil_append, List.cons_append]
  refine wpIn_wide.2 ?_
  have H0 := Lib.hid ((Holds.start w).alloc noneR_stable (.cells #[.bool false] 4))
  go_wp2_with fail
  refine (new_goes noneR_stable H0.out).mono ?_
  rintro e w1 ⟨rfl, h5⟩
  obtain ⟨A, hA⟩ : ∃ A, (w.alloc (.cells #[.bool false] 4)).heap.size + 1 = A := ⟨_, rfl⟩
  rw [hA] at h5 ⊢
  have hsA := sepR_stable (heapR_stable A []) noneR_stable
  have h6a := ((h5.newBox hsA #[.slice none 0 0] 30).nilRow 42 5).toRead ent_len (l := []) rfl
  have h6 := ((h6a.conv Conv.exch).refShut (S := [])).conv Conv.exch
  obtain ⟨C, hC⟩ : ∃ C, w1.heap.size = C := ⟨_, rfl⟩
  rw [hC] at h6
  have h7 := h6.alloc (bothR_stable noneR_stable _ _ _) (.cells #[.pointer (some ⟨C, 0, none⟩)] 27)
  obtain ⟨b9, hb9⟩ : ∃ b9, (w1.alloc (.cells #[.slice none 0 0] 30)).heap.size = b9 := ⟨_, rfl⟩
  rw [hb9] at h7
  have hloop : CopRel w A C b9 n1 (.int .i64 0) ((w1.alloc (.cells #[.slice none 0 0] 30)).alloc (.cells #[.pointer (some ⟨C, 0, none⟩)] 27)) := ⟨0, [], Nat.zero_le _, rfl, ⟨List.Pairwise.nil, Nat.le_refl _⟩, h7⟩
  have Hloop := Lib.hid hloop
  have HC := Lib.hid hC
  have Hb9 := Lib.hid (show C + 1 = b9 by rw [← hC, ← hb9]; simp)
  clear hloop h5 h6 h6a h7 hA hC hb9 H0
  go_wp2_with fail
  refine (few_le _ a1 n1 c1 h3).mono ?_
  rintro e w2 ⟨rfl, rfl⟩
  go_wp2_with fail
  refine (few_le _ a2 n2 c2 h4).mono ?_
  rintro e w2 ⟨rfl, rfl⟩
  go_wp2_with fail
  simp only [HC.out, Hb9.out]
  go_loopw [7] (fun iv wr => CopRel w A C b9 n1 iv wr) (fun iv _ => n1 - (intOf iv).toNat)
  case atStart => exact Hloop.out
  case round =>
    obtain ⟨i, S, hi, rfl, hinv, hH⟩ := hrel
    have HH := Lib.hid hH
    have Hinv := Lib.hid hinv
    have hSl := hinv.len
    have t0 := cells1 (hH.box (k := b9) (o := .cells #[.pointer (some ⟨C, 0, none⟩)] 27) (by simp))
    have tz := World.block_lt_of_cell? _ _ t0
    dsimp only at tz
    clear hH Hloop hinv
    by_cases hlt : i < n1
    · have hmm := Hl.out.frm (Frm.of_below HH.out.below (Nat.le_refl _))
      obtain ⟨b1, o1, o, rfl, hb1, ho, hcell⟩ := hmm.at_ hlt
      have p0 := hcell 0 _ rfl
      have p1 := hcell 1 _ rfl
      have p2 := hcell 2 _ rfl
      have p3 := hcell 3 _ rfl
      have p4 := hcell 4 _ rfl
      have p5 := hcell 5 _ rfl
      simp only [Nat.add_zero] at p0
      have How := Lib.hid (Hw1.out o (List.mem_of_getElem? ho))
      have hwf : IntKind.i64.wrap ((i : Int) + 1) = (i : Int) + 1 := IntWalk.i64_in _ (by omega)
      have i0 : (0 : Int) ≤ (i : Int) := by omega
      have i1 : (i : Int) < (n1 : Int) := by omega
      have HHd := Lib.hid (HH.out.drew (bothR_stable noneR_stable _ _ _))
      clear hmm hcell ho
      go_wp2_with fail
      go_still_tail 6, (by kernel_rfl)
      change wpList _ _ _ _ _ wr.drew
      generalize wr.drew = wd at HHd ⊢
      clear p0 p1 p2 p3 p4 p5 t0 tz
      go_wp2_with fail
      refine (does_goes noneR_stable HHd.out (by omega) Hinv.out.srt o How.out).mono ?_
      rintro e w3 ⟨rfl, h5⟩
      have Hnew := Lib.hid (Hinv.out.does o)
      have H3 := Lib.hid h5
      clear h5 HH HHd
      go_wp2_with fail
      go_roundw
      case rel => exact ⟨i + 1, doS o S, by omega, by go_num, Hnew.out, H3.out⟩
      case measure => simp [intOf]; omega
    · obtain rfl : i = n1 := by omega
      have hS60 : S.length ≤ 60 := by omega
      have hcp := hcopy_goes (sepR_stable (refR_stable C S) noneR_stable) HH.out (by omega)
      have Hcp := Lib.hid hcp
      clear hcp t0 tz HH
      go_wp2_with fail
      refine Hcp.out.mono ?_
      rintro e w2 ⟨N, rfl, h5⟩
      have hal := all_goes (sepR_stable (heapR_stable N S) (sepR_stable (refR_stable C S) noneR_stable)) (h5.conv Conv.exch) (by omega)
      have Hal := Lib.hid hal
      clear h5 hal Hcp
      go_wp2_with fail
      refine Hal.out.mono ?_
      rintro e w3 ⟨bx, a, c, rfl, h5⟩
      have t0 := cells1 (h5.box (k := b9) (o := .cells #[.pointer (some ⟨C, 0, none⟩)] 27) (by simp))
      have tz := World.block_lt_of_cell? _ _ t0
      dsimp only at tz
      have hrc := rcopy_goes (by exact sepR_stable (boxR_stable _ _ _) (sepR_stable (rowR_stable _ _ _ _ _) (sepR_stable (heapR_stable _ _) (sepR_stable (heapR_stable _ _) noneR_stable)))) (h5.conv Conv.c5) (by omega)
      have Hrc := Lib.hid hrc
      clear h5 hrc Hal
      go_wp2_with fail
      refine Hrc.out.mono ?_
      rintro e w4 ⟨rfl, h5⟩
      obtain ⟨O, hO⟩ : ∃ O, w3.heap.size = O := ⟨_, rfl⟩
      rw [hO] at h5 ⊢
      have h6 := (h5.conv Conv.c6).conv (Conv.right Conv.exch)
      have t0 := cells1 (h6.box (k := b9) (o := .cells #[.pointer (some ⟨C, 0, none⟩)] 27) (by simp))
      have tz := World.block_lt_of_cell? _ _ t0
      dsimp only at tz
      have hsm := same_goes (by exact sepR_stable (refR_stable _ _) (sepR_stable (boxR_stable _ _ _) (sepR_stable (rowR_stable _ _ _ _ _) (sepR_stable (heapR_stable _ _) noneR_stable)))) h6 (by omega) h6.boxes
      have hfn := func_all3 bx
      have Hsm := Lib.hid hsm
      clear h5 h6 hsm Hrc hO
      go_wp2_with fail
      refine Hsm.out.mono ?_
      rintro e w5 ⟨rfl, h7⟩
      have h8 := (h7.conv Conv.c6).conv (Conv.right Conv.c3)
      have hloop2 : CopRel2 w A O N C b9 bx a c S n2 (.int .i64 0) w5 := ⟨0, S, Nat.zero_le _, rfl, ⟨Hinv.out.srt, by omega⟩, h8⟩
      have Hloop2 := Lib.hid hloop2
      clear h7 h8 hloop2 Hsm hfn t0 tz
      go_wp2_with fail
      go_loopw [11] (fun iv wr => CopRel2 w A O N C b9 bx a c S n2 iv wr) (fun iv _ => n2 - (intOf iv).toNat)
      case atStart => exact Hloop2.out
      case round =>
        rename World => wy
        obtain ⟨j, S2, hj, rfl, hinv2, hH⟩ := hrel
        have HY := Lib.hid hH
        have Hinv2 := Lib.hid hinv2
        have hS2 := hinv2.len
        clear hH Hloop2 hinv2
        by_cases hlt2 : j < n2
        · have hmm := Hm.out.frm (Frm.of_below HY.out.below (Nat.le_refl _))
          obtain ⟨b1, o1, o, rfl, hb1, ho, hcell⟩ := hmm.at_ hlt2
          have p0 := hcell 0 _ rfl
          have p1 := hcell 1 _ rfl
          have p2 := hcell 2 _ rfl
          have p3 := hcell 3 _ rfl
          have p4 := hcell 4 _ rfl
          have p5 := hcell 5 _ rfl
          simp only [Nat.add_zero] at p0
          have How := Lib.hid (Hw2.out o (List.mem_of_getElem? ho))
          have hwf : IntKind.i64.wrap ((j : Int) + 1) = (j : Int) + 1 := IntWalk.i64_in _ (by omega)
          have i0 : (0 : Int) ≤ (j : Int) := by omega
          have i1 : (j : Int) < (n2 : Int) := by omega
          clear hmm hcell ho
          go_wp2_with fail
          refine (does_goes (cpQ_stable N C bx a c S) HY.out (by omega) Hinv2.out.srt o How.out).mono ?_
          rintro e w6 ⟨rfl, h5⟩
          have Hnew := Lib.hid (Hinv2.out.does o)
          have H3 := Lib.hid h5
          clear h5 HY p0 p1 p2 p3 p4 p5
          go_wp2_with fail
          go_roundw
          case rel => exact ⟨j + 1, doS o S2, by omega, by go_num, Hnew.out, H3.out⟩
          case measure => simp [intOf]; omega
        · obtain rfl : j = n2 := by omega
          have h9 := (((HY.out.conv Conv.c4).conv (Conv.right Conv.c4)).conv (Conv.right (Conv.right Conv.c4))).conv (Conv.right (Conv.right (Conv.right Conv.c3)))
          have hsR : Stable (sepR (refR C S) (sepR (boxR bx #[.slice a S.length c] 62) (sepR (rowR 68 5 (.slice a S.length c) S.length (flat Ent.cells S)) (sepR (heapR N S) (bothR A O S2 noneR))))) := sepR_stable (refR_stable _ _) (sepR_stable (boxR_stable _ _ _) (sepR_stable (rowR_stable _ _ _ _ _) (sepR_stable (heapR_stable _ _) (bothR_stable noneR_stable _ _ _))))
          have hbb := h9.drop.theBox
          have hbx := lt_of_obj hbb
          have hrw9 := h9.drop.drop.row
          have hab : ∀ ad, a = some ad → ad.block < wy.heap.size := fun ad ha => by
            subst ha
            rcases row_nil_or hrw9 with ⟨hv, _⟩ | ⟨g, cc, hv, hg, _⟩
            · simp at hv
            · simp only [Value.slice.injEq, Option.some.injEq] at hv
              rw [hv.1]; exact hg
          have h10 := h9.alloc hsR (.cells #[.int .i64 0] 3)
          have hc := cells1 h10.drop.theBox
          have hsl := SlAt.of_row ent_len h10.drop.drop.row rfl
          have hnb := obj_new wy (.cells #[.int .i64 0] 3)
          have hsz : wy.heap.size ≤ (wy.alloc (.cells #[.int .i64 0] 3)).heap.size := by simp
          have hszz : (wy.alloc (.cells #[.int .i64 0] 3)).heap.size = wy.heap.size + 1 := by simp
          have hwl : w.heap.size < wy.heap.size := lt_of_obj (HY.out.box (k := w.heap.size) (o := .cells #[.bool false] 4) (by simp))
          have hbl : b9 < wy.heap.size := lt_of_obj (HY.out.box (k := b9) (o := .cells #[.pointer (some ⟨C, 0, none⟩)] 27) (by simp))
          obtain ⟨nb, hnbe⟩ : ∃ nb, wy.heap.size = nb := ⟨_, rfl⟩
          have H10 := Lib.hid h10
          clear h9 h10 HY hbb hrw9
          go_wp2_with fail
          refine (wpIn_wide (n := 3)).1 ?_
          have h11 := H10.out
          rw [hnbe] at hbx hab hsz hszz hnb hwl hbl h11
          try simp only [hnbe]
          generalize wy.alloc (.cells #[.int .i64 0] 3) = W0 at h11 hsz hszz hc hsl hnb ⊢
          have HW := Lib.hid h11
          clear h11 H10
          refine' wpIn_rangeFunc_box (F := Fence.wide) rfl (by omega) (gf := 35) (lb := #[.pointer (some ⟨bx, 0, none⟩)]) rfl trivial (enters_of Try.func35 (by kernel_rfl) rfl)
            (all3_stops Fence.wide _ trivial rfl (by omega) bx nb a c S (by omega) W0 hbx hsz hc hsl hab) belowK_t (belowK_b hsz) (Below.refl _ _) (fun _ => rfl)
            (fun pre W => (pre = S.take pre.length ∧ W.heap[nb]? = some (.cells #[.int .i64 pre.length] 3)) ∧ Frm [nb] W0 W) (fun _ pre _ => ¬ ∃ k, k ≤ S.length ∧ pre = S.take k)
            (OwnFrom.and (OwnFrom.and (ownFrom_pure _ _) (ownFrom_obj _ _ _ (fun pre : List Ent => #[Value.int .i64 pre.length]))) (ownFrom_frm (Nat.le_refl _)))
            (fun c => ownFrom_pure _ _)
            ⟨⟨rfl, hnb⟩, Frm.refl _ _⟩ 33 (fun x : Ent => #[.int .i64 x.k.at_, .int .i64 x.k.src, .int .i64 x.k.sent, .int .i64 x.k.no]) _ ?assign ?body ?done ?stop
          case assign =>
            rintro l pre x W K ⟨⟨hp, hn1⟩, hf⟩ hK
            have HK := Lib.hid hK
            have Hf := Lib.hid hf
            have Hn1 := Lib.hid hn1
            clear hK hf hn1
            gi_wp2
            have hle := Hf.out.size
            have h1 := obj_new W (.cells #[.int .i64 x.k.at_, .int .i64 x.k.src, .int .i64 x.k.sent, .int .i64 x.k.no] 33)
            have h2 := (Below.refl nb W).alloc (Nat.le_trans hsz hle) (.cells #[.int .i64 x.k.at_, .int .i64 x.k.src, .int .i64 x.k.sent, .int .i64 x.k.no] 33)
            generalize W.heap.size = Bx at hle h1 ⊢
            exact HK.out Bx _ ((KeepsOthers.alloc _ _).from _) h2 ⟨⟨hp, obj_alloc Hn1.out _⟩, Hf.out.alloc _⟩ hle h1
          case body =>
            rintro l pre x Bx W hl ⟨⟨hp, hn1⟩, hf⟩ hBx hK hlt
            have hH := HW.out.frmBox hsR hf (by omega) (by
              intro p hp
              simp only [cpL, List.mem_cons, List.not_mem_nil, or_false] at hp
              rcases hp with rfl | rfl
              · dsimp only; omega
              · dsimp only; omega) hn1
            obtain ⟨m, hm⟩ : ∃ m, pre.length = m := ⟨_, rfl⟩
            obtain ⟨a', c', hro⟩ := hH.refOpen
            obtain ⟨c0, _, hrb, hsr⟩ := hro.refCells
            have s0 := cells1 hn1
            have f0 : W.frozen? ⟨nb, 0, none⟩ = false := frozen_of_obj hn1 0
            have t0 := cells1 (hH.box (k := b9) (o := .cells #[.pointer (some ⟨C, 0, none⟩)] 27) (by simp))
            have u0 : W.frozen? ⟨w.heap.size, 0, none⟩ = false := frozen_of_obj (hH.box (k := w.heap.size) (o := .cells #[.bool false] 4) (by simp)) 0
            have u1 := cells1 (hH.box (k := w.heap.size) (o := .cells #[.bool false] 4) (by simp))
            obtain ⟨r0, r1, r2, r3⟩ := cells4 hK
            rw [hm] at hlt s0
            obtain ⟨b1, o1, y, rfl, hb1, hy, hcell⟩ := hsr.at_ hlt
            have p0 := hcell 0 _ rfl
            have p1 := hcell 1 _ rfl
            have p2 := hcell 2 _ rfl
            have p3 := hcell 3 _ rfl
            have p4 := hcell 4 _ rfl
            simp only [Nat.add_zero] at p0
            have gc := hsr.2.1
            have hWs := hf.size
            have zB := lt_of_obj hK
            have zn := lt_of_obj hn1
            have Hp := Lib.hid hp
            have Hn1 := Lib.hid hn1
            have Hy := Lib.hid hy
            have Hf := Lib.hid hf
            have Hm9 := Lib.hid hm
            have i0 : (0 : Int) ≤ (m : Int) := by omega
            have i1 : (m : Int) < (S.length : Int) := by omega
            have hts : ¬ y = x → ¬ ∃ k, k ≤ S.length ∧ pre ++ [x] = S.take k := by
              rintro hne ⟨k, hk, he⟩
              have h1 : (pre ++ [x])[m]? = some x := by simp [← hm]
              rw [he] at h1
              rw [List.getElem?_take] at h1
              split at h1
              · rw [hy] at h1; exact hne (Option.some.inj h1)
              · cases h1
            have Hts := Lib.hid hts
            clear hH hsr hro hcell hy hp hn1 hK hf hm hts hrb hnb hc hsl hab
            have hgd : decide (S.length ≤ m) = false := by simp; omega
            have hge : decide ((S.length : Int) ≤ (m : Int)) = false := by simp; omega
            cases hd : decide (y.k = x.k)
            · gi_wp2_with fail
              refine wpIn_region_quiet_plain (by kernel_rfl) (by kernel_rfl) (by kernel_rfl) ?_
              repeat (gi_big_quiet_step (fail))
              refine wpQuietIn_nil ?_
              rintro _ ⟨nq, rfl⟩
              gi_wp2_with fail
              exact ⟨((drewN_keeps W nq).trans (KeepsOthers.setCell _ _ _)).from _, Hts.out (by rintro rfl; simp at hd)⟩
            · cases hv : (y.v == x.v)
              · have hv1 : (y.v != x.v) = true := by rw [bne, hv]; rfl
                have hv2 : decide (y.v = x.v) = false := by simpa using hv
                gi_wp2_with fail
                refine wpIn_region_quiet_plain (by kernel_rfl) (by kernel_rfl) (by kernel_rfl) ?_
                repeat (gi_big_quiet_step (fail))
                refine wpQuietIn_nil ?_
                rintro _ ⟨nq, rfl⟩
                gi_wp2_with fail
                exact ⟨((drewN_keeps W nq).trans (KeepsOthers.setCell _ _ _)).from _, Hts.out (by rintro rfl; simp at hv)⟩
              · have hv1 : (y.v != x.v) = false := by rw [bne, hv]; rfl
                have hv2 : decide (y.v = x.v) = true := by simpa using hv
                gi_wp2_with fail
                refine wpIn_region_quiet_plain (by kernel_rfl) (by kernel_rfl) (by kernel_rfl) ?_
                repeat (gi_big_quiet_step (fail))
                refine wpQuietIn_nil ?_
                rintro _ ⟨nq, rfl⟩
                gi_wp2_with fail
                have hxy : y = x := by
                  obtain ⟨xk, xv⟩ := x
                  obtain ⟨yk, yv⟩ := y
                  simp only [decide_eq_true_eq] at hd hv2
                  subst hd hv2
                  rfl
                have hln : (pre ++ [x]).length = m + 1 := by simp [Hm9.out]
                have hfr : Frm [nb] W ((W.drewN nq).setCell ⟨nb, 0, none⟩ (.int .i64 ((m : Int) + 1))) := ((Frm.refl [nb] W).drewN nq).setCell (a := ⟨nb, 0, none⟩) (.inl (by simp)) _
                refine ⟨((drewN_keeps W nq).trans (KeepsOthers.setCell _ _ _)).from _, hfr.below (by omega) (by simp), ⟨?_, ?_⟩, Hf.out.trans hfr (by simp)⟩
                · rw [hln, List.take_add_one, Hy.out, hxy, ← Hm9.out, ← Hp.out]; rfl
                · have h5 := obj_setCell (w := W.drewN nq) Hn1.out 0 (.int .i64 ((m : Int) + 1))
                  rw [hln]
                  exact h5
          case done =>
            rintro D xs W hD hxs ⟨⟨hp, hn1⟩, hf⟩ hKD
            rw [hxs] at hn1
            clear hp hxs
            have hH := HW.out.frmMore hsR hf (by omega) (by
              intro p hp
              simp only [cpL, List.mem_cons, List.not_mem_nil, or_false] at hp
              rcases hp with rfl | rfl
              · dsimp only; omega
              · dsimp only; omega) hn1 hD hKD
            have s0 := cells1 hn1
            have t0 := cells1 (hH.box (k := b9) (o := .cells #[.pointer (some ⟨C, 0, none⟩)] 27) (by simp))
            obtain ⟨a', c', hro⟩ := hH.refOpen
            obtain ⟨c0, _, _, _⟩ := hro.refCells
            have hHd := (hH.drew hsR).conv Conv.c4
            have hc1 := same_goes (by exact sepR_stable (boxR_stable _ _ _) (sepR_stable (rowR_stable _ _ _ _ _) (sepR_stable (heapR_stable _ _) (sepR_stable (refR_stable _ _) noneR_stable)))) hHd (by omega) hHd.boxes
            have Hc1 := Lib.hid hc1
            have hzn := lt_of_obj hn1
            have hS2n : S2.length ≤ 200 := by omega
            clear hf hn1 hc hsl hab hnb hHd hc1 hH hro
            go_wp2_with fail
            refine wp_region_noPanic ?_
            go_region_with (first
              | (go_at_call_of 13 (Value.pointer (some ⟨N, 0, none⟩)); refine Hc1.out.mono ?_; rintro e w5 ⟨rfl, h5⟩
                 have h5c := (h5.conv Conv.c5).conv (Conv.right Conv.c5)
                 have hc2 := same_goes (by exact sepR_stable (heapR_stable _ _) (sepR_stable (refR_stable _ _) (sepR_stable (boxR_stable _ _ _) (sepR_stable (rowR_stable _ _ _ _ _) noneR_stable)))) h5c hS2n h5c.boxes
                 have Hc2 := Lib.hid hc2
                 clear h5 h5c hc2)
              | (go_at_call_of 13 (Value.pointer (some ⟨A, 0, none⟩)); refine Hc2.out.mono ?_; rintro e w6 ⟨rfl, h6⟩; have H6 := Lib.hid h6; clear h6)
              | (go_at_call 11; refine (awake_any _).mono ?_; rintro e w7 ⟨rfl, hf7⟩
                 have h7 := H6.out.made (by exact sepR_stable (heapR_stable _ _) (sepR_stable (refR_stable _ _) (sepR_stable (heapR_stable _ _) (sepR_stable (refR_stable _ _) (sepR_stable (boxR_stable _ _ _) (sepR_stable (rowR_stable _ _ _ _ _) noneR_stable)))))) (Frm.of_below hf7 (Nat.le_refl _))
                 have u1 := cells1 (h7.box (k := w.heap.size) (o := .cells #[.bool false] 4) (by simp))
                 have u0 : w7.frozen? ⟨w.heap.size, 0, none⟩ = false := frozen_of_obj (h7.box (k := w.heap.size) (o := .cells #[.bool false] 4) (by simp)) 0
                 have zu := World.block_lt_of_cell? _ _ u1
                 dsimp only at zu
                 have H7 := Lib.hid h7
                 clear h7 hf7 H6))
            all_goals refine NoPanic.normal ?_
            all_goals go_wp2_with fail
            all_goals
              have g1 : (w7.setCell ⟨w.heap.size, 0, none⟩ (.bool true)).heap[D]? = some (.deferred (some [])) := obj_setCell_ne (H7.out.box (k := D) (o := .deferred (some [])) (by simp)) (a := ⟨w.heap.size, 0, none⟩) (by dsimp only; omega) _
              have g2 : (w7.setCell ⟨w.heap.size, 0, none⟩ (.bool true)).heap[w.heap.size]? = some (.cells #[.bool true] 4) := obj_setCell (H7.out.box (k := w.heap.size) (o := .cells #[.bool false] 4) (by simp)) 0 _
              have g3 := cells1 ((World.putObj_heap_other (o := .deferred none) (show w.heap.size ≠ D by omega)).trans g2)
              refine ⟨by simp, .inl ⟨_, _, rfl, run_takeDeferred g1, ?_⟩⟩
              refine ⟨.bool true, by simp [results, Try.results4, go_sem, g3], rfl, ?_⟩
              exact (H7.out.below.setCell (p := ⟨w.heap.size, 0, none⟩) (Nat.le_refl _) _).trans (belowK_b (w := w) (Nat.le_refl _) _ D _ _ (by omega) g1 rfl rfl)
          case stop =>
            rintro D c pre W _ hk h _
            exact absurd hk h
theorem copies_any (w : World) (a1 : Option Addr) (n1 c1 : Nat) (l : List OpV) (hl : SlAt opEnc 6 w a1 n1 c1 l) (hw1 : ∀ o ∈ l, o.k.Wf) (a2 : Option Addr) (n2 c2 : Nat) (m : List OpV) (hm : SlAt opEnc 6 w a2 n2 c2 m) (hw2 : ∀ o ∈ m, o.k.Wf) :
    Calls Try.prog 4 #[.slice a1 n1 c1, .slice a2 n2 c2] w (LawTrue w) := by
  by_cases h : 60 < n1 ∨ 60 < n2
  · exact copies_out w a1 n1 c1 a2 n2 c2 h
  · exact copies_in w a1 n1 c1 l hl hw1 (by omega) a2 n2 c2 m hm hw2 (by omega)
end Go.Proofs.Ytclaicpnjllhjaa
