/- A heap's inner calls: one entry is taken out. -/
import Derived.Test.YtclaicpnjllhjaaHeapV
namespace Go.Proofs.Ytclaicpnjllhjaa
open Go.RowKit Go.Maps

theorem cells5 {w : World} {b : Nat} {x y z u v : Value} {t : TypeId} {f : Nat × Nat} (h : w.heap[b]? = some (.cells #[x, y, z, u, v] t f)) : w.cell? ⟨b, 0, none⟩ = some x ∧ w.cell? ⟨b, 1, none⟩ = some y ∧ w.cell? ⟨b, 2, none⟩ = some z ∧ w.cell? ⟨b, 3, none⟩ = some u ∧ w.cell? ⟨b, 4, none⟩ = some v := by
  refine ⟨?_, ?_, ?_, ?_, ?_⟩ <;> (rw [cell_of_obj h]; rfl)
abbrev zeroEnt : Ent := ⟨⟨0, 0, 0, 0⟩, 0⟩
def Ent.obj (x : Ent) : Obj := .cells #[.int .i64 x.k.at_, .int .i64 x.k.src, .int .i64 x.k.sent, .int .i64 x.k.no, .int .i64 x.v] 68
abbrev Ent.val (x : Ent) : Value := .agg #[.int .i64 x.k.at_, .int .i64 x.k.src, .int .i64 x.k.sent, .int .i64 x.k.no, .int .i64 x.v]

section
variable {B : Nat} {w0 w : World} {Q : World → List Nat → Prop} {L : List (Nat × Obj)}
/-- A box of one's own is written. -/
theorem Holds.boxes (h : Holds B w0 Q w L) : ∀ p ∈ L, p.1 < w.heap.size := fun p hp => lt_of_obj (h.box (k := p.1) (o := p.2) hp)
/-- The last entry is let go of. -/
theorem Holds.hCut (hQ : Stable Q) {b g cap M t : Nat} {D : DataW Unit} {l : List Ent} {x : Ent} (hl : l.length = t) (h : Holds B w0 (sepR (heap0 b (.slice (some ⟨g, 0, none⟩) (t + 1) cap) M D (l ++ [x])) Q) w L) :
    Holds B w0 (sepR (heap0 b (.slice (some ⟨g, 0, none⟩) t cap) M D l) Q) ((storeAll w g (t * 5) zeroEnt.cells).setCell ⟨b, 0, none⟩ (.slice (some ⟨g, 0, none⟩) t cap)) L := by
  have hS : Stable (sepR (sepR (boxR b #[.slice (some ⟨g, 0, none⟩) (t + 1) cap, .map (some M)] 64) (plR M D)) Q) := sepR_stable (sepR_stable (boxR_stable _ _ _) (mapR_stable _ _ _ _ _)) hQ
  have hll : (l ++ [x]).length = t + 1 := by rw [List.length_append, hl]; rfl
  have h1 := h.hRow
  unfold entR at h1
  rw [hll] at h1
  have h2 := h1.putFlat ent_len hS (l := l ++ [x]) (i := t) (by omega) zeroEnt
  have h3 : Holds B w0 (sepR (rowR 68 5 (.slice (some ⟨g, 0, none⟩) t cap) t (flat Ent.cells l)) (sepR (sepR (boxR b #[.slice (some ⟨g, 0, none⟩) (t + 1) cap, .map (some M)] 64) (plR M D)) Q)) (storeAll w g (t * 5) zeroEnt.cells) L := by
    refine h2.conv (Conv.left fun w F hF _ => ⟨F, ⟨?_, hF.2⟩, fun _ => Iff.rfl⟩)
    have h4 := row_cut hF.1 (k := t) (by omega)
    rw [flat_take ent_len] at h4
    have e : ((l ++ [x]).set t zeroEnt).take t = l := by
      rw [List.take_set_of_le (Nat.le_refl _), List.take_append_of_le_length (by omega), List.take_of_length_le (by omega)]
    rw [e] at h4
    exact h4
  have h5 : Holds B w0 (sepR (boxR b #[.slice (some ⟨g, 0, none⟩) (t + 1) cap, .map (some M)] 64) (sepR (plR M D) (sepR (rowR 68 5 (.slice (some ⟨g, 0, none⟩) t cap) t (flat Ent.cells l)) Q))) (storeAll w g (t * 5) zeroEnt.cells) L :=
    h3.conv (Conv.exch.trans (Conv.flat.trans (Conv.refl _)))
  have h6 := h5.boxPut (sepR_stable (mapR_stable _ _ _ _ _) (sepR_stable (rowR_stable _ _ _ _ _) hQ)) 0 (.slice (some ⟨g, 0, none⟩) t cap)
  refine Holds.conv h6 ?_
  unfold heap0 entR
  rw [hl]
  exact (Conv.fold.right).trans Conv.fold

set_option maxHeartbeats 4000000 in
set_option maxRecDepth 100000 in
theorem remove_goes (hQ : Stable Q) {b : Nat} {l : List Ent} (h : Holds B w0 (sepR (rawR b l) Q) w L) (hn : l.length ≤ 200) {i : Nat} {x : Ent} (hi : l[i]? = some x) :
    Calls Try.prog 37 #[.pointer (some ⟨b, 0, none⟩), .int .i64 (i : Int)] w (Goes x.val B w0 (sepR (rawR b (removeL l i)) Q) L) := by
  have hil := (List.getElem?_eq_some_iff.1 hi).1
  obtain ⟨t, ht⟩ : ∃ t, l.length = t + 1 := ⟨l.length - 1, by omega⟩
  obtain ⟨y, hy⟩ : ∃ y, l[t]? = some y := ⟨_, List.getElem?_eq_getElem (by omega)⟩
  have htl : t < l.length := by omega
  have hrm : removeL l i = if i < t then sinkL (riseL ((swapL l i t).take t) i) i else (swapL l i t).take t := by
    unfold removeL
    rw [show l.length - 1 = t by omega]
  have hcut : swapL l i t = (swapL l i t).take t ++ [x] := by
    have h1 : (swapL l i t)[t]? = some x := by rw [swapL_get hil htl, tr_right]; exact hi
    have h2 : (swapL l i t).take (t + 1) = (swapL l i t).take t ++ [x] := by rw [List.take_add_one, h1]; rfl
    rw [← h2, List.take_of_length_le (by rw [swapL_length]; omega)]
  have hl2 : ((swapL l i t).take t).length = t := by rw [List.length_take, swapL_length]; omega
  have hxw : x.k.Wf := by
    obtain ⟨ev, M, D, hp, h1⟩ := h.rawOpen
    exact hp.wf x (List.mem_of_getElem? hi)
  have hLb := h.boxes
  have hBw := h.le
  have htn : t ≤ 199 := by omega
  have hs := sepR_stable (rawR_stable b l) hQ
  have hb1 := (h.alloc hs zeroEnt.obj).alloc hs x.obj
  have hsw := swap_goes hQ hb1 hn hi hy
  obtain ⟨ev, M, D, hp, h1⟩ := h.rawOpen
  obtain ⟨g, cap, rfl, hg, hcap, _⟩ := h1.rowVal (by omega)
  obtain ⟨c0, c1, f0, hb⟩ := h1.hCell0
  obtain ⟨p0, p1, p2, p3, p4⟩ := h1.entAt hi
  have hi0 : (0 : Int) ≤ (i : Int) := by omega
  have hi1 : (i : Int) < (l.length : Int) := by omega
  have ht1 : (l.length : Int) - 1 = (t : Int) := by omega
  have ht2 : IntKind.i64.wrap (t : Int) = (t : Int) := IntWalk.i64_in _ (by omega)
  have Hsw := Lib.hid hsw
  have Hcut := Lib.hid hcut
  have Hrm := Lib.hid hrm
  have Hl2 := Lib.hid hl2
  have Hxw := Lib.hid hxw
  have HLb := Lib.hid hLb
  clear hb1 hsw hrm hcut hl2 hxw hLb h h1 hp hi hy ht hn
  generalize removeL l i = r at Hrm ⊢
  generalize (swapL l i t).take t = S at Hcut Hl2 Hrm
  unfold Ent.obj at Hsw
  go_enter Try.func37, Try.ntmps37
  go_wp2_with fail
  refine Hsw.out.mono ?_
  rintro e w1 ⟨rfl, hS1⟩
  rw [Hcut.out] at hS1
  obtain ⟨ev, M, D, hp, h1⟩ := hS1.rawOpen
  have hlS : (S ++ [x]).length = t + 1 := by rw [List.length_append, Hl2.out]; rfl
  have hv := h1.rowVal (by omega)
  rw [hlS] at hv
  clear c0 c1 f0 hb p0 p1 p2 p3 p4 hg hcap Hsw
  obtain ⟨g2, cap2, rfl, hg, hcap, hcm⟩ := hv
  obtain ⟨c0, c1, f0, hb⟩ := h1.hCell0
  have hxt : (S ++ [x])[t]? = some x := by rw [List.getElem?_append_right (by rw [Hl2.out]; exact Nat.le_refl _), Hl2.out, Nat.sub_self]; rfl
  obtain ⟨p0, p1, p2, p3, p4⟩ := h1.entAt hxt
  obtain ⟨hbg, _, _⟩ := h1.hApart
  have hrw := h1.hRow.row
  rw [hlS] at hrw
  have fz : ∀ j, w1.frozen? ⟨g2, j, none⟩ = false := fun j => hrw.frozenAt j
  clear hrw
  have hcu := h1.hCut hQ Hl2.out
  have H2 := Lib.hid hcu
  have HP := Lib.hid hp
  have ht3 : (t : Int) < ((t + 1 : Nat) : Int) := by omega
  have ht4 : (0 : Int) ≤ (t : Int) := by omega
  clear hS1 h1 hp hcu hxt hlS
  go_wp2_with fail
  refine wp_world (fun w2 => Holds B w0 (sepR (heap0 b (.slice (some ⟨g2, 0, none⟩) t cap2) M D S) Q) w2 _) H2.out fun w2 h2 => ?_
  clear c0 c1 f0 hb p0 p1 p2 p3 p4 fz hbg H2 ht3
  obtain ⟨c0, c1, f0, hb⟩ := h2.hCell0
  obtain ⟨p0, p1, p2, p3, p4⟩ := cells5 (h2.box (k := w.heap.size + 1) (o := .cells #[.int .i64 x.k.at_, .int .i64 x.k.src, .int .i64 x.k.sent, .int .i64 x.k.no, .int .i64 x.v] 68) (by simp))
  have z0 := World.block_lt_of_cell? _ _ p0
  dsimp only at z0
  have H2 := Lib.hid h2
  clear h2
  go_still_tail 6, (by kernel_rfl)
  go_wp2_with (at_delete; refine Stop.of ?_)
  refine Stop.go ?_
  have hS2 : Stable (sepR (heap0 b (.slice (some ⟨g2, 0, none⟩) t cap2) M D S) Q) := sepR_stable (heap0_stable _ _ _ _ _) hQ
  have h2 := H2.out.drew hS2
  refine wpList_delete_own _ rfl _ _ 61 33 rfl 3 keyedKey Try.underlying61 (plainElem Try.prog 3) M _ _ rfl h2.hMap.mapAt _ _ rfl (keyOf_key _ Hxw.out) ?_
  intro w3 hm3 ht3
  have h3 := ((h2.hMap.mapGrown (sepR_stable (sepR_stable (boxR_stable _ _ _) (rowR_stable _ _ _ _ _)) hQ) hm3 ht3.grown).hMap').rawShut HP.out.cut
  have H3 := Lib.hid h3
  clear c0 c1 f0 hb p0 p1 p2 p3 p4 z0 hm3 ht3 h2 h3 H2 hS2
  by_cases hlt : i < t
  · have hr1 := Hrm.out
    rw [if_pos hlt] at hr1
    have Hr1 := Lib.hid hr1
    clear hr1
    go_wp2_with fail
    refine (rise_goes hQ H3.out (by have := Hl2.out; omega) (by have := Hl2.out; omega)).mono ?_
    rintro e w4 ⟨rfl, h4⟩
    have hlr : (riseL S i).length = t := by rw [(riseL_perm S i).length_eq]; exact Hl2.out
    have Hlr := Lib.hid hlr
    have H4 := Lib.hid h4
    clear h4 hlr
    go_wp2_with fail
    refine (sink_goes hQ H4.out (by have := Hlr.out; omega) (by have := Hlr.out; omega)).mono ?_
    rintro e w5 ⟨rfl, h5⟩
    rw [← Hr1.out] at h5
    obtain ⟨p0, p1, p2, p3, p4⟩ := cells5 (h5.box (k := w.heap.size + 1) (o := .cells #[.int .i64 x.k.at_, .int .i64 x.k.src, .int .i64 x.k.sent, .int .i64 x.k.no, .int .i64 x.v] 68) (by simp))
    have hbz := h5.box (k := w.heap.size) (o := .cells #[.int .i64 0, .int .i64 0, .int .i64 0, .int .i64 0, .int .i64 0] 68) (by simp)
    obtain ⟨r0, r1, r2, r3, r4⟩ := cells5 hbz
    have fz : ∀ j, w5.frozen? ⟨w.heap.size, j, none⟩ = false := fun j => frozen_of_obj hbz j
    have z0 := World.block_lt_of_cell? _ _ p0
    have z1 := World.block_lt_of_cell? _ _ r0
    dsimp only at z0 z1
    have h6 := (h5.sub (M := (w.heap.size, .cells #[.int .i64 0, .int .i64 0, .int .i64 0, .int .i64 0, .int .i64 0] 68) :: L) (fun p hp => by rcases List.mem_cons.1 hp with rfl | hp <;> simp [*])).scratch (sepR_stable (rawR_stable _ _) hQ) hBw (fun p hp e => by have := HLb.out p hp; omega) x.cells _ _ 0
    have H6 := Lib.hid h6
    clear h5 h6 hbz
    go_wp2_with fail
    refine bodyPost_ret (v := x.val) (by simp [results, Try.results37, go_sem, r0, r1, r2, r3, r4]) rfl ⟨rfl, H6.out⟩
  · have hr1 := Hrm.out
    rw [if_neg hlt] at hr1
    have h5 := H3.out
    rw [← hr1] at h5
    clear hr1
    obtain ⟨p0, p1, p2, p3, p4⟩ := cells5 (h5.box (k := w.heap.size + 1) (o := .cells #[.int .i64 x.k.at_, .int .i64 x.k.src, .int .i64 x.k.sent, .int .i64 x.k.no, .int .i64 x.v] 68) (by simp))
    have hbz := h5.box (k := w.heap.size) (o := .cells #[.int .i64 0, .int .i64 0, .int .i64 0, .int .i64 0, .int .i64 0] 68) (by simp)
    obtain ⟨r0, r1, r2, r3, r4⟩ := cells5 hbz
    have fz : ∀ j, w3.frozen? ⟨w.heap.size, j, none⟩ = false := fun j => frozen_of_obj hbz j
    have z0 := World.block_lt_of_cell? _ _ p0
    have z1 := World.block_lt_of_cell? _ _ r0
    dsimp only at z0 z1
    have h6 := (h5.sub (M := (w.heap.size, .cells #[.int .i64 0, .int .i64 0, .int .i64 0, .int .i64 0, .int .i64 0] 68) :: L) (fun p hp => by rcases List.mem_cons.1 hp with rfl | hp <;> simp [*])).scratch (sepR_stable (rawR_stable _ _) hQ) hBw (fun p hp e => by have := HLb.out p hp; omega) x.cells _ _ 0
    have H6 := Lib.hid h6
    clear h5 h6 hbz
    go_wp2_with fail
    refine bodyPost_ret (v := x.val) (by simp [results, Try.results37, go_sem, r0, r1, r2, r3, r4]) rfl ⟨rfl, H6.out⟩
end
end Go.Proofs.Ytclaicpnjllhjaa
