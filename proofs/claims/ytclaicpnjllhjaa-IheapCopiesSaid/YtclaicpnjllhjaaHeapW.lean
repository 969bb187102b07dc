/- A heap's inner calls: which one of two entries is ahead; two change places. -/
import Derived.Test.YtclaicpnjllhjaaHeapR
import Derived.Deep.RegionHeld3
import Derived.Deep.DrawnRows
import Derived.StillTailTactics
import Derived.BigRegion
namespace Go.Proofs.Ytclaicpnjllhjaa
open Go.RowKit Go.Maps

theorem cmp_neg (a b : Kv) : decide (a.cmp b < 0) = a.lt b := by
  rcases cmp_cases a b with ⟨h, e⟩ | ⟨h, e⟩ | ⟨h, e⟩
  · rw [h, e]; rfl
  · rw [h, e, lt_irrefl]; rfl
  · rw [h, lt_asymm e]; rfl

section
variable {B : Nat} {w0 w : World} {Q : World → List Nat → Prop} {L : List (Nat × Obj)}

set_option maxHeartbeats 2000000 in
set_option maxRecDepth 100000 in
theorem ahead_goes (hQ : Stable Q) {b : Nat} {l : List Ent} (h : Holds B w0 (sepR (rawR b l) Q) w L) (hn : l.length ≤ 200) {i j : Nat} {x y : Ent} (hi : l[i]? = some x) (hj : l[j]? = some y) :
    Calls Try.prog 44 #[.pointer (some ⟨b, 0, none⟩), .int .i64 (i : Int), .int .i64 (j : Int)] w (Goes (.bool (x.k.lt y.k)) B w0 (sepR (rawR b l) Q) L) := by
  rw [← cmp_neg]
  have hc := compare_any x.k y.k
  obtain ⟨ev, M, D, hp, h1⟩ := h.rawOpen
  have hil := (List.getElem?_eq_some_iff.1 hi).1
  have hjl := (List.getElem?_eq_some_iff.1 hj).1
  obtain ⟨g, cap, rfl, hg, hcap, _⟩ := h1.rowVal (by omega)
  obtain ⟨c0, c1, f0, hb⟩ := h1.hCell0
  obtain ⟨p0, p1, p2, p3, _⟩ := h1.entAt hi
  obtain ⟨r0, r1, r2, r3, _⟩ := h1.entAt hj
  have hi0 : (0 : Int) ≤ (i : Int) := by omega
  have hi1 : (i : Int) < (l.length : Int) := by omega
  have hj0 : (0 : Int) ≤ (j : Int) := by omega
  have hj1 : (j : Int) < (l.length : Int) := by omega
  have hs : Stable (sepR (rawR b l) Q) := sepR_stable (rawR_stable _ _) hQ
  have H := Lib.hid h
  clear h h1 hp hi hj
  generalize x.k.cmp y.k = cv at hc ⊢
  have Hc := Lib.hid hc
  clear hc
  go_enter Try.func44, Try.ntmps44
  go_wp2_with fail
  go_region_held3 (fun w' => w'.cell? ⟨b, 0, none⟩ = some (.slice (some ⟨g, 0, none⟩) l.length cap) ∧ w'.cell? ⟨g, i * 5, none⟩ = some (.int .i64 x.k.at_) ∧ w'.cell? ⟨g, i * 5 + 1, none⟩ = some (.int .i64 x.k.src) ∧ w'.cell? ⟨g, i * 5 + 2, none⟩ = some (.int .i64 x.k.sent) ∧
      w'.cell? ⟨g, i * 5 + 3, none⟩ = some (.int .i64 x.k.no) ∧ w'.cell? ⟨g, j * 5, none⟩ = some (.int .i64 y.k.at_) ∧ w'.cell? ⟨g, j * 5 + 1, none⟩ = some (.int .i64 y.k.src) ∧ w'.cell? ⟨g, j * 5 + 2, none⟩ = some (.int .i64 y.k.sent) ∧ w'.cell? ⟨g, j * 5 + 3, none⟩ = some (.int .i64 y.k.no))
    (first | go_keep | exact ⟨hf.cell c0 (by simp), hf.cell p0 (by simp), hf.cell p1 (by simp), hf.cell p2 (by simp), hf.cell p3 (by simp), hf.cell r0 (by simp), hf.cell r1 (by simp), hf.cell r2 (by simp), hf.cell r3 (by simp)⟩)
    ((go_at_call 19; refine (Hc.out _).mono ?_; rintro e w1 ⟨rfl, hf⟩))
  have h4 := (show Holds B w0 _ w1 L from by first | exact H.out.made hs hf | exact (H.out.drew hs).made hs hf)
  have H4 := Lib.hid h4
  clear h4 hf
  go_wp2_with fail
  go_ret
  exact ⟨rfl, H4.out⟩

set_option maxHeartbeats 4000000 in
set_option maxRecDepth 100000 in
theorem swap_goes (hQ : Stable Q) {b : Nat} {l : List Ent} (h : Holds B w0 (sepR (rawR b l) Q) w L) (hn : l.length ≤ 200) {i j : Nat} {x y : Ent} (hi : l[i]? = some x) (hj : l[j]? = some y) :
    Calls Try.prog 45 #[.pointer (some ⟨b, 0, none⟩), .int .i64 (i : Int), .int .i64 (j : Int)] w (Goes (.tuple #[]) B w0 (sepR (rawR b (swapL l i j)) Q) L) := by
  obtain ⟨ev, M, D, hp, h1⟩ := h.rawOpen
  have hil := (List.getElem?_eq_some_iff.1 hi).1
  have hjl := (List.getElem?_eq_some_iff.1 hj).1
  obtain ⟨g, cap, rfl, hg, hcap, _⟩ := h1.rowVal (by omega)
  obtain ⟨c0, c1, f0, hb⟩ := h1.hCell0
  obtain ⟨p0, p1, p2, p3, p4⟩ := h1.entAt hi
  obtain ⟨r0, r1, r2, r3, r4⟩ := h1.entAt hj
  obtain ⟨hbg, _, _⟩ := h1.hApart
  have fz : ∀ j, w.frozen? ⟨g, j, none⟩ = false := fun j => h1.hRow.row.frozenAt j
  have hi0 : (0 : Int) ≤ (i : Int) := by omega
  have hi1 : (i : Int) < (l.length : Int) := by omega
  have hj0 : (0 : Int) ≤ (j : Int) := by omega
  have hj1 : (j : Int) < (l.length : Int) := by omega
  have hsw := h1.hSwap hQ hi hj
  have H := Lib.hid hsw
  have HP := Lib.hid (hp.swap hi hj)
  have hxy : i = j → x = y := fun e => by subst e; rw [hi] at hj; exact Option.some.inj hj
  have Hxy := Lib.hid hxy
  have Hxw := Lib.hid (hp.wf x (List.mem_of_getElem? hi))
  have Hyw := Lib.hid (hp.wf y (List.mem_of_getElem? hj))
  have hsz : Maps.size D ≤ 200 ∧ Maps.size (D.put y.k.lit (.lit (.int .i64 ((i : Nat) : Int)))) ≤ 201 := by
    have h1 := size_put (k := y.k.lit) hp.tidy (.lit (.int .i64 ((i : Nat) : Int)))
    have h2 := hp.size
    split at h1 <;> omega
  have Hsz := Lib.hid hsz
  clear hsz
  have Hi : Hid ((swapL l i j)[i]? = some y) := Lib.hid (by rw [swapL_get hil hjl, tr_left]; exact hj)
  have Hj : Hid ((swapL l i j)[j]? = some x) := Lib.hid (by rw [swapL_get hil hjl, tr_right]; exact hi)
  clear h h1 hp hi hj hsw hxy
  generalize swapL l i j = S at H HP Hi Hj ⊢
  rcases Nat.lt_trichotomy i j with hlt | rfl | hlt
  all_goals
    try obtain rfl := Hxy.out rfl
    go_enter Try.func45, Try.ntmps45
    go_wp2_with fail
    go_big_region
    go_wp2_with fail
    refine wp_world (fun w1 => Holds B w0 (sepR (heap0 b (.slice (some ⟨g, 0, none⟩) l.length cap) M D S) Q) w1 L) (H.out.drew (sepR_stable (heap0_stable _ _ _ _ _) hQ)) fun w1 h2 => ?_
    clear c0 c1 f0 hb p0 p1 p2 p3 p4 r0 r1 r2 r3 r4 fz hbg H
    obtain ⟨c0, c1, f0, hb⟩ := h2.hCell0
    obtain ⟨p0, p1, p2, p3, p4⟩ := h2.entAt Hi.out
    have H2 := Lib.hid h2
    clear h2
    go_still_tail 13, (by kernel_rfl)
    go_wp2_with (at_mapUpdate; refine Stop.of ?_)
    refine Stop.go ?_
    refine wpList_mapUpdate_own _ rfl _ _ _ 61 rfl 33 3 keyedKey Try.underlying61 (plainElem Try.prog 3) M _ _ rfl (H2.out.drew (sepR_stable (heap0_stable _ _ _ _ _) hQ)).hMap.mapAt (by have := Hsz.out; unfold maxLen; omega) _ _ _ rfl rfl (keyOf_key _ Hyw.out) _ [] (plainElem_int Try.underlying3 (WalkArith.wf_i64 (by omega))) ?_
    intro w2 hm2 hg2
    have h3 := ((H2.out.drew (sepR_stable (heap0_stable _ _ _ _ _) hQ)).hMap.mapGrown (sepR_stable (sepR_stable (boxR_stable _ _ _) (rowR_stable _ _ _ _ _)) hQ) hm2 hg2).hMap'
    clear c0 c1 f0 hb p0 p1 p2 p3 p4 hm2 hg2 H2
    obtain ⟨c0, c1, f0, hb⟩ := h3.hCell0
    obtain ⟨p0, p1, p2, p3, p4⟩ := h3.entAt Hj.out
    have H3 := Lib.hid h3
    clear h3
    go_wp2_with fail
    go_still_tail 13, (by kernel_rfl)
    go_wp2_with (at_mapUpdate; refine Stop.of ?_)
    refine Stop.go ?_
    refine wpList_mapUpdate_own _ rfl _ _ _ 61 rfl 33 3 keyedKey Try.underlying61 (plainElem Try.prog 3) M _ _ rfl (H3.out.drew (sepR_stable (heap0_stable _ _ _ _ _) hQ)).hMap.mapAt (by have := Hsz.out; unfold maxLen; omega) _ _ _ rfl rfl (keyOf_key _ Hxw.out) _ [] (plainElem_int Try.underlying3 (WalkArith.wf_i64 (by omega))) ?_
    intro w3 hm3 hg3
    have h4 := ((H3.out.drew (sepR_stable (heap0_stable _ _ _ _ _) hQ)).hMap.mapGrown (sepR_stable (sepR_stable (boxR_stable _ _ _) (rowR_stable _ _ _ _ _)) hQ) hm3 hg3).hMap'
    have H4 := Lib.hid h4
    clear c0 c1 f0 hb p0 p1 p2 p3 p4 hm3 hg3 H3 h4
    go_wp2_with fail
    go_end0
    exact ⟨rfl, H4.out.rawShut HP.out⟩
end
end Go.Proofs.Ytclaicpnjllhjaa
