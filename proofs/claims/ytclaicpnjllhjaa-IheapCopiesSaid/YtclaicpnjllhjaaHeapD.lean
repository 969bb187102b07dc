/- A heap's calls: New, Push, Pop. -/
import Derived.Test.YtclaicpnjllhjaaHeapC
import Derived.Deep.RegionLaw
namespace Go.Proofs.Ytclaicpnjllhjaa
open Go.RowKit Go.Maps

section
variable {B : Nat} {w0 w : World} {Q : World → List Nat → Prop} {L : List (Nat × Obj)}

theorem Holds.hFar {b M : Nat} {ev : Value} {D : DataW Unit} {l : List Ent} (h : Holds B w0 (sepR (heap0 b ev M D l) Q) w L) : b ∉ ev.ownBlock.toList := by
  obtain ⟨F, h, _⟩ := h
  obtain ⟨F1, F2, ⟨G1, G2, ⟨_, rfl⟩, ⟨G3, G4, ⟨_, rfl⟩, ⟨_, rfl⟩, hd1, _, _, rfl⟩, hd2, _⟩, _⟩ := h.res
  exact fun hm => hd2 b (by simp) (by simp at hm; simp [hm])
/-- Behind an append onto the row. -/
theorem Holds.hAppended (hQ : Stable Q) {b M : Nat} {ev ev' : Value} {D : DataW Unit} {l : List Ent} {x : Ent} {w' : World} (h : Holds B w0 (sepR (heap0 b ev M D l) Q) w L)
    (hown : w'.ownsRow 0 68 5 ev' (l.length + 1) (flat Ent.cells l ++ x.cells)) (hf : Frm ev.ownBlock.toList w w') (hn : ∀ k, ev'.ownBlock = some k → ev.ownBlock = some k ∨ w.heap.size ≤ k) :
    Holds B w0 (sepR (heap0 b ev' M D (l ++ [x])) Q) (w'.setCell ⟨b, 0, none⟩ ev') L := by
  have hS : Stable (sepR (sepR (boxR b #[ev, .map (some M)] 64) (plR M D)) Q) := sepR_stable (sepR_stable (boxR_stable _ _ _) (mapR_stable _ _ _ _ _)) hQ
  have h2 := h.hRow.appended hS hown hf hn
  have h5 : Holds B w0 (sepR (boxR b #[ev, .map (some M)] 64) (sepR (plR M D) (sepR (rowR 68 5 ev' (l.length + 1) (flat Ent.cells l ++ x.cells)) Q))) w' L := h2.conv (Conv.exch.trans Conv.flat)
  have h6 := h5.boxPut (sepR_stable (mapR_stable _ _ _ _ _) (sepR_stable (rowR_stable _ _ _ _ _) hQ)) 0 ev'
  refine Holds.conv h6 ?_
  unfold heap0 entR
  rw [List.length_append, flat_append, flat_single]
  exact (Conv.fold.right).trans Conv.fold

set_option maxHeartbeats 1000000 in
theorem new_goes (hQ : Stable Q) (h : Holds B w0 Q w L) : Calls Try.prog 9 #[] w (Goes (.pointer (some ⟨w.heap.size + 1, 0, none⟩)) B w0 (sepR (heapR (w.heap.size + 1) []) Q) L) := by
  have hmm : (Instr.makeMap 61 none).run Try.prog w = .ok (.map (some w.heap.size)) (w.alloc (.map #[] 0)) := by
    simp [Instr.makeMap]
  have h1 := h.newMapR (P := Try.prog) (k := 33) (e := 3) hQ
  have h2 := h1.newBox (sepR_stable (mapR_stable _ _ _ _ _) hQ) #[.slice none 0 0, .map (some w.heap.size)] 64
  have h3 : Holds B w0 (sepR (rawR (w.heap.size + 1) []) Q) ((w.alloc (.map #[] 0)).alloc (.cells #[.slice none 0 0, .map (some w.heap.size)] 64)) L := by
    refine Holds.rawShut (ev := .slice none 0 0) (M := w.heap.size) places_empty ?_
    have h4 := h2.nilRow 68 5
    simp only [World.size_alloc] at h4
    exact h4.conv (Conv.exch.trans ((Conv.exch.right).trans ((Conv.fold.right).trans Conv.fold)))
  have H3 := Lib.hid h3
  clear h h1 h2 h3
  go_enter Try.func9, Try.ntmps9
  go_wp2_with fail
  go_ret
  exact ⟨rfl, H3.out.heapShut HFits.nil⟩

set_option maxHeartbeats 4000000 in
set_option maxRecDepth 100000 in
theorem push_raw (hQ : Stable Q) {b : Nat} {l : List Ent} (h : Holds B w0 (sepR (rawR b l) Q) w L) (hn : l.length ≤ 199) {x : Ent} (hw : x.k.Wf) (hk : ∀ y ∈ l, y.k ≠ x.k) :
    Calls Try.prog 17 #[.pointer (some ⟨b, 0, none⟩), x.k.val, .int .i64 x.v] w (Goes (.int .i64 0) B w0 (sepR (rawR b (pushL l x)) Q) L) := by
  have hs := sepR_stable (rawR_stable b l) hQ
  have h0 := h.alloc hs (.cells #[.int .i64 x.k.at_, .int .i64 x.k.src, .int .i64 x.k.sent, .int .i64 x.k.no] 33)
  obtain ⟨ev, M, D, hp, h1⟩ := h0.rawOpen
  obtain ⟨c0, c1, f0, hb⟩ := h1.hCell0
  obtain ⟨a0, cap0, rfl⟩ := row_slice h1.hRow.row
  have hlk := fun n => look_not (w := (w.alloc (.cells #[.int .i64 x.k.at_, .int .i64 x.k.src, .int .i64 x.k.sent, .int .i64 x.k.no] 33)).drewN n) h1.hMap.mapAt hp hw hk
  have hnot : Maps.has D x.k.lit = false := by
    rw [hp.has _ hw, decide_eq_false_iff_not]
    rintro ⟨y, hy, e⟩
    exact hk y hy e
  have HP := Lib.hid (hp.snoc hw hnot)
  have hsz : Maps.size D ≤ 199 := by rw [hp.size]; exact hn
  have Hsz := Lib.hid hsz
  have hpl : (l ++ [x])[l.length]? = some x := by simp
  have Hpl := Lib.hid hpl
  have hs0 : Stable (sepR (heap0 b (.slice a0 l.length cap0) M D l) Q) := sepR_stable (heap0_stable _ _ _ _ _) hQ
  have H1 := Lib.hid h1
  have Hw := Lib.hid hw
  obtain ⟨i0, hi0, hi1, hi2, hi3⟩ := info_parts infoEntry
  clear h h0 h1 hp hk hw hnot hsz hpl
  go_enter Try.func17, Try.ntmps17
  go_wp2_with fail
  go_quiet (fail)
  go_wp2_with fail
  refine wp_world (fun w1 => Holds B w0 (sepR (heap0 b (.slice a0 l.length cap0) M D l) Q) w1 _) (H1.out.drewN hs0 _) fun w1 h2 => ?_
  clear c0 c1 f0 hb hlk H1
  have hbx := h2.hBox.theBox
  obtain ⟨c0, c1⟩ := cells2 hbx
  have hb := lt_of_obj hbx
  obtain ⟨p0, p1, p2, p3⟩ := cells4 (h2.box (k := w.heap.size) (o := .cells #[.int .i64 x.k.at_, .int .i64 x.k.src, .int .i64 x.k.sent, .int .i64 x.k.no] 33) (by simp))
  have z0 := World.block_lt_of_cell? _ _ p0
  dsimp only at z0
  have hbF : b ∉ (Value.slice a0 l.length cap0).ownBlock.toList := h2.hFar
  have Hbx := Lib.hid hbx
  have H2 := Lib.hid h2
  clear h2 hbx
  go_region_law (refine step_append_foot rfl (.tmp 31) (.tmp 35) 62 rfl 68 i0 (.agg #[.int .i64 0, .int .i64 0, .int .i64 0, .int .i64 0, .int .i64 0]) 5 40 Try.underlying62 hi0 hi1 hi2 hi3 rfl (by decide) (.slice a0 l.length cap0) l.length (flat Ent.cells l) rfl (H2.out.hRow.row.drew.alloc _) ⟨w1.heap.size, 0, none⟩ 1 1 x.cells rfl rfl (cells_new _ _ _) (ent_one x) (by unfold maxLen; omega) (by omega) ?_; intro a3 c3 w3 hown hF hnew; have hb3 := hF.obj (obj_alloc (w := w1.drew) Hbx.out _) hbF; have hlb3 := lt_of_obj hb3; have hc3 := cell_of_obj hb3 0; have hzz3 := frozen_of_obj hb3 0; simp only [List.getElem?_toArray, List.getElem?_cons_zero] at hc3; have Hown := Lib.hid hown; have HF := Lib.hid hF; have Hnew := Lib.hid hnew; clear hb3 hown hF hnew)
  all_goals go_wp2_with fail
  all_goals
    refine wp_world (fun w2 => Holds B w0 (sepR (heap0 b (.slice a3 (l.length + 1) c3) M D (l ++ [x])) Q) w2 _) ((H2.out.drew hs0).made hs0 ((Frm.refl _ _).alloc _) |>.hAppended hQ Hown.out HF.out Hnew.out) fun w2 h4 => ?_
    clear c0 c1 p0 p1 p2 p3 hb z0 hbF Hbx H2 hlb3 hc3 hzz3 Hown HF Hnew
    obtain ⟨c0, c1, f0, hb⟩ := h4.hCell0
    obtain ⟨p0, p1, p2, p3⟩ := cells4 (h4.box (k := w.heap.size) (o := .cells #[.int .i64 x.k.at_, .int .i64 x.k.src, .int .i64 x.k.sent, .int .i64 x.k.no] 33) (by simp))
    have z0 := World.block_lt_of_cell? _ _ p0
    dsimp only at z0
    have H4 := Lib.hid h4
    clear h4
    have hs4 : Stable (sepR (heap0 b (.slice a3 (l.length + 1) c3) M D (l ++ [x])) Q) := sepR_stable (heap0_stable _ _ _ _ _) hQ
    go_still_tail 6, (by kernel_rfl)
    go_wp2_with (at_mapUpdate; refine Stop.of ?_)
    refine Stop.go ?_
    refine wpList_mapUpdate_own _ rfl _ _ _ 61 rfl 33 3 keyedKey Try.underlying61 (plainElem Try.prog 3) M _ _ rfl (H4.out.drew hs4).hMap.mapAt (by have := Hsz.out; unfold maxLen; omega) _ _ _ rfl rfl (keyOf_key _ Hw.out) _ [] (plainElem_int Try.underlying3 (WalkArith.wf_i64 (by omega))) ?_
    intro w5 hm5 hg5
    have h5 := (((H4.out.drew hs4).hMap.mapGrown (sepR_stable (sepR_stable (boxR_stable _ _ _) (rowR_stable _ _ _ _ _)) hQ) hm5 hg5).hMap').rawShut HP.out
    have h6 := h5.sub (M := L) (fun p hp => by simp [hp])
    have H6 := Lib.hid h6
    clear c0 c1 f0 hb p0 p1 p2 p3 z0 hm5 hg5 h5 h6 H4 hs4
    go_wp2_with fail
    refine (rise_goes hQ H6.out (by simp; omega) (i := l.length) (by simp)).mono ?_
    rintro e w6 ⟨rfl, h7⟩
    have H7 := Lib.hid h7
    clear h7 H6
    go_wp2_with fail
    go_ret
    exact ⟨rfl, H7.out⟩

set_option maxHeartbeats 1000000 in
theorem push_there (hQ : Stable Q) {b : Nat} {l : List Ent} (h : Holds B w0 (sepR (rawR b l) Q) w L) {i : Nat} {x : Ent} (hx : l[i]? = some x) (v : Int) :
    Calls Try.prog 17 #[.pointer (some ⟨b, 0, none⟩), x.k.val, .int .i64 v] w (Goes (.int .i64 13) B w0 (sepR (rawR b l) Q) L) := by
  have hs := sepR_stable (rawR_stable b l) hQ
  have h0 := h.made hs ((Frm.refl _ _).alloc (.cells #[.int .i64 x.k.at_, .int .i64 x.k.src, .int .i64 x.k.sent, .int .i64 x.k.no] 33))
  obtain ⟨ev, M, D, hp, h1⟩ := h0.rawOpen
  obtain ⟨c0, c1, f0, hb⟩ := h1.hCell0
  have hlk := fun n => look_there (w := (w.alloc (.cells #[.int .i64 x.k.at_, .int .i64 x.k.src, .int .i64 x.k.sent, .int .i64 x.k.no] 33)).drewN n) h1.hMap.mapAt hp hx
  have H0 := Lib.hid h0
  clear h h0 hp h1 hx
  go_enter Try.func17, Try.ntmps17
  go_wp2_with fail
  go_quiet (fail)
  go_wp2_with fail
  go_ret
  exact ⟨rfl, H0.out.drewN hs _⟩

/-- What Push answers, and what there is then. -/
def pushE (k : Kv) (S : List Ent) : Int := match findE k S with | some _ => 13 | none => 0
def pushS (x : Ent) (S : List Ent) : List Ent := match findE x.k S with | some _ => S | none => insE x S
theorem push_some {x y : Ent} {S : List Ent} (h : findE x.k S = some y) : pushE x.k S = 13 ∧ pushS x S = S := by simp [pushE, pushS, h]
theorem push_none {x : Ent} {S : List Ent} (h : findE x.k S = none) : pushE x.k S = 0 ∧ pushS x S = insE x S := by simp [pushE, pushS, h]
theorem push_goes (hQ : Stable Q) {b : Nat} {S : List Ent} (h : Holds B w0 (sepR (heapR b S) Q) w L) (hn : S.length ≤ 199) (k : Kv) (v : Int) (hw : k.Wf) :
    Calls Try.prog 17 #[.pointer (some ⟨b, 0, none⟩), k.val, .int .i64 v] w (Goes (.int .i64 (pushE k S)) B w0 (sepR (heapR b (pushS ⟨k, v⟩ S)) Q) L) := by
  obtain ⟨l, hfit, h0⟩ := h.heapOpen
  have hlen := hfit.len
  cases hf : findE k S with
  | none =>
    obtain ⟨e1, e2⟩ := push_none (x := ⟨k, v⟩) hf
    simp only at e1
    rw [e1, e2]
    refine (push_raw hQ h0 (by omega) (x := ⟨k, v⟩) hw (hfit.no hf)).mono ?_
    rintro e w1 ⟨rfl, h1⟩
    refine ⟨rfl, h1.heapShut ⟨pushL_heap _ hfit.heap, (pushL_perm _ _).trans ((List.Perm.cons _ hfit.perm).trans (insE_perm _ _).symm), insE_srt hfit.srt (findE_none hf), fun e he => ?_⟩⟩
    rcases List.mem_cons.1 ((insE_perm _ _).mem_iff.1 he) with rfl | he
    · exact hw
    · exact hfit.wf e he
  | some y =>
    obtain ⟨e1, e2⟩ := push_some (x := ⟨k, v⟩) hf
    simp only at e1
    rw [e1, e2]
    obtain ⟨i, hi, rfl⟩ := hfit.get hf
    refine (push_there hQ h0 hi v).mono ?_
    rintro e w1 ⟨rfl, h1⟩
    exact ⟨rfl, h1.heapShut hfit⟩

theorem delE_tail {S : List Ent} (h : Srt S) {x : Ent} (hx : S.head? = some x) : delE x.k S = S.tail := by
  cases S with
  | nil => simp at hx
  | cons y S =>
    simp at hx
    subst hx
    exact delE_head h
/-- A box of four is filled again. -/
theorem Holds.refill4 {R : World → List Nat → Prop} (hR : Stable R) {k : Nat} {t : TypeId} {f : Nat × Nat} {a0 a1 a2 a3 : Value} (hk : B ≤ k) (hL : ∀ p ∈ L, p.1 ≠ k) (h : Holds B w0 R w ((k, .cells #[a0, a1, a2, a3] t f) :: L)) (b0 b1 b2 b3 : Value) :
    Holds B w0 R ((((w.setCell ⟨k, 0, none⟩ b0).setCell ⟨k, 1, none⟩ b1).setCell ⟨k, 2, none⟩ b2).setCell ⟨k, 3, none⟩ b3) ((k, .cells #[b0, b1, b2, b3] t f) :: L) :=
  (((h.put (L := []) hR hk (by simp) hL 0 b0).put (L := []) hR hk (by simp) hL 1 b1).put (L := []) hR hk (by simp) hL 2 b2).put (L := []) hR hk (by simp) hL 3 b3
theorem bodyPost_world {P : Program} {f : Func} {post : Ending → World → Prop} {e : Exit} {a : Act} {w : World} (I : World → Prop) (h : I w) (k : ∀ w', I w' → bodyPost P f post e a w') : bodyPost P f post e a w := k w h
set_option maxHeartbeats 2000000 in
set_option maxRecDepth 100000 in
theorem pop_goes (hQ : Stable Q) {b : Nat} {S : List Ent} (h : Holds B w0 (sepR (heapR b S) Q) w L) (hn : S.length ≤ 200) :
    Calls Try.prog 18 #[.pointer (some ⟨b, 0, none⟩)] w (Goes (firstT S) B w0 (sepR (heapR b S.tail) Q) L) := by
  have hs := sepR_stable (heapR_stable b S) hQ
  have hBw := h.le
  have hLb := h.boxes
  have hLn : ∀ p ∈ L, p.1 ≠ w.heap.size := fun p hp e => by have := hLb p hp; omega
  have hk0 := h.alloc hs (.cells #[.int .i64 0, .int .i64 0, .int .i64 0, .int .i64 0] 33)
  have hc := first_goes hQ hk0 hn
  have Hc := Lib.hid hc
  have HLn := Lib.hid hLn
  clear h hk0 hc hLb hLn
  cases S with
  | nil =>
    go_enter Try.func18, Try.ntmps18
    go_wp2_with fail
    refine Hc.out.mono ?_
    rintro e w1 ⟨rfl, h1⟩
    dsimp only [firstT, firstE, firstErr, Kv.val]
    have hbz := h1.box (k := w.heap.size) (o := .cells #[.int .i64 0, .int .i64 0, .int .i64 0, .int .i64 0] 33) (by simp)
    obtain ⟨r0, r1, r2, r3⟩ := cells4 hbz
    have fz : ∀ j, w1.frozen? ⟨w.heap.size, j, none⟩ = false := fun j => frozen_of_obj hbz j
    have z1 := World.block_lt_of_cell? _ _ r0
    dsimp only at z1
    have h6 := ((h1.refill4 hs hBw HLn.out (.int .i64 0) (.int .i64 0) (.int .i64 0) (.int .i64 0)).refill4 hs hBw HLn.out (.int .i64 0) (.int .i64 0) (.int .i64 0) (.int .i64 0))
    have H6 := Lib.hid h6
    clear h1 hbz Hc h6
    go_wp2_with fail
    refine bodyPost_world (fun W => Holds B w0 (sepR (heapR b []) Q) W _) H6.out fun W h7 => ?_
    obtain ⟨s0, s1, s2, s3⟩ := cells4 (h7.box (k := w.heap.size) (o := .cells #[.int .i64 0, .int .i64 0, .int .i64 0, .int .i64 0] 33) (by simp))
    exact bodyPost_ret (v := firstT []) (by simp [results, Try.results18, go_sem, s0, s1, s2, s3, firstT, firstE, firstErr]) rfl ⟨rfl, h7.sub (fun p hp => by simp [hp])⟩
  | cons x S =>
    go_enter Try.func18, Try.ntmps18
    go_wp2_with fail
    refine Hc.out.mono ?_
    rintro e w1 ⟨rfl, h1⟩
    dsimp only [firstT, firstE, firstErr, Kv.val]
    have hbz := h1.box (k := w.heap.size) (o := .cells #[.int .i64 0, .int .i64 0, .int .i64 0, .int .i64 0] 33) (by simp)
    obtain ⟨r0, r1, r2, r3⟩ := cells4 hbz
    have fz : ∀ j, w1.frozen? ⟨w.heap.size, j, none⟩ = false := fun j => frozen_of_obj hbz j
    have z1 := World.block_lt_of_cell? _ _ r0
    dsimp only at z1
    obtain ⟨l, hfit, h2⟩ := (h1.refill4 hs hBw HLn.out (.int .i64 x.k.at_) (.int .i64 x.k.src) (.int .i64 x.k.sent) (.int .i64 x.k.no)).heapOpen
    have hx : l[0]? = some x := by
      have hh := hfit.head
      cases l with
      | nil => simp at hh
      | cons y l => simpa using hh
    have hrm := remove_goes hQ h2 (by rw [hfit.len]; exact hn) hx
    have hfit2 := hfit.remove hx
    rw [delE_head hfit.srt] at hfit2
    have Hfit := Lib.hid hfit2
    have Hrm := Lib.hid hrm
    clear h1 hbz Hc h2 hrm hfit hfit2 hx
    go_wp2_with fail
    refine Hrm.out.mono ?_
    rintro e w2 ⟨rfl, h3⟩
    have h4 := h3.heapShut Hfit.out
    have hs4 := sepR_stable (heapR_stable b S) hQ
    clear r0 r1 r2 r3 fz z1 Hrm h3
    have hbz := h4.box (k := w.heap.size) (o := .cells #[.int .i64 x.k.at_, .int .i64 x.k.src, .int .i64 x.k.sent, .int .i64 x.k.no] 33) (by simp)
    obtain ⟨r0, r1, r2, r3⟩ := cells4 hbz
    have fz : ∀ j, w2.frozen? ⟨w.heap.size, j, none⟩ = false := fun j => frozen_of_obj hbz j
    have z1 := World.block_lt_of_cell? _ _ r0
    dsimp only at z1
    have h6 := (h4.refill4 hs4 hBw HLn.out (.int .i64 x.k.at_) (.int .i64 x.k.src) (.int .i64 x.k.sent) (.int .i64 x.k.no))
    have H6 := Lib.hid h6
    clear h4 hbz h6
    go_wp2_with fail
    refine bodyPost_world (fun W => Holds B w0 (sepR (heapR b S) Q) W _) H6.out fun W h7 => ?_
    obtain ⟨s0, s1, s2, s3⟩ := cells4 (h7.box (k := w.heap.size) (o := .cells #[.int .i64 x.k.at_, .int .i64 x.k.src, .int .i64 x.k.sent, .int .i64 x.k.no] 33) (by simp))
    exact bodyPost_ret (v := firstT (x :: S)) (by simp [results, Try.results18, go_sem, s0, s1, s2, s3, firstT, firstE, firstErr]) rfl ⟨rfl, h7.sub (fun p hp => by simp [hp])⟩
end
end Go.Proofs.Ytclaicpnjllhjaa
