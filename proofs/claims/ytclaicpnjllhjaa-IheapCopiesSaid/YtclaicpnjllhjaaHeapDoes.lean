/- A call of a heap and of the document's answer. -/
import Derived.Test.YtclaicpnjllhjaaHeapRefB
import Derived.Test.YtclaicpnjllhjaaHeapNilW
import Derived.Test.YtclaicpnjllhjaaHeapOrd
namespace Go.Proofs.Ytclaicpnjllhjaa
open Go.RowKit Go.Maps

section
variable {B : Nat} {w0 w : World} {Q : World → List Nat → Prop} {L : List (Nat × Obj)}
abbrev bothR (hb rb : Nat) (S : List Ent) (Q : World → List Nat → Prop) : World → List Nat → Prop := sepR (heapR hb S) (sepR (refR rb S) Q)
theorem bothR_stable (hQ : Stable Q) (hb rb : Nat) (S : List Ent) : Stable (bothR hb rb S Q) := sepR_stable (heapR_stable _ _) (sepR_stable (refR_stable _ _) hQ)
/-- The frame of does, behind At. -/
theorem does_at (hQ : Stable Q) {hb rb : Nat} {S : List Ent} (h : Holds B w0 (bothR hb rb S Q) w L) (hn : S.length ≤ 199) (a v : Int) (k : Kv) :
    Calls Try.prog 27 #[.pointer (some ⟨rb, 0, none⟩), k.val] (w.alloc (.cells #[.int .i64 a, .int .i64 k.at_, .int .i64 k.src, .int .i64 k.sent, .int .i64 k.no, .int .i64 v] 35)) fun e w' => e = .returned (.int .i64 (idxE k S)) ∧ Holds B w0 (bothR hb rb S Q) w' ((w.heap.size, .cells #[.int .i64 a, .int .i64 k.at_, .int .i64 k.src, .int .i64 k.sent, .int .i64 k.no, .int .i64 v] 35) :: L) := by
  have h1 := h.alloc (bothR_stable hQ hb rb S) (.cells #[.int .i64 a, .int .i64 k.at_, .int .i64 k.src, .int .i64 k.sent, .int .i64 k.no, .int .i64 v] 35)
  refine (at_goes (sepR_stable (heapR_stable hb S) hQ) (h1.conv Conv.exch) (by omega) k).mono ?_
  rintro e w' ⟨he, h2⟩
  exact ⟨he, h2.conv Conv.exch⟩

set_option maxHeartbeats 4000000 in
set_option maxRecDepth 100000 in
theorem does_push (hQ : Stable Q) {hb rb : Nat} {S : List Ent} (h : Holds B w0 (bothR hb rb S Q) w L) (hn : S.length ≤ 199) (v : Int) (k : Kv) (hw : k.Wf) :
    Calls Try.prog 12 #[.pointer (some ⟨hb, 0, none⟩), .pointer (some ⟨rb, 0, none⟩), (OpV.mk 0 k v).val] w (Goes (.bool true) B w0 (bothR hb rb (pushS ⟨k, v⟩ S) Q) L) := by
  have Hat := Lib.hid (does_at hQ h hn 0 v k)
  clear h
  go_enter Try.func12, Try.ntmps12
  go_wp2_with fail
  refine Hat.out.mono ?_
  rintro e w1 ⟨rfl, h2⟩
  obtain ⟨p0, p1, p2, p3, p4, p5⟩ := cells6 (h2.box (k := w.heap.size) (o := .cells #[.int .i64 0, .int .i64 k.at_, .int .i64 k.src, .int .i64 k.sent, .int .i64 k.no, .int .i64 v] 35) (by simp))
  have z0 := World.block_lt_of_cell? _ _ p0
  dsimp only at z0
  have H2 := Lib.hid h2
  have H2d := Lib.hid (h2.drew (bothR_stable hQ hb rb S))
  obtain ⟨pe, hpe⟩ : ∃ pe, pushE k S = pe := ⟨_, rfl⟩
  have Hpe := Lib.hid hpe
  clear h2 Hat hpe
  go_wp2_with fail
  go_region_held3 (fun w' => w'.cell? ⟨w.heap.size, 1, none⟩ = some (.int .i64 k.at_) ∧ w'.cell? ⟨w.heap.size, 2, none⟩ = some (.int .i64 k.src) ∧ w'.cell? ⟨w.heap.size, 3, none⟩ = some (.int .i64 k.sent) ∧ w'.cell? ⟨w.heap.size, 4, none⟩ = some (.int .i64 k.no) ∧ w'.cell? ⟨w.heap.size, 5, none⟩ = some (.int .i64 v))
    (first | exact ⟨c1, c2, c3, c4, c5⟩ | exact ⟨b1, b2, b3, b4, b5⟩ | go_keep)
    ((first
      | (go_at_call 26; refine (rpush_goes (sepR_stable (heapR_stable _ _) hQ) H3.out (by omega) k v).mono ?_; rintro e w4 ⟨rfl, h4⟩; rw [Hpe.out]; obtain ⟨_, c1, c2, c3, c4, c5⟩ := cells6 (h4.box (k := w.heap.size) (o := .cells #[.int .i64 0, .int .i64 k.at_, .int .i64 k.src, .int .i64 k.sent, .int .i64 k.no, .int .i64 v] 35) (by simp)); have H4 := Lib.hid h4; clear h4)
      | (go_at_call 17; refine (push_goes (sepR_stable (refR_stable _ _) hQ) (by first | exact H2d.out | exact H2.out) (by omega) k v hw).mono ?_; rintro e w3 ⟨rfl, h3⟩; rw [Hpe.out]; obtain ⟨_, b1, b2, b3, b4, b5⟩ := cells6 (h3.box (k := w.heap.size) (o := .cells #[.int .i64 0, .int .i64 k.at_, .int .i64 k.src, .int .i64 k.sent, .int .i64 k.no, .int .i64 v] 35) (by simp)); have H3 := Lib.hid (h3.conv Conv.exch); clear h3)))
  have H5 := Lib.hid (H4.out.conv Conv.exch)
  clear H4 H3 H2 H2d p0 p1 p2 p3 p4 p5
  go_wp2_with fail
  go_ret
  exact ⟨by simp, H5.out.sub (fun p hp => by simp [hp])⟩

set_option maxHeartbeats 4000000 in
set_option maxRecDepth 100000 in
theorem does_pull (hQ : Stable Q) {hb rb : Nat} {S : List Ent} (h : Holds B w0 (bothR hb rb S Q) w L) (hn : S.length ≤ 199) (hS : Srt S) (v : Int) (k : Kv) (hw : k.Wf) :
    Calls Try.prog 12 #[.pointer (some ⟨hb, 0, none⟩), .pointer (some ⟨rb, 0, none⟩), (OpV.mk 1 k v).val] w (Goes (.bool true) B w0 (bothR hb rb (delE k S) Q) L) := by
  have Hat := Lib.hid (does_at hQ h hn 1 v k)
  clear h
  go_enter Try.func12, Try.ntmps12
  go_wp2_with fail
  refine Hat.out.mono ?_
  rintro e w1 ⟨rfl, h2⟩
  obtain ⟨p0, p1, p2, p3, p4, p5⟩ := cells6 (h2.box (k := w.heap.size) (o := .cells #[.int .i64 1, .int .i64 k.at_, .int .i64 k.src, .int .i64 k.sent, .int .i64 k.no, .int .i64 v] 35) (by simp))
  have z0 := World.block_lt_of_cell? _ _ p0
  dsimp only at z0
  have H2 := Lib.hid h2
  obtain ⟨gv, hgv⟩ : ∃ gv, getV k S = gv := ⟨_, rfl⟩
  obtain ⟨ge, hge⟩ : ∃ ge, getE k S = ge := ⟨_, rfl⟩
  have Hgv := Lib.hid hgv
  have Hge := Lib.hid hge
  clear h2 Hat hgv hge
  go_wp2_with fail
  refine (pull_goes (sepR_stable (refR_stable _ _) hQ) H2.out (by omega) k hw).mono ?_
  rintro e w3 ⟨rfl, h3⟩
  rw [Hgv.out, Hge.out]
  obtain ⟨p0, p1, p2, p3, p4, p5⟩ := cells6 (h3.box (k := w.heap.size) (o := .cells #[.int .i64 1, .int .i64 k.at_, .int .i64 k.src, .int .i64 k.sent, .int .i64 k.no, .int .i64 v] 35) (by simp))
  have z0 := World.block_lt_of_cell? _ _ p0
  dsimp only at z0
  have H3 := Lib.hid (h3.conv Conv.exch)
  clear h3 H2
  go_wp2_with fail
  refine (rpull_goes (sepR_stable (heapR_stable _ _) hQ) H3.out (by omega) hS k).mono ?_
  rintro e w4 ⟨rfl, h4⟩
  rw [Hgv.out, Hge.out]
  have H5 := Lib.hid (h4.conv Conv.exch)
  clear h4 H3 p0 p1 p2 p3 p4 p5 z0
  go_wp2_with fail
  go_ret
  exact ⟨by simp, H5.out.sub (fun p hp => by simp [hp])⟩

set_option maxHeartbeats 4000000 in
set_option maxRecDepth 100000 in
theorem does_get (hQ : Stable Q) {hb rb : Nat} {S : List Ent} (h : Holds B w0 (bothR hb rb S Q) w L) (hn : S.length ≤ 199) (v : Int) (k : Kv) (hw : k.Wf) :
    Calls Try.prog 12 #[.pointer (some ⟨hb, 0, none⟩), .pointer (some ⟨rb, 0, none⟩), (OpV.mk 2 k v).val] w (Goes (.bool true) B w0 (bothR hb rb S Q) L) := by
  have hat := does_at hQ h hn 2 v k
  have hget : ∀ w1, Holds B w0 (bothR hb rb S Q) w1 ((w.heap.size, .cells #[.int .i64 2, .int .i64 k.at_, .int .i64 k.src, .int .i64 k.sent, .int .i64 k.no, .int .i64 v] 35) :: L) → _ := fun w1 h2 => get_goes (sepR_stable (refR_stable rb S) hQ) h2 (by omega) k hw
  clear h
  cases hf : findE k S with
  | none =>
    have hg : getV k S = 0 ∧ getE k S = 14 := by simp [getV, getE, hf]
    rw [idx_none hf] at hat
    simp only [hg.1, hg.2] at hget
    have Hat := Lib.hid hat
    have Hget := Lib.hid hget
    clear hat hget hg hf
    go_enter Try.func12, Try.ntmps12
    go_wp2_with fail
    refine Hat.out.mono ?_
    rintro e w1 ⟨rfl, h2⟩
    obtain ⟨p0, p1, p2, p3, p4, p5⟩ := cells6 (h2.box (k := w.heap.size) (o := .cells #[.int .i64 2, .int .i64 k.at_, .int .i64 k.src, .int .i64 k.sent, .int .i64 k.no, .int .i64 v] 35) (by simp))
    have z0 := World.block_lt_of_cell? _ _ p0
    dsimp only at z0
    have H2 := Lib.hid h2
    clear h2 Hat
    go_wp2_with fail
    refine (Hget.out _ H2.out).mono ?_
    rintro e w3 ⟨rfl, h3⟩
    have H5 := Lib.hid h3
    clear h3 H2 p0 p1 p2 p3 p4 p5 z0
    go_wp2_with fail
    go_ret
    exact ⟨by simp, H5.out.sub (fun p hp => by simp [hp])⟩
  | some x =>
    obtain ⟨i, h2i, h3i, hx⟩ := idx_some hf
    have hg := get_some hf
    rw [h2i] at hat
    simp only [hg.1, hg.2] at hget
    have Hat := Lib.hid hat
    have Hget := Lib.hid hget
    have Hx := Lib.hid hx
    have i0 : (0 : Int) ≤ (i : Int) := by omega
    have i1 : (i : Int) < (S.length : Int) := by omega
    clear hat hget hg hf h2i hx
    go_enter Try.func12, Try.ntmps12
    go_wp2_with fail
    refine Hat.out.mono ?_
    rintro e w1 ⟨rfl, h2⟩
    obtain ⟨p0, p1, p2, p3, p4, p5⟩ := cells6 (h2.box (k := w.heap.size) (o := .cells #[.int .i64 2, .int .i64 k.at_, .int .i64 k.src, .int .i64 k.sent, .int .i64 k.no, .int .i64 v] 35) (by simp))
    have z0 := World.block_lt_of_cell? _ _ p0
    dsimp only at z0
    have H2 := Lib.hid h2
    clear h2 Hat
    go_wp2_with fail
    refine (Hget.out _ H2.out).mono ?_
    rintro e w3 ⟨rfl, h3⟩
    obtain ⟨a, c, h4⟩ := (h3.conv Conv.exch).refOpen
    obtain ⟨c0, f0, hb', hsl⟩ := h4.refCells
    obtain ⟨b1, o1, y, rfl, hb1, hy, hcell⟩ := hsl.at_ h3i
    rw [Hx.out] at hy
    obtain rfl := Option.some.inj hy
    have q4 := hcell 4 _ rfl
    have gc := hsl.2.1
    have H5 := Lib.hid h3
    clear h3 h4 hsl hcell hy H2 p0 p1 p2 p3 p4 p5 z0 f0
    go_wp2_with fail
    go_ret
    exact ⟨by simp, H5.out.sub (fun p hp => by simp [hp])⟩

set_option maxHeartbeats 4000000 in
set_option maxRecDepth 100000 in
theorem does_batch (hQ : Stable Q) {hb rb : Nat} {S : List Ent} (h : Holds B w0 (bothR hb rb S Q) w L) (hn : S.length ≤ 199) (v : Int) (k : Kv) :
    Calls Try.prog 12 #[.pointer (some ⟨hb, 0, none⟩), .pointer (some ⟨rb, 0, none⟩), (OpV.mk 4 k v).val] w (Goes (.bool true) B w0 (bothR hb rb (batchR S) Q) L) := by
  have Hat := Lib.hid (does_at hQ h hn 4 v k)
  obtain ⟨tm, htm⟩ : ∃ tm, timeOf S = tm := ⟨_, rfl⟩
  obtain ⟨fe, hfe⟩ : ∃ fe, firstErr S = fe := ⟨_, rfl⟩
  have hPn : (batchP S).length ≤ 199 := by have := (List.takeWhile_sublist (l := S) (fun y => decide (y.k.at_ = timeOf S))).length_le; unfold batchP; omega
  have Htm := Lib.hid htm
  have Hfe := Lib.hid hfe
  clear h htm hfe
  go_enter Try.func12, Try.ntmps12
  go_wp2_with fail
  refine Hat.out.mono ?_
  rintro e w1 ⟨rfl, h2⟩
  obtain ⟨p0, p1, p2, p3, p4, p5⟩ := cells6 (h2.box (k := w.heap.size) (o := .cells #[.int .i64 4, .int .i64 k.at_, .int .i64 k.src, .int .i64 k.sent, .int .i64 k.no, .int .i64 v] 35) (by simp))
  have z0 := World.block_lt_of_cell? _ _ p0
  dsimp only at z0
  have H2 := Lib.hid h2
  clear h2 Hat
  go_wp2_with fail
  refine (batch_goes (sepR_stable (refR_stable _ _) hQ) H2.out (by omega)).mono ?_
  rintro e w3 ⟨a3, c3, rfl, h3⟩
  rw [Htm.out, Hfe.out]
  have H3 := Lib.hid (h3.conv Conv.third)
  clear h3 H2 p0 p1 p2 p3 p4 p5 z0
  go_wp2_with fail
  refine (rbatch_goes (sepR_stable (rowR_stable _ _ _ _ _) (sepR_stable (heapR_stable _ _) hQ)) H3.out (by omega)).mono ?_
  rintro e w4 ⟨a4, c4, rfl, h4⟩
  rw [Htm.out, Hfe.out]
  have r4 := h4.row
  have r3 := h4.drop.drop.row
  rw [valCells_flat] at r3 r4
  have hi := ints_any w4 a3 _ c3 _ a4 _ c4 _ (SlAt.of_row intEnc_len r3 (by simp)) (SlAt.of_row intEnc_len r4 (by simp)) (by omega)
  have hdd : decide ((batchP S).map Ent.v = (batchP S).map Ent.v) = true := by simp
  rw [hdd] at hi
  have Hi := Lib.hid hi
  have H4 := Lib.hid ((h4.drop.conv Conv.exch).drop.conv Conv.exch)
  clear h4 r3 r4 hi H3 hdd
  go_wp2_with fail
  refine Hi.out.mono ?_
  rintro e w5 ⟨rfl, hf⟩
  have H5 := Lib.hid (H4.out.made (bothR_stable hQ hb rb _) hf)
  clear hf H4
  go_wp2_with fail
  go_ret
  exact ⟨by simp, H5.out.sub (fun p hp => by simp [hp])⟩
end
end Go.Proofs.Ytclaicpnjllhjaa
