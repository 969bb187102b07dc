/- A call of a heap and of the document's answer: Pop, First. -/
import Derived.Test.YtclaicpnjllhjaaHeapDoes
namespace Go.Proofs.Ytclaicpnjllhjaa
open Go.RowKit Go.Maps

section
variable {B : Nat} {w0 w : World} {Q : World → List Nat → Prop} {L : List (Nat × Obj)}
attribute [local go_sem high] key_eql key_guard in
set_option maxHeartbeats 4000000 in
set_option maxRecDepth 100000 in
theorem does_pop (hQ : Stable Q) {hb rb : Nat} {S : List Ent} (h : Holds B w0 (bothR hb rb S Q) w L) (hn : S.length ≤ 199) (hS : Srt S) (v : Int) (k : Kv) :
    Calls Try.prog 12 #[.pointer (some ⟨hb, 0, none⟩), .pointer (some ⟨rb, 0, none⟩), (OpV.mk 3 k v).val] w (Goes (.bool true) B w0 (bothR hb rb S.tail Q) L) := by
  have Hat := Lib.hid (does_at hQ h hn 3 v k)
  have hs := bothR_stable hQ hb rb S
  have hs1 := sepR_stable (refR_stable rb S) hQ
  clear h
  have ke : ∀ W, (binOp BinOp.eql 33 (.agg #[.int .i64 0, .int .i64 0, .int .i64 0, .int .i64 0]) (.agg #[.int .i64 0, .int .i64 0, .int .i64 0, .int .i64 0])).run Try.prog W = .ok (.bool true) W := fun W => key_eql ⟨0, 0, 0, 0⟩ ⟨0, 0, 0, 0⟩ W
  go_enter Try.func12, Try.ntmps12
  go_wp2_with fail
  refine Hat.out.mono ?_
  rintro e w1 ⟨rfl, h2⟩
  obtain ⟨p0, p1, p2, p3, p4, p5⟩ := cells6 (h2.box (k := w.heap.size) (o := .cells #[.int .i64 3, .int .i64 k.at_, .int .i64 k.src, .int .i64 k.sent, .int .i64 k.no, .int .i64 v] 35) (by simp))
  have z0 := World.block_lt_of_cell? _ _ p0
  dsimp only at z0
  obtain ⟨a, c, h3⟩ := (h2.conv Conv.exch).refOpen
  obtain ⟨c0, f0, hrb, hsl⟩ := h3.refCells
  have hBw := h2.le
  have hbx := h2.boxes
  have Hbx := Lib.hid hbx
  have h4 := h2.alloc hs (.cells #[.int .i64 0, .int .i64 0, .int .i64 0, .int .i64 0, .int .i64 0] 42)
  clear Hat h3 f0 hbx
  cases S with
  | nil =>
    have H4 := Lib.hid h4
    clear h4 h2 hsl
    simp only [List.length_nil] at c0
    go_wp2_with fail
    refine (pop_goes hs1 H4.out (by simp)).mono ?_
    rintro e w3 ⟨rfl, h5⟩
    dsimp only [firstT, firstE, firstErr, Kv.val, zeroEnt]
    obtain ⟨p0, p1, p2, p3, p4⟩ := cells5 (h5.box (k := w1.heap.size) (o := .cells #[.int .i64 0, .int .i64 0, .int .i64 0, .int .i64 0, .int .i64 0] 42) (by simp))
    have z1 := World.block_lt_of_cell? _ _ p0
    dsimp only at z1
    have H5 := Lib.hid (h5.alloc hs (.cells #[.int .i64 0, .int .i64 0, .int .i64 0, .int .i64 0] 33))
    clear h5 H4 c0 hrb
    go_wp2_with fail
    go_ret
    exact ⟨by simp, H5.out.sub (fun p hp => by simp [hp])⟩
  | cons x S =>
    obtain ⟨b1, o1, y, rfl, hb1, hy, hcell⟩ := hsl.at_ (i := 0) (by simp)
    simp only [List.getElem?_cons_zero] at hy
    obtain rfl := Option.some.inj hy
    have q0 := hcell 0 _ rfl
    have q1 := hcell 1 _ rfl
    have q2 := hcell 2 _ rfl
    have q3 := hcell 3 _ rfl
    have q4 := hcell 4 _ rfl
    simp only [Nat.zero_mul, Nat.add_zero] at q0 q1 q2 q3 q4
    have gc := hsl.2.1
    have H6 := Lib.hid (h2.alloc hs (.cells #[.int .i64 x.k.at_, .int .i64 x.k.src, .int .i64 x.k.sent, .int .i64 x.k.no, .int .i64 x.v] 42))
    have hdh := delE_head hS
    have Hdh := Lib.hid hdh
    clear h4 h2 hsl hcell hy hdh
    go_wp2_with fail
    refine (pop_goes hs1 H6.out (by omega)).mono ?_
    rintro e w3 ⟨rfl, h5⟩
    dsimp only [firstT, firstE, firstErr, Kv.val]
    obtain ⟨p0, p1, p2, p3, p4⟩ := cells5 (h5.box (k := w1.heap.size) (o := .cells #[.int .i64 x.k.at_, .int .i64 x.k.src, .int .i64 x.k.sent, .int .i64 x.k.no, .int .i64 x.v] 42) (by simp))
    have z1 := World.block_lt_of_cell? _ _ p0
    dsimp only at z1
    have hs2 : Stable (sepR (heapR hb S) (sepR (refR rb (x :: S)) Q)) := sepR_stable (heapR_stable _ _) hs1
    have H7 := Lib.hid ((h5.alloc hs2 (.cells #[.int .i64 x.k.at_, .int .i64 x.k.src, .int .i64 x.k.sent, .int .i64 x.k.no] 33)).conv Conv.exch)
    clear h5 H6 c0 hrb q0 q1 q2 q3 q4 hb1 gc
    go_wp2_with fail
    refine (rpull_goes (sepR_stable (heapR_stable _ _) hQ) H7.out (by omega) hS x.k).mono ?_
    rintro e w4 ⟨rfl, h8⟩
    rw [Hdh.out] at h8
    obtain ⟨p0, p1, p2, p3, p4⟩ := cells5 (h8.box (k := w1.heap.size) (o := .cells #[.int .i64 x.k.at_, .int .i64 x.k.src, .int .i64 x.k.sent, .int .i64 x.k.no, .int .i64 x.v] 42) (by simp))
    obtain ⟨r0, r1, r2, r3⟩ := cells4 (h8.box (k := w3.heap.size) (o := .cells #[.int .i64 x.k.at_, .int .i64 x.k.src, .int .i64 x.k.sent, .int .i64 x.k.no] 33) (by simp))
    have H9 := Lib.hid (h8.conv Conv.exch)
    clear h8 H7
    go_wp2_with fail
    go_ret
    exact ⟨by simp, H9.out.sub (fun p hp => by simp [hp])⟩

attribute [local go_sem high] key_eql key_guard in
set_option maxHeartbeats 4000000 in
set_option maxRecDepth 100000 in
theorem does_first (hQ : Stable Q) {hb rb : Nat} {S : List Ent} (h : Holds B w0 (bothR hb rb S Q) w L) (hn : S.length ≤ 199) (ask v : Int) (k : Kv) (g0 : (ask == 0) = false) (g1 : (ask == 1) = false) (g2 : (ask == 2) = false) (g3 : (ask == 3) = false) (g4 : (ask == 4) = false) :
    Calls Try.prog 12 #[.pointer (some ⟨hb, 0, none⟩), .pointer (some ⟨rb, 0, none⟩), (OpV.mk ask k v).val] w (Goes (.bool true) B w0 (bothR hb rb S Q) L) := by
  have Hat := Lib.hid (does_at hQ h hn ask v k)
  have hs := bothR_stable hQ hb rb S
  have hs1 := sepR_stable (refR_stable rb S) hQ
  clear h
  have ke : ∀ W, (binOp BinOp.eql 33 (.agg #[.int .i64 0, .int .i64 0, .int .i64 0, .int .i64 0]) (.agg #[.int .i64 0, .int .i64 0, .int .i64 0, .int .i64 0])).run Try.prog W = .ok (.bool true) W := fun W => key_eql ⟨0, 0, 0, 0⟩ ⟨0, 0, 0, 0⟩ W
  go_enter Try.func12, Try.ntmps12
  go_wp2_with fail
  refine Hat.out.mono ?_
  rintro e w1 ⟨rfl, h2⟩
  obtain ⟨p0, p1, p2, p3, p4, p5⟩ := cells6 (h2.box (k := w.heap.size) (o := .cells #[.int .i64 ask, .int .i64 k.at_, .int .i64 k.src, .int .i64 k.sent, .int .i64 k.no, .int .i64 v] 35) (by simp))
  have z0 := World.block_lt_of_cell? _ _ p0
  dsimp only at z0
  obtain ⟨a, c, h3⟩ := (h2.conv Conv.exch).refOpen
  obtain ⟨c0, f0, hrb, hsl⟩ := h3.refCells
  have hBw := h2.le
  have hbx := h2.boxes
  have Hbx := Lib.hid hbx
  have h4 := h2.alloc hs (.cells #[.int .i64 0, .int .i64 0, .int .i64 0, .int .i64 0, .int .i64 0] 42)
  clear Hat h3 f0 hbx
  cases S with
  | nil =>
    have H4 := Lib.hid h4
    clear h4 h2 hsl
    simp only [List.length_nil] at c0
    go_wp2_with fail
    refine (first_goes hs1 H4.out (by simp)).mono ?_
    rintro e w3 ⟨rfl, h5⟩
    dsimp only [firstT, firstE, firstErr, Kv.val, zeroEnt]
    obtain ⟨p0, p1, p2, p3, p4⟩ := cells5 (h5.box (k := w1.heap.size) (o := .cells #[.int .i64 0, .int .i64 0, .int .i64 0, .int .i64 0, .int .i64 0] 42) (by simp))
    have z1 := World.block_lt_of_cell? _ _ p0
    dsimp only at z1
    have H5 := Lib.hid (h5.alloc hs (.cells #[.int .i64 0, .int .i64 0, .int .i64 0, .int .i64 0] 33))
    clear h5 H4 c0 hrb
    go_wp2_with fail
    go_ret
    exact ⟨by simp, H5.out.sub (fun p hp => by simp [hp])⟩
  | cons x S =>
    obtain ⟨b1, o1, y, rfl, hb1, hy, hcell⟩ := hsl.at_ (i := 0) (by simp)
    simp only [List.getElem?_cons_zero] at hy
    obtain rfl := Option.some.inj hy
    have q0 := hcell 0 _ rfl
    have q1 := hcell 1 _ rfl
    have q2 := hcell 2 _ rfl
    have q3 := hcell 3 _ rfl
    have q4 := hcell 4 _ rfl
    simp only [Nat.zero_mul, Nat.add_zero] at q0 q1 q2 q3 q4
    have gc := hsl.2.1
    have H6 := Lib.hid (h2.alloc hs (.cells #[.int .i64 x.k.at_, .int .i64 x.k.src, .int .i64 x.k.sent, .int .i64 x.k.no, .int .i64 x.v] 42))
    clear h4 h2 hsl hcell hy
    go_wp2_with fail
    refine (first_goes hs1 H6.out (by omega)).mono ?_
    rintro e w3 ⟨rfl, h5⟩
    dsimp only [firstT, firstE, firstErr, Kv.val]
    obtain ⟨p0, p1, p2, p3, p4⟩ := cells5 (h5.box (k := w1.heap.size) (o := .cells #[.int .i64 x.k.at_, .int .i64 x.k.src, .int .i64 x.k.sent, .int .i64 x.k.no, .int .i64 x.v] 42) (by simp))
    have z1 := World.block_lt_of_cell? _ _ p0
    dsimp only at z1
    have H9 := Lib.hid (h5.alloc hs (.cells #[.int .i64 x.k.at_, .int .i64 x.k.src, .int .i64 x.k.sent, .int .i64 x.k.no] 33))
    clear h5 H6 c0 hrb q0 q1 q2 q3 q4 hb1 gc
    go_wp2_with fail
    go_ret
    exact ⟨by simp, H9.out.sub (fun p hp => by simp [hp])⟩
end
end Go.Proofs.Ytclaicpnjllhjaa
