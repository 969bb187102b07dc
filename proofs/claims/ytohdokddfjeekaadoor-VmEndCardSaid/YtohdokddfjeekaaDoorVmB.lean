/- Package vm: send, do. -/
import Derived.Test.YtohdokddfjeekaaDoorVmA
import Derived.Test.YtohdokddfjeekaaDoorPhase
import Derived.Deep.RegionHeld3
import Derived.Deep.RegionLaw
import Derived.BigRegion
namespace Go.Proofs.YtohdokddfjeekaaDoor
open Go.RowKit Go.Maps

theorem info_parts {t : TypeId} {z : Value} {s n : Nat} (h : (Tryd.prog.info? t).map (fun i => (i.zero, i.size, i.bytes)) = some (some z, s, n)) : ∃ i, Tryd.prog.info? t = some i ∧ i.zero = some z ∧ i.size = s ∧ i.bytes = n := by
  cases hi : Tryd.prog.info? t with
  | none => rw [hi] at h; cases h
  | some i =>
    rw [hi] at h
    simp only [Option.map_some, Option.some.injEq, Prod.mk.injEq] at h
    exact ⟨i, rfl, h.1, h.2.1, h.2.2⟩
theorem infoEmit : (Tryd.prog.info? 37).map (fun i => (i.zero, i.size, i.bytes)) = some (some (.agg #[.int .i64 0, .int .i64 0, .int .i64 0, .int .i64 0]), 4, 32) := by kernel_rfl
abbrev Ins.box (x : Ins) : Obj := .cells #[.int .i64 x.op, .int .i64 x.a, .int .i64 x.b, .int .i64 x.c, .int .i64 x.d] 47

section
variable {B : Nat} {w0 w : World} {Q : World → List Nat → Prop} {L : List (Nat × Obj)}
variable {m : Nat} {e : Ev} {pa a : Option Addr} {pc c : Nat} {p : List Ins} {fan pl : Int} {cs : Nat → Int} {l : List Em} {x : Ins} {many : Int}

theorem send_keep {W : World} {pv sv : Value} {D ka kb kc : Nat} (hm : MCells W m e pv cs pl sv fan) (hb : W.heap[D]? = some x.box) (ha : ka < 8) (hb8 : kb < 8) (hc : kc < 8) :
    W.cell? ⟨m, 8 + ka, none⟩ = some (.int .i64 (cs ka)) ∧ W.cell? ⟨m, 8 + kb, none⟩ = some (.int .i64 (cs kb)) ∧ W.cell? ⟨m, 8 + kc, none⟩ = some (.int .i64 (cs kc)) ∧
    W.cell? ⟨D, 1, none⟩ = some (.int .i64 x.a) ∧ W.cell? ⟨D, 2, none⟩ = some (.int .i64 x.b) ∧ W.cell? ⟨D, 3, none⟩ = some (.int .i64 x.c) ∧ W.cell? ⟨D, 4, none⟩ = some (.int .i64 x.d) := by
  obtain ⟨q0, q1, q2, q3, q4⟩ := cells5 hb
  exact ⟨hm.cell _ ha, hm.cell _ hb8, hm.cell _ hc, q1, q2, q3, q4⟩

set_option maxHeartbeats 1000000 in
/-- There is no room for it. -/
theorem send_full (hQ : Stable Q) (h : Holds B w0 (sepR (mach0 m e pa pc p fan cs pl a c l) Q) w L) (hf : ¬ (l.length : Int) < fan) :
    Calls Tryd.prog 20 #[.pointer (some ⟨m, 0, none⟩), x.val] w (Goes (.tuple #[]) B w0 (sepR (mach0 m e pa pc p fan cs pl a c l) Q) L) := by
  have hs : Stable (sepR (mach0 m e pa pc p fan cs pl a c l) Q) := sepR_stable (mach0_stable _ _ _ _ _ _ _ _ _ _ _) hQ
  have h1 := h.alloc hs x.box
  have hm := h1.mCells
  have hlt : m < w.heap.size := World.block_lt_of_cell? _ _ h.mCells.at_
  have c17 := h.mCells.sent
  have c18 := h.mCells.fan
  have g1 : decide ((l.length : Int) < fan) = false := by rw [decide_eq_false_iff_not]; exact hf
  have H1 := Lib.hid h1
  clear h h1 hm hf
  go_enter Tryd.func20, Tryd.ntmps20
  go_wp2_with fail
  go_quiet (fail)
  go_wp2_with fail
  go_end0
  exact ⟨rfl, (H1.out.drewN hs _).sub (fun _ hq => List.mem_cons_of_mem _ hq)⟩

set_option maxHeartbeats 4000000 in
set_option maxRecDepth 100000 in
/-- It is sent. -/
theorem send_ok (hQ : Stable Q) (h : Holds B w0 (sepR (mach0 m e pa pc p fan cs pl a c l) Q) w L) (hf : (l.length : Int) < fan) (hl : l.length ≤ 2000) {ka kb kc : Nat} (ha : ka < 8) (hb : kb < 8) (hc : kc < 8)
    (op d : Int) :
    Calls Tryd.prog 20 #[.pointer (some ⟨m, 0, none⟩), (Ins.mk op ka kb kc d).val] w fun e' w' => e' = .returned (.tuple #[]) ∧ ∃ a' c', Holds B w0 (sepR (mach0 m e pa pc p fan cs pl a' c' (l ++ [⟨cs ka, cs kb, d, cs kc⟩])) Q) w' L := by
  have hs : Stable (sepR (mach0 m e pa pc p fan cs pl a c l) Q) := sepR_stable (mach0_stable _ _ _ _ _ _ _ _ _ _ _) hQ
  have h1 := h.alloc hs (Ins.mk op ka kb kc d).box
  have hlt : m < w.heap.size := World.block_lt_of_cell? _ _ h.mCells.at_
  have c17 := h.mCells.sent
  have c18 := h.mCells.fan
  have g1 : decide ((l.length : Int) < fan) = true := by rw [decide_eq_true_eq]; exact hf
  have hBw := h.le
  obtain ⟨i1, hj0, hj1, hj2, hj3⟩ := info_parts infoEmit
  have Hi := Lib.hid (And.intro hj0 (And.intro hj1 (And.intro hj2 hj3)))
  have H1 := Lib.hid h1
  clear h h1 hf hj0 hj1 hj2 hj3
  go_enter Tryd.func20, Tryd.ntmps20
  go_wp2_with fail
  go_quiet (fail)
  go_wp2_with fail
  refine wp_world (fun W => Holds B w0 (sepR (mach0 m e pa pc p fan cs pl a c l) Q) W ((w.heap.size, (Ins.mk op ka kb kc d).box) :: L)) (H1.out.drewN hs _) ?_
  intro W hW
  have hnew : ∀ (R : World → List Nat → Prop) (W' : World) (pv sv : Value) (M : List (Nat × Obj)), MCells W' m e pv cs pl sv fan → Holds B w0 R W' ((w.heap.size, (Ins.mk op ka kb kc d).box) :: M) →
      W'.cell? ⟨m, 8 + ka, none⟩ = some (.int .i64 (cs ka)) ∧ W'.cell? ⟨m, 8 + kb, none⟩ = some (.int .i64 (cs kb)) ∧ W'.cell? ⟨m, 8 + kc, none⟩ = some (.int .i64 (cs kc)) ∧
      W'.cell? ⟨w.heap.size, 1, none⟩ = some (.int .i64 ka) ∧ W'.cell? ⟨w.heap.size, 2, none⟩ = some (.int .i64 kb) ∧ W'.cell? ⟨w.heap.size, 3, none⟩ = some (.int .i64 kc) ∧ W'.cell? ⟨w.heap.size, 4, none⟩ = some (.int .i64 d) :=
    fun R W' pv sv M h1 h2 => send_keep (x := ⟨op, ka, kb, kc, d⟩) h1 (h2.box (by simp)) ha hb hc
  have hlt : m < W.heap.size := World.block_lt_of_cell? _ _ hW.mCells.at_
  have hd := hW.drew hs
  have h6 := hd.alloc hs (.cells #[.int .i64 (cs ka), .int .i64 (cs kb), .int .i64 d, .int .i64 (cs kc)] 37)
  have K1 := hnew _ _ _ _ _ hd.mCells hd
  have K6 := hnew _ _ _ _ _ h6.mCells (h6.sub (M := (w.heap.size, (Ins.mk op ka kb kc d).box) :: L) (fun _ hq => List.mem_cons_of_mem _ hq))
  have hs6 : Stable (sepR (boxR m (machA e (.slice pa p.length pc) cs pl (.slice a l.length c) fan) 52) (sepR (rowR 47 5 (.slice pa p.length pc) p.length (flat Ins.enc p)) Q)) := sepR_stable (boxR_stable _ _ _) (sepR_stable (rowR_stable _ _ _ _ _) hQ)
  have hHeld := And.intro K1.1 (And.intro K1.2.1 (And.intro K1.2.2.1 (And.intro K1.2.2.2.1 (And.intro K1.2.2.2.2.1 (And.intro K1.2.2.2.2.2.1 (And.intro K1.2.2.2.2.2.2 hd.mCells.sent))))))
  have k6 := And.intro K6.1 (And.intro K6.2.1 (And.intro K6.2.2.1 (And.intro K6.2.2.2.1 (And.intro K6.2.2.2.2.1 (And.intro K6.2.2.2.2.2.1 (And.intro K6.2.2.2.2.2.2 h6.mCells.sent))))))
  have H6 := Lib.hid (h6.mRow)
  have HK6 := Lib.hid k6
  have Hnew := Lib.hid hnew
  have Hs6 := Lib.hid hs6
  clear hW hd h6 hnew hs6 H1 K1 K6 k6
  have ha' : (ka : Int) < 8 := by omega
  have hb' : (kb : Int) < 8 := by omega
  have hc' : (kc : Int) < 8 := by omega
  refine wp_region_N (fun w' => w'.cell? ⟨m, 8 + ka, none⟩ = some (.int .i64 (cs ka)) ∧ w'.cell? ⟨m, 8 + kb, none⟩ = some (.int .i64 (cs kb)) ∧ w'.cell? ⟨m, 8 + kc, none⟩ = some (.int .i64 (cs kc)) ∧
      w'.cell? ⟨w.heap.size, 1, none⟩ = some (.int .i64 ka) ∧ w'.cell? ⟨w.heap.size, 2, none⟩ = some (.int .i64 kb) ∧ w'.cell? ⟨w.heap.size, 3, none⟩ = some (.int .i64 kc) ∧ w'.cell? ⟨w.heap.size, 4, none⟩ = some (.int .i64 d) ∧
      w'.cell? ⟨m, 17, none⟩ = some (.slice a l.length c)) 31 (by kernel_rfl) ?_
  refine wpAnyN_take (i := 0) (oi := ⟨some 14, _, _, _, _, _⟩) (v := ?_) rfl (by kernel_rfl) (fun _ _ _ h => h) (Or.inl ⟨by rfl, ?_⟩) (by assumption) ?_
  rotate_left
  · (intro w hSw; (try dsimp only at hSw); go_simp; try with_reducible rfl)
  try simp only [Act.put, List.setIfInBounds_toArray, List.set_cons_zero, List.set_cons_succ]
  refine wpAnyN_take (i := 1) (oi := ⟨some 15, _, _, _, _, _⟩) (v := ?_) rfl (by kernel_rfl) (fun _ _ _ h => h) (Or.inl ⟨by rfl, ?_⟩) (by assumption) ?_
  rotate_left
  · (intro w hSw; (try dsimp only at hSw); go_simp; try with_reducible rfl)
  try simp only [Act.put, List.setIfInBounds_toArray, List.set_cons_zero, List.set_cons_succ]
  refine wpAnyN_take (i := 2) (oi := ⟨some 16, _, _, _, _, _⟩) (v := ?_) rfl (by kernel_rfl) (fun _ _ _ h => h) (Or.inl ⟨by rfl, ?_⟩) (by assumption) ?_
  rotate_left
  · (intro w hSw; (try dsimp only at hSw); go_simp; try with_reducible rfl)
  try simp only [Act.put, List.setIfInBounds_toArray, List.set_cons_zero, List.set_cons_succ]
  refine wpAnyN_take (i := 3) (oi := ⟨some 17, _, _, _, _, _⟩) (v := ?_) rfl (by kernel_rfl) (fun _ _ _ h => h) (Or.inl ⟨by rfl, ?_⟩) (by assumption) ?_
  rotate_left
  · (intro w hSw; (try dsimp only at hSw); go_simp; try with_reducible rfl)
  try simp only [Act.put, List.setIfInBounds_toArray, List.set_cons_zero, List.set_cons_succ]
  refine wpAnyN_take (i := 4) (oi := ⟨some 18, _, _, _, _, _⟩) (v := ?_) rfl (by kernel_rfl) (fun _ _ _ h => h) (Or.inl ⟨by rfl, ?_⟩) (by assumption) ?_
  rotate_left
  · (intro w hSw; (try dsimp only at hSw); go_simp; try with_reducible rfl)
  try simp only [Act.put, List.setIfInBounds_toArray, List.set_cons_zero, List.set_cons_succ]
  refine wpAnyN_take (i := 5) (oi := ⟨some 19, _, _, _, _, _⟩) (v := ?_) rfl (by kernel_rfl) (fun _ _ _ h => h) (Or.inl ⟨by rfl, ?_⟩) (by assumption) ?_
  rotate_left
  · (intro w hSw; (try dsimp only at hSw); go_simp; try with_reducible rfl)
  try simp only [Act.put, List.setIfInBounds_toArray, List.set_cons_zero, List.set_cons_succ]
  refine wpAnyN_take (i := 6) (oi := ⟨some 20, _, _, _, _, _⟩) (v := ?_) rfl (by kernel_rfl) (fun _ _ _ h => h) (Or.inl ⟨by rfl, ?_⟩) (by assumption) ?_
  rotate_left
  · (intro w hSw; (try dsimp only at hSw); go_simp; try with_reducible rfl)
  try simp only [Act.put, List.setIfInBounds_toArray, List.set_cons_zero, List.set_cons_succ]
  refine wpAnyN_take (i := 7) (oi := ⟨some 21, _, _, _, _, _⟩) (v := ?_) rfl (by kernel_rfl) (fun _ _ _ h => h) (Or.inl ⟨by rfl, ?_⟩) (by assumption) ?_
  rotate_left
  · (intro w hSw; (try dsimp only at hSw); go_simp; try with_reducible rfl)
  try simp only [Act.put, List.setIfInBounds_toArray, List.set_cons_zero, List.set_cons_succ]
  refine wpAnyN_take (i := 8) (oi := ⟨some 22, _, _, _, _, _⟩) (v := ?_) rfl (by kernel_rfl) (fun _ _ _ h => h) (Or.inl ⟨by rfl, ?_⟩) (by assumption) ?_
  rotate_left
  · (intro w hSw; (try dsimp only at hSw); go_simp; try with_reducible rfl)
  try simp only [Act.put, List.setIfInBounds_toArray, List.set_cons_zero, List.set_cons_succ]
  refine wpAnyN_take (i := 9) (oi := ⟨some 23, _, _, _, _, _⟩) (v := ?_) rfl (by kernel_rfl) (fun _ _ _ h => h) (Or.inl ⟨by rfl, ?_⟩) (by assumption) ?_
  rotate_left
  · (intro w hSw; (try dsimp only at hSw); go_simp; try with_reducible rfl)
  try simp only [Act.put, List.setIfInBounds_toArray, List.set_cons_zero, List.set_cons_succ]
  refine wpAnyN_take (i := 10) (oi := ⟨some 24, _, _, _, _, _⟩) (v := ?_) rfl (by kernel_rfl) (fun _ _ _ h => h) (Or.inl ⟨by rfl, ?_⟩) (by assumption) ?_
  rotate_left
  · (intro w hSw; (try dsimp only at hSw); go_simp; try with_reducible rfl)
  try simp only [Act.put, List.setIfInBounds_toArray, List.set_cons_zero, List.set_cons_succ]
  refine wpAnyN_take (i := 11) (oi := ⟨some 25, _, _, _, _, _⟩) (v := ?_) rfl (by kernel_rfl) (fun _ _ _ h => h) (Or.inl ⟨by rfl, ?_⟩) (by assumption) ?_
  rotate_left
  · (intro w hSw; (try dsimp only at hSw); go_simp; try with_reducible rfl)
  try simp only [Act.put, List.setIfInBounds_toArray, List.set_cons_zero, List.set_cons_succ]
  refine wpAnyN_take (i := 12) (oi := ⟨some 26, _, _, _, _, _⟩) (v := ?_) rfl (by kernel_rfl) (fun _ _ _ h => h) (Or.inl ⟨by rfl, ?_⟩) (by assumption) ?_
  rotate_left
  · (intro w hSw; (try dsimp only at hSw); go_simp; try with_reducible rfl)
  try simp only [Act.put, List.setIfInBounds_toArray, List.set_cons_zero, List.set_cons_succ]
  refine wpAnyN_take (i := 13) (oi := ⟨some 27, _, _, _, _, _⟩) (v := ?_) rfl (by kernel_rfl) (fun _ _ _ h => h) (Or.inl ⟨by rfl, ?_⟩) (by assumption) ?_
  rotate_left
  · (intro w hSw; (try dsimp only at hSw); go_simp; try with_reducible rfl)
  try simp only [Act.put, List.setIfInBounds_toArray, List.set_cons_zero, List.set_cons_succ]
  refine wpAnyN_take (i := 14) (oi := ⟨some 28, _, _, _, _, _⟩) (v := ?_) rfl (by kernel_rfl) (fun _ _ _ h => h) (Or.inl ⟨by rfl, ?_⟩) (by assumption) ?_
  rotate_left
  · (intro w hSw; (try dsimp only at hSw); go_simp; try with_reducible rfl)
  try simp only [Act.put, List.setIfInBounds_toArray, List.set_cons_zero, List.set_cons_succ]
  refine wpAnyN_take (i := 15) (oi := ⟨some 29, _, _, _, _, _⟩) (v := ?_) rfl (by kernel_rfl) (fun _ _ _ h => h) (Or.inl ⟨by rfl, ?_⟩) (by assumption) ?_
  rotate_left
  · (intro w hSw; (try dsimp only at hSw); go_simp; try with_reducible rfl)
  try simp only [Act.put, List.setIfInBounds_toArray, List.set_cons_zero, List.set_cons_succ]
  refine wpAnyN_take (i := 16) (oi := ⟨some 30, _, _, _, _, _⟩) (v := ?_) rfl (by kernel_rfl) (fun _ _ _ h => h) (Or.inl ⟨by rfl, ?_⟩) (by assumption) ?_
  rotate_left
  · (intro w hSw; (try dsimp only at hSw); go_simp; try with_reducible rfl)
  try simp only [Act.put, List.setIfInBounds_toArray, List.set_cons_zero, List.set_cons_succ]
  refine wpAnyN_take (i := 17) (oi := ⟨some 31, _, _, _, _, _⟩) (v := ?_) rfl (by kernel_rfl) (fun _ _ _ h => h) (Or.inl ⟨by rfl, ?_⟩) (by assumption) ?_
  rotate_left
  · (intro w hSw; (try dsimp only at hSw); go_simp; try with_reducible rfl)
  try simp only [Act.put, List.setIfInBounds_toArray, List.set_cons_zero, List.set_cons_succ]
  refine wpAnyN_take (i := 18) (oi := ⟨some 32, _, _, _, _, _⟩) (v := ?_) rfl (by kernel_rfl) (fun _ _ _ h => h) (Or.inl ⟨by rfl, ?_⟩) (by assumption) ?_
  rotate_left
  · (intro w hSw; (try dsimp only at hSw); go_simp; try with_reducible rfl)
  try simp only [Act.put, List.setIfInBounds_toArray, List.set_cons_zero, List.set_cons_succ]
  refine wpAnyN_take (i := 19) (oi := ⟨some 33, _, _, _, _, _⟩) (v := ?_) rfl (by kernel_rfl) (fun _ _ _ h => h) (Or.inl ⟨by rfl, ?_⟩) (by assumption) ?_
  rotate_left
  · (intro w hSw; (try dsimp only at hSw); go_simp; try with_reducible rfl)
  try simp only [Act.put, List.setIfInBounds_toArray, List.set_cons_zero, List.set_cons_succ]
  refine wpAnyN_take (i := 20) (oi := ⟨some 34, _, _, _, _, _⟩) (v := ?_) rfl (by kernel_rfl) (fun _ _ _ h => h) (Or.inl ⟨by rfl, ?_⟩) (by assumption) ?_
  rotate_left
  · (intro w hSw; (try dsimp only at hSw); go_simp; try with_reducible rfl)
  try simp only [Act.put, List.setIfInBounds_toArray, List.set_cons_zero, List.set_cons_succ]
  refine wpAnyN_take (i := 21) (oi := ⟨some 35, _, _, _, _, _⟩) (v := ?_) rfl (by kernel_rfl) (fun _ _ _ h => h) (Or.inl ⟨by rfl, ?_⟩) (by assumption) ?_
  rotate_left
  · (intro w hSw; (try dsimp only at hSw); go_simp; try with_reducible rfl)
  try simp only [Act.put, List.setIfInBounds_toArray, List.set_cons_zero, List.set_cons_succ]
  refine wpAnyN_take (i := 22) (oi := ⟨some 36, _, _, _, _, _⟩) (v := ?_) rfl (by kernel_rfl) (fun _ _ _ h => h) (Or.inl ⟨by rfl, ?_⟩) (by assumption) ?_
  rotate_left
  · (intro w hSw; (try dsimp only at hSw); go_simp; try with_reducible rfl)
  try simp only [Act.put, List.setIfInBounds_toArray, List.set_cons_zero, List.set_cons_succ]
  refine wpAnyN_take (i := 23) (oi := ⟨some 37, _, _, _, _, _⟩) (v := ?_) rfl (by kernel_rfl) (fun _ _ _ h => h) (Or.inl ⟨by rfl, ?_⟩) (by assumption) ?_
  rotate_left
  · (intro w hSw; (try dsimp only at hSw); go_simp; try with_reducible rfl)
  try simp only [Act.put, List.setIfInBounds_toArray, List.set_cons_zero, List.set_cons_succ]
  refine wpAnyN_take (i := 24) (oi := ⟨some 38, _, _, _, _, _⟩) (v := ?_) rfl (by kernel_rfl) (fun _ _ _ h => h) (Or.inl ⟨by rfl, ?_⟩) (by assumption) ?_
  rotate_left
  · (intro w hSw; (try dsimp only at hSw); go_simp; try with_reducible rfl)
  try simp only [Act.put, List.setIfInBounds_toArray, List.set_cons_zero, List.set_cons_succ]
  refine wpAnyN_take (i := 25) (oi := ⟨some 39, _, _, _, _, _⟩) (v := ?_) rfl (by kernel_rfl) (fun _ _ _ h => h) (Or.inl ⟨by rfl, ?_⟩) (by assumption) ?_
  rotate_left
  · (intro w hSw; (try dsimp only at hSw); go_simp; try with_reducible rfl)
  try simp only [Act.put, List.setIfInBounds_toArray, List.set_cons_zero, List.set_cons_succ]
  refine wpAnyN_take (i := 26) (oi := ⟨some 40, _, _, _, _, _⟩) (v := ?_) rfl (by kernel_rfl) (fun _ _ _ h => h) (Or.inl ⟨by rfl, ?_⟩) (by assumption) ?_
  rotate_left
  · (intro w hSw; (try dsimp only at hSw); go_simp; try with_reducible rfl)
  try simp only [Act.put, List.setIfInBounds_toArray, List.set_cons_zero, List.set_cons_succ]
  refine wpAnyN_take (i := 27) (oi := ⟨some 41, _, _, _, _, _⟩) (v := ?_) rfl (by kernel_rfl) (fun _ _ _ h => h) (Or.inl ⟨by rfl, ?_⟩) (by assumption) ?_
  rotate_left
  · (intro w hSw; (try dsimp only at hSw); go_simp; try with_reducible rfl)
  try simp only [Act.put, List.setIfInBounds_toArray, List.set_cons_zero, List.set_cons_succ]
  refine wpAnyN_take (i := 28) (oi := ⟨some 42, _, _, _, _, _⟩) (v := ?_) rfl (by kernel_rfl) (fun _ _ _ h => h) (Or.inl ⟨by rfl, ?_⟩) (by assumption) ?_
  rotate_left
  · (intro w hSw; (try dsimp only at hSw); go_simp; try with_reducible rfl)
  try simp only [Act.put, List.setIfInBounds_toArray, List.set_cons_zero, List.set_cons_succ]
  refine wpAnyN_one (i := 29) (o := ⟨some 43, _, _, _, _, _⟩) (by kernel_rfl) rfl (fun K hK => ?_)
  go_simp
  refine hK.out _ _ (fun _ => HK6.out) ?_
  clear hK K hHeld
  try simp only [Act.put, List.setIfInBounds_toArray, List.set_cons_zero, List.set_cons_succ]
  refine wpAnyN_one (i := 30) (o := ⟨some 44, _, _, _, _, _⟩) (by kernel_rfl) rfl (fun K hK => ?_)
  refine step_append_foot rfl (.tmp 18) (.tmp 43) 33 rfl 37 i1 (.agg #[.int .i64 0, .int .i64 0, .int .i64 0, .int .i64 0]) 4 32 Tryd.underlying33 Hi.out.1 Hi.out.2.1 Hi.out.2.2.1 Hi.out.2.2.2 rfl (by decide) (.slice a l.length c) l.length (flat Em.enc l) rfl H6.out.row ⟨W.heap.size, 0, none⟩ 1 1 (Em.mk (cs ka) (cs kb) d (cs kc)).enc rfl rfl (cells_new _ _ _) (Em.enc_one _) (by unfold maxLen; omega) (by omega) ?_
  intro a3 c3 w3 hown hF hn3
  have h7 := H6.out.appended Hs6.out hown hF hn3
  have hb7 := h7.conv Conv.exch
  have m7 := mcells hb7.theBox
  have K7 := Hnew.out _ _ _ _ _ m7 (hb7.sub (M := (w.heap.size, (Ins.mk op ka kb kc d).box) :: L) (fun _ hq => List.mem_cons_of_mem _ hq))
  refine hK.out _ _ (fun _ => ⟨K7.1, K7.2.1, K7.2.2.1, K7.2.2.2.1, K7.2.2.2.2.1, K7.2.2.2.2.2.1, K7.2.2.2.2.2.2, m7.sent⟩) ?_
  have fz : ∀ k, w3.frozen? ⟨m, k, none⟩ = false := fun k => frozen_of_obj hb7.theBox k
  have c17 := m7.sent
  have hlt3 : m < w3.heap.size := lt_of_obj hb7.theBox
  have hst3 : Stable (sepR (rowR 37 4 (.slice a3 (l.length + 1) c3) (l.length + 1) (flat Em.enc l ++ (Em.mk (cs ka) (cs kb) d (cs kc)).enc)) (sepR (rowR 47 5 (.slice pa p.length pc) p.length (flat Ins.enc p)) Q)) := sepR_stable (rowR_stable _ _ _ _ _) (sepR_stable (rowR_stable _ _ _ _ _) hQ)
  have H8 := Lib.hid (hb7.boxPut hst3 17 (.slice a3 (l.length + 1) c3))
  clear hK K hown hF hn3 h7 hb7 hst3 K7 m7 HK6 H6
  try simp only [Act.put, List.setIfInBounds_toArray, List.set_cons_zero, List.set_cons_succ]
  refine wpAnyN_one (i := 31) (o := ⟨some 45, _, _, _, _, _⟩) (by kernel_rfl) rfl (fun K hK => ?_)
  go_simp
  refine hK.out _ _ (fun h => absurd h (by decide)) ?_
  clear hK K
  try simp only [Act.put, List.setIfInBounds_toArray, List.set_cons_zero, List.set_cons_succ]
  refine wpAnyN_one (i := 32) (o := ⟨some 46, _, _, _, _, _⟩) (by kernel_rfl) rfl (fun K hK => ?_)
  go_simp
  refine hK.out _ _ (fun h => absurd h (by decide)) ?_
  clear hK K
  try simp only [Act.put, List.setIfInBounds_toArray, List.set_cons_zero, List.set_cons_succ]
  refine wpAnyN_one (i := 33) (o := ⟨none, _, _, _, _, _⟩) (by kernel_rfl) rfl (fun K hK => ?_)
  go_simp
  refine hK.out _ _ (fun h => absurd h (by decide)) ?_
  clear hK K
  try simp only [Act.put, List.setIfInBounds_toArray, List.set_cons_zero, List.set_cons_succ]
  refine wpAnyN_done (by kernel_rfl) ?_ _
  go_wp2_with fail
  go_end0
  refine ⟨rfl, a3, c3, ?_⟩
  have h9 := H8.out
  rw [machA_sv] at h9
  have e2 : flat Em.enc l ++ (Em.mk (cs ka) (cs kb) d (cs kc)).enc = flat Em.enc (l ++ [Em.mk (cs ka) (cs kb) d (cs kc)]) := by rw [flat_append, flat_single]
  rw [e2] at h9
  have e3 : (l ++ [Em.mk (cs ka) (cs kb) d (cs kc)]).length = l.length + 1 := by simp
  refine Holds.mBox' ?_
  rw [e3]
  exact (h9.conv (Conv.right Conv.fold)).sub (fun _ hq => List.mem_cons_of_mem _ (List.mem_cons_of_mem _ hq))
end
end Go.Proofs.YtohdokddfjeekaaDoor
