/- Package model: LPs, End, Fuel, Fan, First, Program, Events: of a model, and of none. -/
import Derived.Test.YtbkadfdpboghiaaDoorModA
import Derived.Test.YtbkadfdpboghiaaDoorModE
import Derived.Test.YtbkadfdpboghiaaDoorSortV
import Derived.Test.YtbkadfdpboghiaaDoorKeysRSort
import Derived.Deep.RegionHeld3
namespace Go.Proofs.YtbkadfdpboghiaaDoor
open Go.RowKit Go.Maps

section
variable {lo hi m : Nat} {w : World} {D : Cf}
set_option maxHeartbeats 400000 in
theorem lps_any (h : ModAt lo hi w m D) : Calls Tryd.prog 14 #[.pointer (some ⟨m, 0, none⟩)] w (Reads (.int .i64 D.ln) w) := by
  obtain ⟨c0, c1, c2, c3, c4, c5⟩ := cells6 h.obj
  have z0 := World.block_lt_of_cell? _ _ c0
  dsimp only at z0
  clear h
  go_enter Tryd.func14, Tryd.ntmps14
  go_wp2_with fail
  go_ret
  exact ⟨rfl, rfl⟩
set_option maxHeartbeats 400000 in
theorem end_any (h : ModAt lo hi w m D) : Calls Tryd.prog 15 #[.pointer (some ⟨m, 0, none⟩)] w (Reads (.int .i64 D.fin) w) := by
  obtain ⟨c0, c1, c2, c3, c4, c5⟩ := cells6 h.obj
  have z0 := World.block_lt_of_cell? _ _ c0
  dsimp only at z0
  clear h
  go_enter Tryd.func15, Tryd.ntmps15
  go_wp2_with fail
  go_ret
  exact ⟨rfl, rfl⟩
set_option maxHeartbeats 400000 in
theorem fuel_any (h : ModAt lo hi w m D) : Calls Tryd.prog 16 #[.pointer (some ⟨m, 0, none⟩)] w (Reads (.int .i64 D.fuel) w) := by
  obtain ⟨c0, c1, c2, c3, c4, c5⟩ := cells6 h.obj
  have z0 := World.block_lt_of_cell? _ _ c0
  dsimp only at z0
  clear h
  go_enter Tryd.func16, Tryd.ntmps16
  go_wp2_with fail
  go_ret
  exact ⟨rfl, rfl⟩
set_option maxHeartbeats 400000 in
theorem fan_any (h : ModAt lo hi w m D) : Calls Tryd.prog 17 #[.pointer (some ⟨m, 0, none⟩)] w (Reads (.int .i64 D.fan) w) := by
  obtain ⟨c0, c1, c2, c3, c4, c5⟩ := cells6 h.obj
  have z0 := World.block_lt_of_cell? _ _ c0
  dsimp only at z0
  clear h
  go_enter Tryd.func17, Tryd.ntmps17
  go_wp2_with fail
  go_ret
  exact ⟨rfl, rfl⟩
end
section
variable {w : World}
set_option maxHeartbeats 400000 in
theorem lps_nil (w : World) : Calls Tryd.prog 14 #[.pointer none] w (Reads (.int .i64 0) w) := by
  go_enter Tryd.func14, Tryd.ntmps14
  go_wp2_with fail
  go_ret
  exact ⟨rfl, rfl⟩
set_option maxHeartbeats 400000 in
theorem end_nil (w : World) : Calls Tryd.prog 15 #[.pointer none] w (Reads (.int .i64 0) w) := by
  go_enter Tryd.func15, Tryd.ntmps15
  go_wp2_with fail
  go_ret
  exact ⟨rfl, rfl⟩
set_option maxHeartbeats 400000 in
theorem fuel_nil (w : World) : Calls Tryd.prog 16 #[.pointer none] w (Reads (.int .i64 0) w) := by
  go_enter Tryd.func16, Tryd.ntmps16
  go_wp2_with fail
  go_ret
  exact ⟨rfl, rfl⟩
set_option maxHeartbeats 400000 in
theorem fan_nil (w : World) : Calls Tryd.prog 17 #[.pointer none] w (Reads (.int .i64 0) w) := by
  go_enter Tryd.func17, Tryd.ntmps17
  go_wp2_with fail
  go_ret
  exact ⟨rfl, rfl⟩
set_option maxHeartbeats 400000 in
theorem events_nil (w : World) : Calls Tryd.prog 19 #[.pointer none] w (Reads (.slice none 0 0) w) := by
  go_enter Tryd.func19, Tryd.ntmps19
  go_wp2_with fail
  go_ret
  exact ⟨rfl, rfl⟩
end

abbrev zeros4 : Value := .agg #[.int .i64 0, .int .i64 0, .int .i64 0, .int .i64 0]
theorem has_nil (i : Int) : hasB 0 i = false := by unfold hasB; by_cases h : 0 ≤ i <;> simp [h] <;> omega
set_option maxHeartbeats 1000000 in
theorem first_out {p : Value} {n : Int} {w : World} (hl : ∀ W, Frm [] w W → Calls Tryd.prog 14 #[p] W (Reads (.int .i64 n) W)) {i : Int} (h : hasB n i = false) : Calls Tryd.prog 21 #[p, .int .i64 i] w (Tells zeros4 w) := by
  have hl1 := hl _ ((Frm.refl [] w).alloc (.cells #[.int .i64 0, .int .i64 0, .int .i64 0, .int .i64 0] 47))
  have Hl := Lib.hid hl1
  clear hl hl1
  go_enter Tryd.func21, Tryd.ntmps21
  go_wp2_with fail
  refine Hl.out.mono ?_
  rintro e w1 ⟨rfl, h1⟩
  obtain rfl := h1
  go_wp2_with fail
  refine (has_any _ _ _).mono ?_
  rintro e w1 ⟨rfl, rfl⟩
  rw [h]
  go_wp2_with fail
  refine bodyPost_ret (v := zeros4) (by simp [results, Tryd.results21, go_sem]) rfl ⟨rfl, ?_⟩
  exact (Frm.refl _ _).alloc _
theorem first_nil (i : Int) (w : World) : Calls Tryd.prog 21 #[.pointer none, .int .i64 i] w (Tells zeros4 w) := first_out (n := 0) (fun W _ => lps_nil W) (has_nil i)
set_option maxHeartbeats 1000000 in
theorem first_in {lo hi m : Nat} {w : World} {D : Cf} (h : ModAt lo hi w m D) {i : Nat} {x : Pl} (hx : D.ls[i]? = some x) : Calls Tryd.prog 21 #[.pointer (some ⟨m, 0, none⟩), .int .i64 (i : Int)] w (Tells x.st w) := by
  have hi : i < D.ln := by have := (List.getElem?_eq_some_iff.1 hx).1; have := h.at_.ls.1; omega
  have hb : hasB (D.ln : Int) (i : Int) = true := hasB_iff.2 ⟨by omega, by omega⟩
  have hF0 : Frm [] w (w.alloc (.cells #[.int .i64 0, .int .i64 0, .int .i64 0, .int .i64 0] 47)) := (Frm.refl _ _).alloc _
  have h1 := h.frm0 hF0
  have Hl := Lib.hid (lps_any h1)
  obtain ⟨c0, c1, c2, c3, c4, c5⟩ := cells6 h.obj
  have z0 := World.block_lt_of_cell? _ _ c0
  dsimp only at z0
  obtain ⟨b, off, y, hca, hbl, hy, p0, p1, p2, p3, p4⟩ := h.at_.ls.plAt hi
  obtain rfl : x = y := by rw [hx] at hy; exact Option.some.inj hy
  have hcap := h.at_.ls.2.1
  have hcap2 := h.at_.ls.2.2.1
  simp only [maxLen] at hcap2
  rw [hca] at c1
  clear h h1 hy hx hF0 hca c0 c2 c3 c4 c5
  go_enter Tryd.func21, Tryd.ntmps21
  go_wp2_with fail
  refine Hl.out.mono ?_
  rintro e w1 ⟨rfl, h1⟩
  obtain rfl := h1
  go_wp2_with fail
  refine (has_any _ _ _).mono ?_
  rintro e w1 ⟨rfl, rfl⟩
  rw [hb]
  go_wp2_with fail
  refine bodyPost_ret (v := x.st) (by simp [results, Tryd.results21, go_sem]) rfl ⟨rfl, ?_⟩
  exact (Frm.refl _ _).alloc _

set_option maxHeartbeats 1000000 in
theorem program_out {p : Value} {n : Int} {w : World} (hl : Calls Tryd.prog 14 #[p] w (Reads (.int .i64 n) w)) {i : Int} (h : hasB n i = false) : Calls Tryd.prog 23 #[p, .int .i64 i] w (Reads (.slice none 0 0) w) := by
  have Hl := Lib.hid hl
  clear hl
  go_enter Tryd.func23, Tryd.ntmps23
  go_wp2_with fail
  refine Hl.out.mono ?_
  rintro e w1 ⟨rfl, h1⟩
  obtain rfl := h1
  go_wp2_with fail
  refine (has_any _ _ _).mono ?_
  rintro e w1 ⟨rfl, rfl⟩
  rw [h]
  go_wp2_with fail
  go_ret
  exact ⟨rfl, rfl⟩
theorem program_nil (i : Int) (w : World) : Calls Tryd.prog 23 #[.pointer none, .int .i64 i] w (Reads (.slice none 0 0) w) := program_out (lps_nil w) (has_nil i)
set_option maxHeartbeats 4000000 in
set_option maxRecDepth 100000 in
theorem program_in {lo hi m : Nat} {w : World} {D : Cf} (h : ModAt lo hi w m D) {i k : Nat} {x : Pl} {q : Pg} (hx : D.ls[i]? = some x) (hk : x.pr = (k : Int)) (hq : D.ps[k]? = some q) (hq64 : q.n ≤ 64) : Calls Tryd.prog 23 #[.pointer (some ⟨m, 0, none⟩), .int .i64 (i : Int)] w (CloneOwn 58 Ins.enc 5 q.l q.n w) := by
  have hi : i < D.ln := by have := (List.getElem?_eq_some_iff.1 hx).1; have := h.at_.ls.1; omega
  have hkn : k < D.pn := by have := (List.getElem?_eq_some_iff.1 hq).1; have := h.at_.ps.1; omega
  have hb : hasB (D.ln : Int) (i : Int) = true := hasB_iff.2 ⟨by omega, by omega⟩
  have Hl := Lib.hid (lps_any h)
  obtain ⟨c0, c1, c2, c3, c4, c5⟩ := cells6 h.obj
  have z0 := World.block_lt_of_cell? _ _ c0
  dsimp only at z0
  obtain ⟨b, off, y, hca, hbl, hy, p0, p1, p2, p3, p4⟩ := h.at_.ls.plAt hi
  obtain rfl : x = y := by rw [hx] at hy; exact Option.some.inj hy
  obtain ⟨b2, off2, y2, hca2, hbl2, hy2, s0⟩ := h.at_.ps.pgAt hkn
  obtain rfl : q = y2 := by rw [hq] at hy2; exact Option.some.inj hy2
  rw [hk] at p0
  have hqm := List.mem_of_getElem? hq
  have Hc := Lib.hid (cloneI_own w.drew q.a q.n q.c q.l (SlAt.frm (h.at_.is_ q hqm) ((Frm.refl [] w).drew)) (by omega) (h.nil.is_ q hqm))
  have g1 := h.at_.ls.2.1
  have g2 := h.at_.ls.2.2.1
  have g3 := h.at_.ps.2.1
  have g4 := h.at_.ps.2.2.1
  simp only [maxLen] at g2 g4
  rw [hca] at c1
  rw [hca2] at c0
  clear h hy hx hy2 hq hqm hca hca2 hk c2 c3 c4 c5
  go_enter Tryd.func23, Tryd.ntmps23
  go_wp2_with fail
  refine Hl.out.mono ?_
  rintro e w1 ⟨rfl, h1⟩
  obtain rfl := h1
  go_wp2_with fail
  refine (has_any _ _ _).mono ?_
  rintro e w1 ⟨rfl, rfl⟩
  rw [hb]
  go_wp2_with fail
  go_still_tail 16, (by kernel_rfl)
  change wpList _ _ _ _ _ w1.drew
  go_wp2_with fail
  refine Hc.out.mono ?_
  rintro e w2 ⟨a, c, rfl, hr, hb, hf⟩
  go_wp2_with fail
  go_ret
  exact ⟨a, c, rfl, hr, hb, ⟨hf.os, hf.tape, hf.output, hf.size, hf.block⟩⟩
end Go.Proofs.YtbkadfdpboghiaaDoor
