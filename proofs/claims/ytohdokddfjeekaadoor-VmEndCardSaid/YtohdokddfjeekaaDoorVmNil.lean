/- VmNil: a nil machine has nothing, and a program without instructions does nothing. -/
import Derived.Test.YtohdokddfjeekaaDoorVmF
namespace Go.Proofs.YtohdokddfjeekaaDoor
open Go.RowKit Go.Maps

/-- A law holds, and what came in is as it was. -/
abbrev LawTrue (w : World) (e : Ending) (w' : World) : Prop := e = .returned (.bool true) ∧ Below w.heap.size w w'
set_option maxHeartbeats 400000 in
theorem step_nil (w : World) : Calls Tryd.prog 10 #[.pointer none] w (Reads (.bool false) w) := by
  go_enter Tryd.func10, Tryd.ntmps10
  go_wp2
  go_ret
  exact ⟨rfl, rfl⟩
abbrev zeros8 : Value := .agg #[.int .i64 0, .int .i64 0, .int .i64 0, .int .i64 0, .int .i64 0, .int .i64 0, .int .i64 0, .int .i64 0]
set_option maxHeartbeats 400000 in
theorem cells_nil (w : World) : Calls Tryd.prog 11 #[.pointer none] w (Tells zeros8 w) := by
  go_enter Tryd.func11, Tryd.ntmps11
  go_wp2
  refine bodyPost_ret (v := zeros8) (by simp [results, Tryd.results11, go_sem]) rfl ⟨rfl, ?_⟩
  exact (Frm.refl _ _).alloc _
set_option maxHeartbeats 400000 in
theorem at_nil (w : World) : Calls Tryd.prog 12 #[.pointer none] w (Reads (.int .i64 0) w) := by
  go_enter Tryd.func12, Tryd.ntmps12
  go_wp2
  go_ret
  exact ⟨rfl, rfl⟩
set_option maxHeartbeats 400000 in
theorem sent_nil (w : World) : Calls Tryd.prog 13 #[.pointer none] w (Reads (.slice none 0 0) w) := by
  go_enter Tryd.func13, Tryd.ntmps13
  go_wp2
  go_ret
  exact ⟨rfl, rfl⟩
theorem run_empty (t : Nat → Int) (e : Ev) (fuel : Int) : runS [] t e fuel = (st0 t, 0) := by
  unfold runS
  exact run_none (next_none (by simp))
theorem st0_V (t : Nat → Int) : stV (st0 t).cs = stV t := rfl
theorem zeros_eql (w : World) : (binOp BinOp.eql 40 zeros8 zeros8).run Tryd.prog w = .ok (.bool true) w := by
  obtain ⟨i, hi, _⟩ := info_parts infoInt
  have hc : Tryd.prog.cellsOf 3 = 1 := by kernel_rfl
  have h8 : (Op.equalIn 10000 40 zeros8 zeros8).run Tryd.prog w = .ok true w := by
    rw [run_equalIn_array w 9999 (n := 8) _ _ Tryd.underlying40 hi, hc]
    have e : (Op.equalIn 9999 3 (.int .i64 0) (.int .i64 0)).run Tryd.prog w = .ok true w := by rw [int_eqIn 9998]; rfl
    refine eqItems_cons (i := 0) (a := .int .i64 0) (b := .int .i64 0) (by kernel_rfl) (by kernel_rfl) e ?_
    refine eqItems_cons (i := 1) (a := .int .i64 0) (b := .int .i64 0) (by kernel_rfl) (by kernel_rfl) e ?_
    refine eqItems_cons (i := 2) (a := .int .i64 0) (b := .int .i64 0) (by kernel_rfl) (by kernel_rfl) e ?_
    refine eqItems_cons (i := 3) (a := .int .i64 0) (b := .int .i64 0) (by kernel_rfl) (by kernel_rfl) e ?_
    refine eqItems_cons (i := 4) (a := .int .i64 0) (b := .int .i64 0) (by kernel_rfl) (by kernel_rfl) e ?_
    refine eqItems_cons (i := 5) (a := .int .i64 0) (b := .int .i64 0) (by kernel_rfl) (by kernel_rfl) e ?_
    refine eqItems_cons (i := 6) (a := .int .i64 0) (b := .int .i64 0) (by kernel_rfl) (by kernel_rfl) e ?_
    exact eqItems_cons (i := 7) (a := .int .i64 0) (b := .int .i64 0) (by kernel_rfl) (by kernel_rfl) e eqItems_nil
  rw [run_eql_struct, h8]
  rfl
theorem eight_guard : (Tryd.prog).eqGuardType (Tryd.prog).depth 40 = false := by kernel_rfl

set_option maxHeartbeats 4000000 in
set_option maxRecDepth 100000 in
theorem nil_any {w : World} (hO : Ops w) {a : Option Addr} {n c : Nat} {p : List Ins} (t : Nat → Int) (e : Ev) (fan : Int) (_ : Ins.at_ w a n c p) (_ : a = none → n = 0 ∧ c = 0) (_ : (Lit.int .i64 fan).wf = true) (fuel : Int) : Calls Tryd.prog 4 #[caseV a n c t e fan, .int .i64 fuel] w (LawTrue w) := by
  have hF0 : Frm [] w (w.alloc (caseBox a n c t e fan)) := (Frm.refl _ _).alloc _
  have hr := run_any (hO.frm hF0) (SlAt.nil Ins.enc 5 _ none) (fun _ => ⟨rfl, rfl⟩) t e fuel fan
  have HF0 := Lib.hid hF0
  have HO := Lib.hid hO
  have Hr := Lib.hid hr
  have hb := obj_new w (caseBox a n c t e fan)
  have HB := Lib.hid hb
  clear hF0 hr hO hb
  go_enter Tryd.func4, Tryd.ntmps4
  go_wp2_with fail
  refine Hr.out.mono ?_
  rintro e' w2 ⟨a2, c2, rfl, hsl, hF⟩
  rw [run_empty, show outP fan (st0 t).sent = [] from List.take_nil, st0_V]
  have HF := Lib.hid (HF0.out.trans (T := []) hF (by simp))
  have HB2 := Lib.hid (hF.obj HB.out (by simp))
  clear hF hsl Hr HB
  simp only [List.length_nil]
  have hs : (w2.alloc (stBox t)).heap[w2.heap.size]? = some (stBox t) := obj_new w2 _
  have HS := Lib.hid hs
  have HB3 := Lib.hid (obj_alloc HB2.out (stBox t))
  have HF3 := Lib.hid (HF.out.alloc (stBox t))
  clear hs HB2 HF
  go_wp2_with fail
  refine (step_nil _).mono ?_
  rintro e' w3 ⟨rfl, h3⟩
  obtain rfl := h3
  go_wp2_with fail
  refine (cells_nil _).mono ?_
  rintro e' w3 ⟨rfl, hF⟩
  have s4 := cells4 (hF.obj HS.out (by simp))
  have c4 : ∀ j : Nat, w3.cell? ⟨w.heap.size, j, none⟩ = _ := fun j => cell_of_obj (hF.obj HB3.out (by simp)) j
  have d1 := c4 1
  have d2 := c4 2
  have d3 := c4 3
  have d4 := c4 4
  have HF4 := Lib.hid (HF3.out.trans (T := []) hF (by simp))
  have hO4 := HO.out.frm HF4.out
  have Haw := Lib.hid (awake_any hO4)
  have gz : ∀ W, (binOp BinOp.eql 40 (.agg #[.int .i64 0, .int .i64 0, .int .i64 0, .int .i64 0, .int .i64 0, .int .i64 0, .int .i64 0, .int .i64 0]) (.agg #[.int .i64 0, .int .i64 0, .int .i64 0, .int .i64 0, .int .i64 0, .int .i64 0, .int .i64 0, .int .i64 0])).run Tryd.prog W = .ok (.bool true) W := zeros_eql
  have gs : ∀ W, (binOp BinOp.eql 24 (.agg #[.int .i64 (t 0), .int .i64 (t 1), .int .i64 (t 2), .int .i64 (t 3)]) (.agg #[.int .i64 (t 0), .int .i64 (t 1), .int .i64 (t 2), .int .i64 (t 3)])).run Tryd.prog W = .ok (.bool true) W := st_eql t
  have g1 := eight_guard
  have g2 := st_guard
  clear hF c4 hO4
  simp only [List.getElem?_toArray, List.getElem?_cons_succ, List.getElem?_cons_zero] at d1 d2 d3 d4
  go_wp2_with fail
  refine (at_nil _).mono ?_
  rintro e' w4 ⟨rfl, h4⟩
  obtain rfl := h4
  go_wp2_with fail
  refine (sent_nil _).mono ?_
  rintro e' w4 ⟨rfl, h4⟩
  obtain rfl := h4
  go_wp2_with fail
  refine Haw.out.mono ?_
  rintro e' w5 ⟨rfl, hF⟩
  have HF5 := Lib.hid (HF4.out.trans (T := []) hF (by simp))
  clear hF
  go_wp2_with fail
  go_ret
  exact ⟨rfl, HF5.out.below (Nat.le_refl _) (by simp)⟩
end Go.Proofs.YtohdokddfjeekaaDoor
