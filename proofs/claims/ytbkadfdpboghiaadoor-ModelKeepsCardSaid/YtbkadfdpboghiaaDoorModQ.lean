/- Package model's laws: few; states are compared; the chapter's example. -/
import Derived.Test.YtbkadfdpboghiaaDoorModF
import Derived.Test.YtbkadfdpboghiaaDoorModN
import Derived.ChangeKeysEq
namespace Go.Proofs.YtbkadfdpboghiaaDoor
open Go.RowKit Go.Maps

theorem infoIntM : (Tryd.prog.info? 3).map (fun i => (i.zero, i.size, i.bytes)) = some (some (.int .i64 0), 1, 8) := by kernel_rfl
theorem eqItems_cons {P : Program} {w : World} {d c i : Nat} {e : TypeId} {xs ys : Array Value} {is : List Nat} {a b : Value} {r s : Bool} (ha : (part e xs (i * c)).run P w = .ok a w)
    (hb : (part e ys (i * c)).run P w = .ok b w) (hr : (Op.equalIn d e a b).run P w = .ok r w) (hs : (Op.eqItems d e c xs ys is).run P w = .ok s w) : (Op.eqItems d e c xs ys (i :: is)).run P w = .ok (r && s) w := by
  simp only [Op.eqItems, Sem.run_bind, ha, hb, hr, Result.andThen_ok]
  cases r
  · rfl
  · simp only [Bool.not_true, Bool.false_eq_true, if_false, hs, Bool.true_and]
theorem eqItems_nil {P : Program} {w : World} {d c : Nat} {e : TypeId} {xs ys : Array Value} : (Op.eqItems d e c xs ys []).run P w = .ok true w := rfl
theorem st_eqIn (d : Nat) (t : Pl) (w : World) : (Op.equalIn (d + 2) 47 t.st t.st).run Tryd.prog w = .ok true w := by
  obtain ⟨i, hi, _⟩ := info_parts infoIntM
  have hc : Tryd.prog.cellsOf 3 = 1 := by kernel_rfl
  rw [run_equalIn_array w (d + 1) (n := 4) _ _ Tryd.underlying47 hi, hc]
  have e : ∀ x : Int, (Op.equalIn (d + 1) 3 (.int .i64 x) (.int .i64 x)).run Tryd.prog w = .ok true w := fun x => by rw [int_eqIn]; simp
  exact eqItems_cons (i := 0) (a := .int .i64 t.f0) (b := .int .i64 t.f0) (by kernel_rfl) (by kernel_rfl) (e _) (eqItems_cons (i := 1) (a := .int .i64 t.f1) (b := .int .i64 t.f1) (by kernel_rfl) (by kernel_rfl) (e _)
    (eqItems_cons (i := 2) (a := .int .i64 t.f2) (b := .int .i64 t.f2) (by kernel_rfl) (by kernel_rfl) (e _) (eqItems_cons (i := 3) (a := .int .i64 t.f3) (b := .int .i64 t.f3) (by kernel_rfl) (by kernel_rfl) (e _) eqItems_nil)))
theorem st_eql (t : Pl) (w : World) : (binOp BinOp.eql 47 t.st t.st).run Tryd.prog w = .ok (.bool true) w := by
  rw [run_eql_struct, st_eqIn 9998]; rfl
theorem st_neq (t : Pl) (w : World) : (binOp BinOp.neq 47 t.st t.st).run Tryd.prog w = .ok (.bool false) w := by
  rw [run_neq_struct, st_eqIn 9998]; rfl
theorem st_guard : (Tryd.prog).eqGuardType (Tryd.prog).depth 47 = false := by kernel_rfl

def fewC (C : Cf) : Bool := (C.ps.all fun p => decide (p.n ≤ 80)) && (decide (C.pn ≤ 40) && (decide (C.ln ≤ 40) && decide (C.sn ≤ 300)))
theorem few_no {C : Cf} {p : Pg} (hp : p ∈ C.ps) (h : 80 < p.n) : fewC C = false := by
  unfold fewC
  rw [Bool.and_eq_false_iff]
  left
  rw [Bool.eq_false_iff]
  intro h1
  rw [List.all_eq_true] at h1
  have := of_decide_eq_true (h1 p hp)
  omega
theorem few_all {C : Cf} (h : ∀ p ∈ C.ps, p.n ≤ 80) : fewC C = (decide (C.pn ≤ 40) && (decide (C.ln ≤ 40) && decide (C.sn ≤ 300))) := by
  unfold fewC
  rw [show (C.ps.all fun p => decide (p.n ≤ 80)) = true by rw [List.all_eq_true]; exact fun p hp => decide_eq_true (h p hp), Bool.true_and]
structure Cf.Few (C : Cf) : Prop where
  ps : ∀ p ∈ C.ps, p.n ≤ 80
  pn : C.pn ≤ 40
  ln : C.ln ≤ 40
  sn : C.sn ≤ 300
theorem fewOf {C : Cf} (h : fewC C = true) : C.Few := by
  unfold fewC at h
  simp only [Bool.and_eq_true, List.all_eq_true, decide_eq_true_eq] at h
  exact ⟨h.1, h.2.1, h.2.2.1, h.2.2.2⟩

set_option maxHeartbeats 2000000 in
theorem few_any {C : Cf} {w : World} (hC : CfAt w C) : Calls Tryd.prog 8 #[C.val] w (Tells (.bool (fewC C)) w) := by
  have hF0 : Frm [] w (w.alloc (C.obj 26)) := (Frm.refl _ _).alloc _
  have hb0 : (w.alloc (C.obj 26)).heap[w.heap.size]? = some (C.obj 26) := obj_new w _
  have hpl : C.ps.length = C.pn := hC.ps.1
  have hc3 := hC.ps.2.2.1
  have hc4 := hC.ps.2.1
  simp only [maxLen] at hc3
  have HF0 := Lib.hid hF0
  have hps := hC.frm hF0
  obtain ⟨c0, c1, c2, c3, c4, c5⟩ := cells6 hb0
  have z0 := World.block_lt_of_cell? _ _ c0
  dsimp only at z0
  have HC := Lib.hid hps
  have Hpl := Lib.hid hpl
  have HC5 := Lib.hid hc3
  clear hF0 hb0 hC hpl hps
  go_enter Tryd.func8, Tryd.ntmps8
  go_wp2_with fail
  go_loopw [3] (fun iv wr => ∃ k : Nat, k ≤ C.pn ∧ iv = .int .i64 (k : Int) ∧ (∀ p ∈ C.ps.take k, p.n ≤ 80) ∧ wr = w.alloc (C.obj 26)) (fun iv _ => C.pn - (intOf iv).toNat)
  case atStart => exact ⟨0, by omega, rfl, by simp, by first | rfl | trivial⟩
  case round =>
    obtain ⟨k, hk, rfl, hok, rfl⟩ := hrel
    have Hk := Lib.hid hok
    clear hok
    by_cases hlt : k < C.pn
    · obtain ⟨b, off, x, hca, hbl, hx, p0⟩ := HC.out.ps.pgAt hlt
      have Hx := Lib.hid hx
      clear hx
      rw [hca] at c0
      by_cases h : x.n > 80
      · have g1 : decide ((x.n : Int) > 80) = true := by rw [decide_eq_true_eq]; omega
        go_wp2_with fail
        go_ret
        rw [few_no (List.mem_of_getElem? Hx.out) h]
        exact ⟨rfl, HF0.out⟩
      · have g1 : decide ((x.n : Int) > 80) = false := by rw [decide_eq_false_iff_not]; omega
        have Hh := Lib.hid (show x.n ≤ 80 by omega)
        go_wp2_with fail
        go_roundw
        case rel => exact ⟨k + 1, by omega, by go_num, take_all Hk.out Hx.out Hh.out, by first | rfl | trivial⟩
        case measure => simp [intOf]; omega
    · obtain rfl : k = C.pn := by omega
      have hall : ∀ p ∈ C.ps, p.n ≤ 80 := by have := Hk.out; rwa [List.take_of_length_le (by have := Hpl.out; omega)] at this
      have Hall := Lib.hid (few_all hall)
      clear hall
      by_cases h1 : C.pn ≤ 40
      · have g1 : decide ((C.pn : Int) ≤ 40) = true := by rw [decide_eq_true_eq]; omega
        by_cases h2 : C.ln ≤ 40
        · have g2 : decide ((C.ln : Int) ≤ 40) = true := by rw [decide_eq_true_eq]; omega
          have g3 : decide ((C.sn : Int) ≤ 300) = decide (C.sn ≤ 300) := by rw [decide_eq_decide]; omega
          have Hg := Lib.hid (show fewC C = decide ((C.sn : Int) ≤ 300) by rw [Hall.out, decide_eq_true h1, decide_eq_true h2, g3]; rfl)
          clear g3
          go_wp2_with fail
          go_ret
          rw [Hg.out]
          exact ⟨rfl, HF0.out⟩
        · have g2 : decide ((C.ln : Int) ≤ 40) = false := by rw [decide_eq_false_iff_not]; omega
          have Hg := Lib.hid (show fewC C = false by rw [Hall.out, decide_eq_true h1, decide_eq_false h2]; rfl)
          go_wp2_with fail
          go_ret
          rw [Hg.out]
          exact ⟨rfl, HF0.out⟩
      · have g1 : decide ((C.pn : Int) ≤ 40) = false := by rw [decide_eq_false_iff_not]; omega
        have Hg := Lib.hid (show fewC C = false by rw [Hall.out, decide_eq_false h1]; rfl)
        go_wp2_with fail
        go_ret
        rw [Hg.out]
        exact ⟨rfl, HF0.out⟩

theorem slAt_obj {α : Type} {enc : α → List Value} {k : Nat} (hk : ∀ x, (enc x).length = k) {w : World} {g n : Nat} {l : List α} {t : TypeId} {f : Nat × Nat} (h : w.heap[g]? = some (.cells (flat enc l).toArray t f)) (hn : l.length = n) (hm : n ≤ maxLen) : SlAt enc k w (some ⟨g, 0, none⟩) n n l :=
  ⟨hn, Nat.le_refl _, hm, .inr ⟨g, 0, rfl, lt_of_obj h, fun i x hi j u hj => by
    have h1 := flat_get hk hi hj
    rw [cell_of_obj h, Nat.zero_add]
    simpa using h1⟩⟩
def stopI : Ins := ⟨15, 0, 0, 0, 0⟩
/-- The example's configuration, laid from block b on. -/
def awC (b : Nat) : Cf :=
  { pa := some ⟨b + 1, 0, none⟩, pn := 1, pc := 1, ps := [⟨some ⟨b, 0, none⟩, 1, 1, [stopI]⟩], la := some ⟨b + 2, 0, none⟩, ln := 1, lc := 1, ls := [⟨0, 0, 0, 0, 0⟩],
    sa := some ⟨b + 3, 0, none⟩, sn := 2, sc := 2, ss := [⟨0, 5, 1, 2⟩, ⟨0, 3, 0, 0⟩], fin := 9, fuel := 1, fan := 0 }
theorem aw_ok (b : Nat) : checkC (awC b) = 0 := by rfl
abbrev awW (w : World) : World :=
  (((w.alloc (.cells #[.int .i64 15, .int .i64 0, .int .i64 0, .int .i64 0, .int .i64 0] 58)).alloc (.cells #[.slice (some ⟨w.heap.size, 0, none⟩) 1 1] 52)).alloc (.cells #[.int .i64 0, .int .i64 0, .int .i64 0, .int .i64 0, .int .i64 0] 59)).alloc
    (.cells #[.int .i64 0, .int .i64 5, .int .i64 1, .int .i64 2, .int .i64 0, .int .i64 3, .int .i64 0, .int .i64 0] 61)
theorem aw_at (w : World) : CfAt (awW w) (awC w.heap.size) := by
  have h0 : (awW w).heap[w.heap.size]? = some (.cells #[.int .i64 15, .int .i64 0, .int .i64 0, .int .i64 0, .int .i64 0] 58) := obj_alloc (obj_alloc (obj_alloc (obj_new _ _) _) _) _
  have h1 : (awW w).heap[w.heap.size + 1]? = some (.cells #[.slice (some ⟨w.heap.size, 0, none⟩) 1 1] 52) := by
    have := obj_alloc (obj_alloc (obj_new (w.alloc (.cells #[.int .i64 15, .int .i64 0, .int .i64 0, .int .i64 0, .int .i64 0] 58)) (.cells #[.slice (some ⟨w.heap.size, 0, none⟩) 1 1] 52)) (.cells #[.int .i64 0, .int .i64 0, .int .i64 0, .int .i64 0, .int .i64 0] 59)) (.cells #[.int .i64 0, .int .i64 5, .int .i64 1, .int .i64 2, .int .i64 0, .int .i64 3, .int .i64 0, .int .i64 0] 61)
    rwa [World.size_alloc] at this
  have h2 : (awW w).heap[w.heap.size + 2]? = some (.cells #[.int .i64 0, .int .i64 0, .int .i64 0, .int .i64 0, .int .i64 0] 59) := by
    have := obj_alloc (obj_new ((w.alloc (.cells #[.int .i64 15, .int .i64 0, .int .i64 0, .int .i64 0, .int .i64 0] 58)).alloc (.cells #[.slice (some ⟨w.heap.size, 0, none⟩) 1 1] 52)) (.cells #[.int .i64 0, .int .i64 0, .int .i64 0, .int .i64 0, .int .i64 0] 59)) (.cells #[.int .i64 0, .int .i64 5, .int .i64 1, .int .i64 2, .int .i64 0, .int .i64 3, .int .i64 0, .int .i64 0] 61)
    rwa [World.size_alloc, World.size_alloc] at this
  have h3 : (awW w).heap[w.heap.size + 3]? = some (.cells #[.int .i64 0, .int .i64 5, .int .i64 1, .int .i64 2, .int .i64 0, .int .i64 3, .int .i64 0, .int .i64 0] 61) := by
    have := obj_new (((w.alloc (.cells #[.int .i64 15, .int .i64 0, .int .i64 0, .int .i64 0, .int .i64 0] 58)).alloc (.cells #[.slice (some ⟨w.heap.size, 0, none⟩) 1 1] 52)).alloc (.cells #[.int .i64 0, .int .i64 0, .int .i64 0, .int .i64 0, .int .i64 0] 59)) (.cells #[.int .i64 0, .int .i64 5, .int .i64 1, .int .i64 2, .int .i64 0, .int .i64 3, .int .i64 0, .int .i64 0] 61)
    rwa [World.size_alloc, World.size_alloc, World.size_alloc] at this
  refine ⟨slAt_obj (enc := Pg.enc) Pg.enc_len (l := (awC w.heap.size).ps) h1 rfl (by show 1 ≤ maxLen; unfold maxLen; omega), fun p hp => ?_, slAt_obj (enc := Pl.enc) Pl.enc_len (l := (awC w.heap.size).ls) h2 rfl (by show 1 ≤ maxLen; unfold maxLen; omega), slAt_obj (enc := St.enc) St.enc_len (l := (awC w.heap.size).ss) h3 rfl (by show 2 ≤ maxLen; unfold maxLen; omega)⟩
  simp only [awC, List.mem_singleton] at hp
  subst hp
  exact slAt_obj (enc := Ins.enc) Ins.enc_len (l := [stopI]) h0 rfl (by show 1 ≤ maxLen; unfold maxLen; omega)
theorem aw_nil (b : Nat) : CfNil (awC b) := ⟨fun h => (by cases h), fun p hp h => (by simp only [awC, List.mem_singleton] at hp; subst hp; cases h), fun h => (by cases h), fun h => (by cases h)⟩
theorem aw_frm (w : World) : Frm [] w (awW w) := ((((Frm.refl _ _).alloc _).alloc _).alloc _).alloc _
theorem aw_evs {r : List Ev} (h1 : Asc r) (h2 : Alike (evsOf [⟨0, 5, 1, 2⟩, ⟨0, 3, 0, 0⟩]) r) : r = [⟨⟨3, -1, -1, 1⟩, 0, 0, 0⟩, ⟨⟨5, -1, -1, 0⟩, 0, 1, 2⟩] := by
  refine asc_unique h1 ?_ (h2.symm.trans ?_)
  · unfold Asc; decide
  · exact Alike.swap (x := [⟨⟨5, -1, -1, 0⟩, 0, 1, 2⟩]) (y := [⟨⟨3, -1, -1, 1⟩, 0, 0, 0⟩]) (by decide)

set_option maxHeartbeats 4000000 in
set_option maxRecDepth 100000 in
theorem awake_any {w : World} (hO : Ops w) : Calls Tryd.prog 9 #[] w (Tells (.bool true) w) := by
  have HF0 := Lib.hid (aw_frm w)
  have Hn := Lib.hid (new_ok (hO.frm (aw_frm w)) (aw_at w) (aw_nil _) (aw_ok _))
  clear hO
  go_enter Tryd.func9, Tryd.ntmps9
  go_wp2_with fail
  refine Hn.out.mono ?_
  rintro e w1 ⟨m, D, rfl, hM, hL, hF⟩
  have HF1 := Lib.hid (HF0.out.trans (T := []) hF (by simp))
  have hss : D.ss = [⟨0, 5, 1, 2⟩, ⟨0, 3, 0, 0⟩] := hL.ss
  have hsn : D.sn = 2 := hL.sn
  have he := events_in hM (by omega)
  rw [hss, hsn] at he
  have He := Lib.hid he
  clear he hF hM hL hss hsn Hn HF0
  go_wp2_with fail
  refine He.out.mono ?_
  rintro e w2 ⟨a, c, r, rfl, h1, h2, h3, hr, _, hF⟩
  obtain rfl := aw_evs h1 h2
  have HF2 := Lib.hid (HF1.out.trans (T := []) hF (by simp))
  obtain ⟨g, rfl, hg, hc⟩ := row_addr hr (by omega)
  have hcap := (row_some hr (by omega))
  have k0 := hr.cellAt (j := 0) (by omega)
  have k3 := hr.cellAt (j := 3) (by omega)
  have k1 := hr.cellAt (j := 1) (by omega)
  have k7 := hr.cellAt (j := 7) (by omega)
  have k13 := hr.cellAt (j := 13) (by omega)
  simp only [evCells, List.getElem?_cons_zero, List.getElem?_cons_succ] at k0 k1 k3 k7 k13
  clear h1 h2 h3 hr hF He HF1 hcap
  go_wp2_with fail
  go_ret
  exact ⟨rfl, HF2.out⟩
end Go.Proofs.YtbkadfdpboghiaaDoor
