/- ModelChecks: which configurations may be, and what a model tells. -/
import Derived.Test.YtbkadfdpboghiaaDoorModR2
namespace Go.Proofs.YtbkadfdpboghiaaDoor
open Go.RowKit Go.Maps

theorem Cf.Like.form {C D : Cf} (h : C.Like D) : D = plainD C D.pa D.pc D.ps D.la D.lc D.sa D.sc := by
  obtain ⟨h1, _, h3, h4, h5, h6, h7, h8, h9⟩ := h
  cases D
  simp only at h1 h3 h4 h5 h6 h7 h8 h9
  subst h1 h3 h4 h5 h6 h7 h8 h9
  rfl
theorem cplain2 {C : Cf} {w : World} (hC : CfAt w C) (hf : C.Few) : Calls Tryd.prog 10 #[C.val] w fun e w' => ∃ (a1 : Option Addr) (c1 : Nat) (ds : List Pg) (a2 : Option Addr) (c2 : Nat) (a3 : Option Addr) (c3 : Nat),
    e = .returned (.agg #[.slice a1 C.pn c1, .slice a2 C.ln c2, .slice a3 C.sn c3, .int .i64 C.fin, .int .i64 C.fuel, .int .i64 C.fan]) ∧ CfAt w' (plainD C a1 c1 ds a2 c2 a3 c3) ∧ C.Like (plainD C a1 c1 ds a2 c2 a3 c3) ∧ Frm [] w w' := by
  refine (cplain_any hC hf).mono fun e w' hd => ?_
  obtain ⟨D, rfl, h1, _, h3, h4⟩ := hd
  have hfm := h3.form
  refine ⟨D.pa, D.pc, D.ps, D.la, D.lc, D.sa, D.sc, ?_, by rw [← hfm]; exact h1, by rw [← hfm]; exact h3, h4⟩
  have e : D.val = (plainD C D.pa D.pc D.ps D.la D.lc D.sa D.sc).val := by rw [← hfm]
  rw [e]
  rfl
/-- The same program is the same, in both. -/
theorem prog_at {C D : Cf} (h : C.Like D) {k : Nat} {p q : Pg} (hp : C.ps[k]? = some p) (hq : D.ps[k]? = some q) : q.l = p.l := by
  have := congrArg (·[k]?) h.ps
  simp only [List.getElem?_map, hp, hq, Option.map_some, Option.some.injEq] at this
  exact this

set_option maxHeartbeats 1000000 in
set_option maxRecDepth 100000 in
theorem checks_few {C : Cf} {lp : Int} {w : World} (hO : Ops w) (hC : CfAt w C) (hf : fewC C = false) : Calls Tryd.prog 3 #[C.val, .int .i64 lp] w (LawTrue w) := by
  have hF0 : Frm [] w (w.alloc (C.obj 26)) := (Frm.refl _ _).alloc _
  have hfe := few_any (hC.frm hF0)
  rw [hf] at hfe
  have HF0 := Lib.hid hF0
  have HO := Lib.hid hO
  have Hf := Lib.hid hfe
  clear hF0 hO hC hfe hf
  go_enter Tryd.func3, Tryd.ntmps3
  go_wp2_with fail
  refine Hf.out.mono ?_
  rintro e w1 ⟨rfl, hF⟩
  have HF1 := Lib.hid (HF0.out.trans (T := []) hF (by simp))
  clear hF
  go_wp2_with fail
  refine (awake_any (HO.out.frm HF1.out)).mono ?_
  rintro e w2 ⟨rfl, hF⟩
  have HF2 := Lib.hid (HF1.out.trans (T := []) hF (by simp))
  clear hF
  go_wp2_with fail
  go_ret
  exact ⟨rfl, HF2.out.below (Nat.le_refl _) (by simp)⟩

set_option maxHeartbeats 16000000 in
set_option maxRecDepth 100000 in
theorem checks_in {C : Cf} {lp : Int} {w : World} (hO : Ops w) (hC : CfAt w C) (hN : CfNil C) (hf : fewC C = true) : Calls Tryd.prog 3 #[C.val, .int .i64 lp] w (LawTrue w) := by
  have hF0 : Frm [] w (w.alloc (C.obj 26)) := (Frm.refl _ _).alloc _
  have hb0 : (w.alloc (C.obj 26)).heap[w.heap.size]? = some (C.obj 26) := obj_new w _
  have hfe := few_any (hC.frm hF0)
  rw [hf] at hfe
  have hfew := fewOf hf
  have HF0 := Lib.hid hF0
  have HB0 := Lib.hid hb0
  have HO := Lib.hid hO
  have HC := Lib.hid hC
  have HN := Lib.hid hN
  have Hf := Lib.hid hfe
  have Hfew := Lib.hid hfew
  have hs300 := hfew.sn
  have hl40 := hfew.ln
  clear hF0 hb0 hO hC hN hfe hf hfew
  go_enter Tryd.func3, Tryd.ntmps3
  go_wp2_with fail
  refine Hf.out.mono ?_
  rintro e w1 ⟨rfl, hF⟩
  have HF1 := Lib.hid (HF0.out.trans (T := []) hF (by simp))
  have HB1 := Lib.hid (hF.obj HB0.out (by simp))
  obtain ⟨d0, d1, d2, d3, d4, d5⟩ := cells6 HB1.out
  clear hF HF0 HB0 Hf
  go_wp2_with fail
  refine (cplain2 (HC.out.frm HF1.out) Hfew.out).mono ?_
  rintro e w2 ⟨a1, c1, ds, a2, c2, a3, c3, rfl, hP, hPL, hF⟩
  have hfa : Frm [] w2 (w2.alloc (outO (.slice a1 C.pn c1) (.slice a2 C.ln c2) (.slice a3 C.sn c3) C)) := (Frm.refl _ _).alloc _
  have HF2 := Lib.hid ((HF1.out.trans (T := []) hF (by simp)).trans (T := []) hfa (by simp))
  have HB2 := Lib.hid (hfa.obj (hF.obj HB1.out (by simp)) (by simp))
  have HR2 := Lib.hid (obj_new w2 (outO (.slice a1 C.pn c1) (.slice a2 C.ln c2) (.slice a3 C.sn c3) C))
  have HP2 := Lib.hid (hP.frm hfa)
  have HPL := Lib.hid hPL
  have hrc := rccheck_any (C := plainD C a1 c1 ds a2 c2 a3 c3) (hP.frm hfa)
  rw [check_like hPL] at hrc
  have Hrc := Lib.hid hrc
  clear hP hPL hF hfa hrc d0 d1 d2 d3 d4 d5 HF1 HB1
  have hbx2 : w2.heap.size < (w2.alloc (outO (.slice a1 C.pn c1) (.slice a2 C.ln c2) (.slice a3 C.sn c3) C)).heap.size := lt_of_obj HR2.out
  go_wp2_with fail
  refine Hrc.out.mono ?_
  rintro e w3 ⟨rfl, hF⟩
  have HF3 := Lib.hid (HF2.out.trans (T := []) hF (by simp))
  have HB3 := Lib.hid (hF.obj HB2.out (by simp))
  have HR3 := Lib.hid (hF.obj HR2.out (by simp))
  have HP3 := Lib.hid (HP2.out.frm hF)
  obtain ⟨d0, d1, d2, d3, d4, d5⟩ := cells6 HB3.out
  clear hF HF2 HB2 HR2 HP2 Hrc hbx2
  by_cases hc : checkC C = 0
  · rw [hc]
    have hok := okOf hc
    have Hok := Lib.hid hok
    have Hc := Lib.hid hc
    clear hc hok
    go_wp2_with fail
    refine (new_ok (HO.out.frm HF3.out) (HC.out.frm HF3.out) HN.out Hc.out).mono ?_
    rintro e w4 ⟨m, M, rfl, hM, hL, hF⟩
    have HF4 := Lib.hid (HF3.out.trans (T := []) hF (by simp))
    have HB4 := Lib.hid (hF.obj HB3.out (by simp))
    have HR4 := Lib.hid (hF.obj HR3.out (by simp))
    have HP4 := Lib.hid (HP3.out.frm hF)
    have HM4 := Lib.hid hM
    have HL := Lib.hid hL
    generalize w4.heap.size = hiB at *
    generalize w3.heap.size = lo at *
    clear hF hM hL d0 d1 d2 d3 d4 d5 HF3 HB3 HR3 HP3
    obtain ⟨d0, d1, d2, d3, d4, d5⟩ := cells6 HB4.out
    go_wp2_with fail
    have hmc := mcheck_any (HO.out.frm HF4.out) (HC.out.frm HF4.out)
    rw [Hc.out] at hmc
    refine hmc.mono ?_
    rintro e wr ⟨rfl, hF⟩
    have HF5 := Lib.hid (HF4.out.trans (T := []) hF (by simp))
    have hr5 := hF.obj HR4.out (by simp)
    have HP5 := Lib.hid (HP4.out.frm hF)
    have HM5 := Lib.hid (HM4.out.frm0 hF)
    clear hF hmc d0 d1 d2 d3 d4 d5 HF4 HB4 HR4 HP4 HM4
    obtain ⟨r0, r1, r2, r3, r4, r5⟩ := cells6 hr5
    have hrl : w2.heap.size < wr.heap.size := lt_of_obj hr5
    have hs : ∀ W, Frm [] wr W → W.cell? ⟨w2.heap.size, 0, none⟩ = some (.slice a1 C.pn c1) ∧ W.cell? ⟨w2.heap.size, 1, none⟩ = some (.slice a2 C.ln c2) ∧ W.cell? ⟨w2.heap.size, 2, none⟩ = some (.slice a3 C.sn c3) ∧ W.cell? ⟨w2.heap.size, 3, none⟩ = some (.int .i64 C.fin) ∧ W.cell? ⟨w2.heap.size, 4, none⟩ = some (.int .i64 C.fuel) ∧ W.cell? ⟨w2.heap.size, 5, none⟩ = some (.int .i64 C.fan) ∧ Frm [] wr W := fun W hW => ⟨hW.cell r0 (by simp), hW.cell r1 (by simp), hW.cell r2 (by simp), hW.cell r3 (by simp), hW.cell r4 (by simp), hW.cell r5 (by simp), hW⟩
    have HS := Lib.hid hs
    have k1 : ∀ W, Frm [] wr W → Calls Tryd.prog 14 #[.pointer (some ⟨m, 0, none⟩)] W (Reads (.int .i64 (C.ln : Int)) W) := fun W hW => by have := lps_any (HM5.out.frm0 hW); rwa [HL.out.ln] at this
    have k2 : ∀ W, Frm [] wr W → Calls Tryd.prog 15 #[.pointer (some ⟨m, 0, none⟩)] W (Reads (.int .i64 C.fin) W) := fun W hW => by have := end_any (HM5.out.frm0 hW); rwa [HL.out.fin] at this
    have k3 : ∀ W, Frm [] wr W → Calls Tryd.prog 16 #[.pointer (some ⟨m, 0, none⟩)] W (Reads (.int .i64 C.fuel) W) := fun W hW => by have := fuel_any (HM5.out.frm0 hW); rwa [HL.out.fuel] at this
    have k4 : ∀ W, Frm [] wr W → Calls Tryd.prog 17 #[.pointer (some ⟨m, 0, none⟩)] W (Reads (.int .i64 C.fan) W) := fun W hW => by have := fan_any (HM5.out.frm0 hW); rwa [HL.out.fan] at this
    have k5 : ∀ W, Frm [] wr W → Calls Tryd.prog 19 #[.pointer (some ⟨m, 0, none⟩)] W (EvsMade C.ss C.sn W) := fun W hW => by have := events_in (HM5.out.frm0 hW) (by rw [HL.out.sn]; omega); rwa [HL.out.sn, HL.out.ss] at this
    have k6 : ∀ W, Frm [] wr W → Calls Tryd.prog 20 #[.agg #[.slice a1 C.pn c1, .slice a2 C.ln c2, .slice a3 C.sn c3, .int .i64 C.fin, .int .i64 C.fuel, .int .i64 C.fan]] W (EvsMade C.ss C.sn W) := fun W hW => revents_any (D := plainD C a1 c1 ds a2 c2 a3 c3) (HP5.out.frm hW) (by show C.sn ≤ 300; omega)
    have K1 := Lib.hid k1
    have K2 := Lib.hid k2
    have K3 := Lib.hid k3
    have K4 := Lib.hid k4
    have K5 := Lib.hid k5
    have K6 := Lib.hid k6
    have g1 : ((C.ln : Int) != (C.ln : Int)) = false := by simp
    have g2 : (C.fin != C.fin) = false := by simp
    have g3 : (C.fuel != C.fuel) = false := by simp
    have g4 : (C.fan != C.fan) = false := by simp
    clear hs k1 k2 k3 k4 k5 k6 r0 r1 r2 r3 r4 r5
    go_wp2_with fail
    go_region_held3 (fun w' => w'.cell? ⟨w2.heap.size, 0, none⟩ = some (.slice a1 C.pn c1) ∧ w'.cell? ⟨w2.heap.size, 1, none⟩ = some (.slice a2 C.ln c2) ∧ w'.cell? ⟨w2.heap.size, 2, none⟩ = some (.slice a3 C.sn c3) ∧ w'.cell? ⟨w2.heap.size, 3, none⟩ = some (.int .i64 C.fin) ∧ w'.cell? ⟨w2.heap.size, 4, none⟩ = some (.int .i64 C.fuel) ∧ w'.cell? ⟨w2.heap.size, 5, none⟩ = some (.int .i64 C.fan) ∧ Frm [] wr w')
      (first | exact HS.out _ (Frm.refl _ _).drew | exact HS.out _ H6.out | exact HS.out _ H7.out | exact HS.out _ H8.out)
      (first
        | (go_at_call 14; refine (K1.out _ (Frm.refl _ _).drew).mono ?_; rintro e w9 ⟨rfl, h9⟩; obtain rfl := h9)
        | (go_at_call 15; refine (K2.out _ (Frm.refl _ _).drew).mono ?_; rintro e w9 ⟨rfl, h9⟩; obtain rfl := h9)
        | (go_at_call 16; refine (K3.out _ (Frm.refl _ _).drew).mono ?_; rintro e w9 ⟨rfl, h9⟩; obtain rfl := h9)
        | (go_at_call 17; refine (K4.out _ (Frm.refl _ _).drew).mono ?_; rintro e w9 ⟨rfl, h9⟩; obtain rfl := h9)
        | (go_at_call 19; refine (K5.out _ (Frm.refl _ _).drew).mono ?_; rintro e w6 ⟨e1, e2, l1, rfl, q1, q2, q3, q4, _, hF⟩; have H6 := Lib.hid ((Frm.refl [] wr).drew.trans (T := []) hF (by simp)); have Q1 := Lib.hid (And.intro q1 (And.intro q2 (And.intro q3 q4))); clear hF q1 q2 q3 q4)
        | (go_at_call 20; refine (K6.out _ H6.out).mono ?_; rintro e w7 ⟨e3, e4, l2, rfl, q1, q2, q3, q4, _, hF⟩; have H7 := Lib.hid (H6.out.trans (T := []) hF (by simp)); have hl12 := asc_unique Q1.out.1 q1 (Q1.out.2.1.symm.trans q2); have hcmp := events_any w7 e1 C.sn e2 l1 e3 C.sn e4 l2 ((EvsAt.of_row Q1.out.2.2.2 Q1.out.2.2.1).frm hF) (EvsAt.of_row q4 q3) (by omega); rw [decide_eq_true hl12] at hcmp; have Hcmp := Lib.hid hcmp; clear hF q1 q2 q3 q4 hcmp hl12)
        | (go_at_call 18; refine Hcmp.out.mono ?_; rintro e w8 ⟨rfl, hF⟩; have H8 := Lib.hid (H7.out.trans (T := []) hF (by simp)); clear hF))
    have HF8 := Lib.hid (HF5.out.trans (T := []) H8.out (by simp))
    have HR8 := Lib.hid (H8.out.obj hr5 (by simp))
    have HP8 := Lib.hid (HP5.out.frm H8.out)
    have HM8 := Lib.hid (HM5.out.frm0 H8.out)
    clear HS K1 K2 K3 K4 K5 K6 H6 H7 H8 HF5 HP5 HM5 hr5 hrl Hcmp Q1
    go_wp2_with fail
    go_loopw [9] (fun iv wr => ∃ i : Nat, i ≤ C.ln ∧ iv = .int .i64 (i : Int) ∧ Frm [] w8 wr) (fun iv _ => C.ln - (intOf iv).toNat)
    case atStart => exact ⟨0, Nat.zero_le _, rfl, Frm.refl _ _⟩
    case round =>
      obtain ⟨i, hi, rfl, hF⟩ := hrel
      have hr9 := hF.obj HR8.out (by simp)
      obtain ⟨r0, r1, r2, r3, r4, r5⟩ := cells6 hr9
      have hrl : w2.heap.size < wr.heap.size := lt_of_obj hr9
      have HF9 := Lib.hid (HF8.out.trans (T := []) hF (by simp))
      have hp9 := HP8.out.frm hF
      have hm9 := HM8.out.frm0 hF
      have HF := Lib.hid hF
      have HM9 := Lib.hid hm9
      clear hF hr9
      by_cases hlt : i < C.ln
      · obtain ⟨b, off, x, hca, hbl, hx, p0, p1, p2, p3, p4⟩ := (show SlAt Pl.enc 5 wr a2 C.ln c2 C.ls from hp9.ls).plAt hlt
        have hxm := List.mem_of_getElem? hx
        have hpr := Hok.out.pr x hxm
        obtain ⟨k, hk⟩ : ∃ k : Nat, x.pr = (k : Int) := ⟨x.pr.toNat, by omega⟩
        have hkn : k < C.pn := by omega
        obtain ⟨b2, off2, q', hca2, hbl2, hq', s0⟩ := (show SlAt Pg.enc 1 wr a1 C.pn c1 ds from hp9.ps).pgAt hkn
        obtain ⟨q, hq⟩ : ∃ q, M.ps[k]? = some q := ⟨_, List.getElem?_eq_getElem (by have := hm9.at_.ps.1; rw [HL.out.pn] at this; omega)⟩
        obtain ⟨p, hp⟩ : ∃ p, C.ps[k]? = some p := ⟨_, List.getElem?_eq_getElem (by have := HC.out.ps.1; omega)⟩
        have e1 := prog_at HL.out hp hq
        have e2 := prog_at HPL.out hp (show (plainD C a1 c1 ds a2 c2 a3 c3).ps[k]? = some q' from hq')
        have hql := (hm9.at_.is_ q (List.mem_of_getElem? hq)).1
        have hql' := (hp9.is_ q' (show q' ∈ ds from List.mem_of_getElem? hq')).1
        have hnn : q'.n = q.n := by rw [← hql, ← hql', e1, e2]
        have hll : q'.l = q.l := by rw [e1, e2]
        have hq64 : q.n ≤ 64 := by have := checkP_len (Hok.out.ps p (List.mem_of_getElem? hp)); rw [← e1, hql] at this; exact this
        rw [hca] at r1
        rw [hca2] at r0
        rw [hk] at p0
        have hs : ∀ W, Frm [] wr W → W.cell? ⟨w2.heap.size, 0, none⟩ = some (.slice (some ⟨b2, off2, none⟩) C.pn c1) ∧ W.cell? ⟨w2.heap.size, 1, none⟩ = some (.slice (some ⟨b, off, none⟩) C.ln c2) ∧ W.cell? ⟨b, off + i * 5, none⟩ = some (.int .i64 (k : Int)) ∧ W.cell? ⟨b, off + i * 5 + 1, none⟩ = some (.int .i64 x.f0) ∧ W.cell? ⟨b, off + i * 5 + 2, none⟩ = some (.int .i64 x.f1) ∧ W.cell? ⟨b, off + i * 5 + 3, none⟩ = some (.int .i64 x.f2) ∧ W.cell? ⟨b, off + i * 5 + 4, none⟩ = some (.int .i64 x.f3) ∧ W.cell? ⟨b2, off2 + k, none⟩ = some (.slice q'.a q'.n q'.c) ∧ Frm [] wr W := fun W hW => ⟨hW.cell r0 (by simp), hW.cell r1 (by simp), hW.cell p0 (by simp), hW.cell p1 (by simp), hW.cell p2 (by simp), hW.cell p3 (by simp), hW.cell p4 (by simp), hW.cell s0 (by simp), hW⟩
        have HS := Lib.hid hs
        have k1 : ∀ W, Frm [] wr W → Calls Tryd.prog 21 #[.pointer (some ⟨m, 0, none⟩), .int .i64 (i : Int)] W (Tells x.st W) := fun W hW => first_in (hm9.frm0 hW) (by rw [HL.out.ls]; exact hx)
        have k2 : ∀ W, Frm [] wr W → Calls Tryd.prog 23 #[.pointer (some ⟨m, 0, none⟩), .int .i64 (i : Int)] W (CloneOwn _ Ins.enc 5 q.l q.n W) := fun W hW => program_in (hm9.frm0 hW) (by rw [HL.out.ls]; exact hx) hk hq hq64
        have k3 : ∀ W, Frm [] wr W → Ins.at_ W q'.a q'.n q'.c q'.l := fun W hW => SlAt.frm (hp9.is_ q' (show q' ∈ ds from List.mem_of_getElem? hq')) hW
        have K1 := Lib.hid k1
        have K2 := Lib.hid k2
        have K3 := Lib.hid k3
        have gq : ∀ W, (binOp BinOp.neq 47 (.agg #[.int .i64 x.f0, .int .i64 x.f1, .int .i64 x.f2, .int .i64 x.f3]) (.agg #[.int .i64 x.f0, .int .i64 x.f1, .int .i64 x.f2, .int .i64 x.f3])).run Tryd.prog W = .ok (.bool false) W := fun W => st_neq x W
        have gg := st_guard
        have gb1 : (0 : Int) ≤ (i : Int) := by omega
        have gb2 : (i : Int) < (C.ln : Int) := by omega
        have gb3 : (0 : Int) ≤ (k : Int) := by omega
        have gb4 : (k : Int) < (C.pn : Int) := by omega
        have Hql := Lib.hid hql
        have Hnn := Lib.hid hnn
        have Hll := Lib.hid hll
        clear hs k1 k2 k3 hp9 hm9 hca hca2 hk hx hxm hpr hq hq' hp e1 e2 hql hql' r2 r3 r4 r5 hll hnn
        go_wp2_with fail
        go_region_held3 (fun w' => w'.cell? ⟨w2.heap.size, 0, none⟩ = some (.slice (some ⟨b2, off2, none⟩) C.pn c1) ∧ w'.cell? ⟨w2.heap.size, 1, none⟩ = some (.slice (some ⟨b, off, none⟩) C.ln c2) ∧ w'.cell? ⟨b, off + i * 5, none⟩ = some (.int .i64 (k : Int)) ∧ w'.cell? ⟨b, off + i * 5 + 1, none⟩ = some (.int .i64 x.f0) ∧ w'.cell? ⟨b, off + i * 5 + 2, none⟩ = some (.int .i64 x.f1) ∧ w'.cell? ⟨b, off + i * 5 + 3, none⟩ = some (.int .i64 x.f2) ∧ w'.cell? ⟨b, off + i * 5 + 4, none⟩ = some (.int .i64 x.f3) ∧ w'.cell? ⟨b2, off2 + k, none⟩ = some (.slice q'.a q'.n q'.c) ∧ Frm [] wr w')
          (first | exact HS.out _ (Frm.refl _ _).drew | exact HS.out _ H6.out | exact HS.out _ H7.out | exact HS.out _ H8.out)
          (first
            | (go_at_call 21; refine (K1.out _ (Frm.refl _ _).drew).mono ?_; rintro e w6 ⟨rfl, hF⟩; have H6 := Lib.hid ((Frm.refl [] wr).drew.trans (T := []) hF (by simp)); clear hF)
            | (go_at_call 23; refine (K2.out _ H6.out).mono ?_; rintro e w7 ⟨e1, e2, rfl, q4, _, hF⟩; have H7 := Lib.hid (H6.out.trans (T := []) hF (by simp)); have Q4 := Lib.hid q4; clear hF q4)
            | (go_at_call 22; rw [Hnn.out]; refine (same_any (SlAt.of_row Ins.enc_len Q4.out Hql.out) (by omega) (by have := K3.out _ H7.out; rw [Hnn.out, Hll.out] at this; exact this)).mono ?_; rintro e w8' ⟨rfl, hF⟩; have H8 := Lib.hid (H7.out.trans (T := []) hF (by simp)); clear hF))
        have HJ := Lib.hid (HF.out.trans (T := []) H8.out (by simp))
        clear HS H6 H7 H8 K1 K2 K3
        go_wp2_with fail
        go_roundw
        case rel => exact ⟨i + 1, by omega, by go_num, HJ.out⟩
        case measure => simp [intOf]; omega
      · obtain rfl : i = C.ln := by omega
        have k1 : ∀ W, Frm [] wr W → Calls Tryd.prog 14 #[.pointer (some ⟨m, 0, none⟩)] W (Reads (.int .i64 (C.ln : Int)) W) := fun W hW => by have := lps_any (hm9.frm0 hW); rwa [HL.out.ln] at this
        have K1 := Lib.hid k1
        have gs : ∀ W, (binOp BinOp.eql 47 (.agg #[.int .i64 0, .int .i64 0, .int .i64 0, .int .i64 0]) (.agg #[.int .i64 0, .int .i64 0, .int .i64 0, .int .i64 0])).run Tryd.prog W = .ok (.bool true) W := fun W => st_eql ⟨0, 0, 0, 0, 0⟩ W
        have gg := st_guard
        clear k1 hp9 hm9
        cases hb : hasB C.ln lp
        · have Hb := Lib.hid hb
          have hlp : lp < 0 ∨ (C.ln : Int) ≤ lp := by
            rcases Int.lt_or_le lp 0 with h | h
            · exact .inl h
            · rcases Int.lt_or_le lp (C.ln : Int) with h' | h'
              · rw [hasB_iff.2 ⟨h, h'⟩] at hb; cases hb
              · exact .inr h'
          clear hb
          rcases hlp with h | h
          · have g1 : decide (lp ≥ 0) = false := by rw [decide_eq_false_iff_not]; omega
            have g2 : decide (0 ≤ lp) = false := by rw [decide_eq_false_iff_not]; omega
            clear h
            go_wp2_with fail
            refine (first_out (n := (C.ln : Int)) K1.out Hb.out).mono ?_
            rintro e w6 ⟨rfl, hF⟩
            have H6 := Lib.hid hF
            clear hF
            go_wp2_with fail
            refine (program_out (n := (C.ln : Int)) (K1.out _ H6.out) Hb.out).mono ?_
            rintro e w7 ⟨rfl, h7⟩
            obtain rfl := h7.symm
            go_wp2_with fail
            refine (awake_any (HO.out.frm (HF9.out.trans (T := []) H6.out (by simp)))).mono ?_
            rintro e w8' ⟨rfl, hF⟩
            have H8 := Lib.hid ((HF9.out.trans (T := []) H6.out (by simp)).trans (T := []) hF (by simp))
            clear hF
            go_wp2_with fail
            go_ret
            exact ⟨rfl, H8.out.below (Nat.le_refl _) (by simp)⟩
          · have g1 : decide (lp ≥ 0) = true := by rw [decide_eq_true_eq]; omega
            have g2 : decide (0 ≤ lp) = true := by rw [decide_eq_true_eq]; omega
            have g3 : decide (lp < (C.ln : Int)) = false := by rw [decide_eq_false_iff_not]; omega
            clear h
            go_wp2_with fail
            refine (first_out (n := (C.ln : Int)) K1.out Hb.out).mono ?_
            rintro e w6 ⟨rfl, hF⟩
            have H6 := Lib.hid hF
            clear hF
            go_wp2_with fail
            refine (program_out (n := (C.ln : Int)) (K1.out _ H6.out) Hb.out).mono ?_
            rintro e w7 ⟨rfl, h7⟩
            obtain rfl := h7.symm
            go_wp2_with fail
            refine (awake_any (HO.out.frm (HF9.out.trans (T := []) H6.out (by simp)))).mono ?_
            rintro e w8' ⟨rfl, hF⟩
            have H8 := Lib.hid ((HF9.out.trans (T := []) H6.out (by simp)).trans (T := []) hF (by simp))
            clear hF
            go_wp2_with fail
            go_ret
            exact ⟨rfl, H8.out.below (Nat.le_refl _) (by simp)⟩
        · have hlp := hasB_iff.1 hb
          have g1 : decide (lp ≥ 0) = true := by rw [decide_eq_true_eq]; omega
          have g2 : decide (0 ≤ lp) = true := by rw [decide_eq_true_eq]; omega
          have g3 : decide (lp < (C.ln : Int)) = true := by rw [decide_eq_true_eq]; omega
          clear hb hlp
          go_wp2_with fail
          refine (awake_any (HO.out.frm HF9.out)).mono ?_
          rintro e w8' ⟨rfl, hF⟩
          have H8 := Lib.hid (HF9.out.trans (T := []) hF (by simp))
          clear hF
          go_wp2_with fail
          go_ret
          exact ⟨rfl, H8.out.below (Nat.le_refl _) (by simp)⟩
  · have g1 : (checkC C == 0) = false := by rw [beq_eq_false_iff_ne]; exact hc
    have g2 : (checkC C != 0) = true := by rw [bne_iff_ne]; exact hc
    have g3 : (checkC C != checkC C) = false := by simp
    have Hc := Lib.hid hc
    clear hc
    go_wp2_with fail
    refine (new_bad (HO.out.frm HF3.out) (HC.out.frm HF3.out) Hc.out).mono ?_
    rintro e w4 ⟨rfl, hF⟩
    have HF4 := Lib.hid (HF3.out.trans (T := []) hF (by simp))
    have HB4 := Lib.hid (hF.obj HB3.out (by simp))
    clear hF d0 d1 d2 d3 d4 d5
    obtain ⟨d0, d1, d2, d3, d4, d5⟩ := cells6 HB4.out
    go_wp2_with fail
    refine (mcheck_any (HO.out.frm HF4.out) (HC.out.frm HF4.out)).mono ?_
    rintro e w5 ⟨rfl, hF⟩
    have HF5 := Lib.hid (HF4.out.trans (T := []) hF (by simp))
    clear hF d0 d1 d2 d3 d4 d5
    go_wp2_with fail
    refine (awake_any (HO.out.frm HF5.out)).mono ?_
    rintro e w6 ⟨rfl, hF⟩
    have HF6 := Lib.hid (HF5.out.trans (T := []) hF (by simp))
    clear hF
    go_wp2_with fail
    go_ret
    exact ⟨rfl, HF6.out.below (Nat.le_refl _) (by simp)⟩
theorem checks_law {C : Cf} {w : World} (hO : Ops w) (hC : CfAt w C) (hN : CfNil C) (lp : Int) : Calls Tryd.prog 3 #[C.val, .int .i64 lp] w (LawTrue w) := by
  cases hf : fewC C
  · exact checks_few hO hC hf
  · exact checks_in hO hC hN hf
end Go.Proofs.YtbkadfdpboghiaaDoor
