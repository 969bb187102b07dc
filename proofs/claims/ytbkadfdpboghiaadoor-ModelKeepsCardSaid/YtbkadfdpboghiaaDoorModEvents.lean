/- ModelEvents: each event that is there at first may be, goes to a process, is in time, and no two have one ID. -/
import Derived.Test.YtbkadfdpboghiaaDoorModNil
namespace Go.Proofs.YtbkadfdpboghiaaDoor
open Go.RowKit Go.Maps

theorem alike_perm {l r : List Ev} (h : Alike l r) : l.Perm r := by
  rw [List.perm_iff_count]
  intro e
  exact h.count e
theorem evsOf_mem {ss : List St} {e : Ev} (h : e ∈ evsOf ss) : ∃ (i : Nat) (s : St), ss[i]? = some s ∧ e = mkEv i s := by
  obtain ⟨i, hi⟩ := List.mem_iff_getElem?.1 h
  unfold evsOf at hi
  rw [List.getElem?_mapIdx] at hi
  cases hs : ss[i]? with
  | none => rw [hs] at hi; cases hi
  | some s => rw [hs] at hi; exact ⟨i, s, hs, (Option.some.inj hi).symm⟩
theorem evsOf_no (ss : List St) : (evsOf ss).Pairwise fun a b => a.k.no ≠ b.k.no := by
  rw [List.pairwise_iff_getElem]
  intro i j hi hj hij
  simp only [evsOf, List.getElem_mapIdx, mkEv]
  omega
/-- What is told of the events: they are those, sorted. -/
structure EvsIs (C : Cf) (r : List Ev) : Prop where
  len : r.length = C.sn
  mem : ∀ e ∈ r, e.check = 0 ∧ e.dst < C.ln ∧ e.k.at_ ≤ C.fin ∧ e.k.src = -1 ∧ e.k.sent = -1
  no : r.Pairwise fun a b => a.k.no ≠ b.k.no
  lt : r.Pairwise fun a b => a.k.lt b.k = true
theorem evsIs {C : Cf} {r : List Ev} (hok : C.Ok) (hss : C.ss.length = C.sn) (h1 : Asc r) (h2 : Alike (evsOf C.ss) r) (h3 : r.length = C.sn) : EvsIs C r := by
  have hno : r.Pairwise fun a b => a.k.no ≠ b.k.no := (alike_perm h2).pairwise (evsOf_no C.ss) (fun h => Ne.symm h)
  refine ⟨h3, fun e he => ?_, hno, ?_⟩
  · obtain ⟨i, s, hs, rfl⟩ := evsOf_mem (h2.mem.2 he)
    have hm := List.mem_of_getElem? hs
    have hi := (List.getElem?_eq_some_iff.1 hs).1
    have d := hok.dst s hm
    have t := hok.at_ s hm
    have := hok.sn
    have := hok.ln2
    have := hok.fin2
    refine ⟨check_0 ?_ ?_, d.2, t.2, rfl, rfl⟩
    · simp only [mkEv]; omega
    · simp only [mkEv]; omega
  · refine List.Pairwise.imp₂ (fun a b (h : b.k.lt a.k = false) (h' : a.k.no ≠ b.k.no) => ?_) h1 hno
    cases hl : a.k.lt b.k
    · exact absurd (congrArg Kv.no (lt_total hl h)) h'
    · rfl

set_option maxHeartbeats 1000000 in
theorem events_few {C : Cf} {w : World} (hO : Ops w) (hC : CfAt w C) (hf : fewC C = false) : Calls Tryd.prog 5 #[C.val] w (LawTrue w) := by
  have hF0 : Frm [] w (w.alloc (C.obj 26)) := (Frm.refl _ _).alloc _
  have hfe := few_any (hC.frm hF0)
  rw [hf] at hfe
  have HF0 := Lib.hid hF0
  have HO := Lib.hid hO
  have Hf := Lib.hid hfe
  clear hF0 hO hC hfe hf
  go_enter Tryd.func5, Tryd.ntmps5
  go_wp2_with fail
  refine Hf.out.mono ?_
  rintro e w1 ⟨rfl, hF⟩
  have HF1 := Lib.hid (HF0.out.trans (T := []) hF (by simp))
  clear hF
  go_wp2_with fail
  refine (awake_any (HO.out.frm HF1.out)).mono ?_
  rintro e w2 ⟨rfl, hF⟩
  have HF2 := Lib.hid (HF1.out.trans (T := []) hF (by simp))
  clear hF
  go_wp2_with fail
  go_ret
  exact ⟨rfl, HF2.out.below (Nat.le_refl _) (by simp)⟩
set_option maxHeartbeats 1000000 in
theorem events_bad {C : Cf} {w : World} (hO : Ops w) (hC : CfAt w C) (hf : fewC C = true) (hc : checkC C ≠ 0) : Calls Tryd.prog 5 #[C.val] w (LawTrue w) := by
  have hF0 : Frm [] w (w.alloc (C.obj 26)) := (Frm.refl _ _).alloc _
  have hb0 : (w.alloc (C.obj 26)).heap[w.heap.size]? = some (C.obj 26) := obj_new w _
  have hfe := few_any (hC.frm hF0)
  rw [hf] at hfe
  have HF0 := Lib.hid hF0
  have HB0 := Lib.hid hb0
  have HO := Lib.hid hO
  have HC := Lib.hid hC
  have Hf := Lib.hid hfe
  have Hc := Lib.hid hc
  have g1 : (checkC C == 0) = false := by rw [beq_eq_false_iff_ne]; exact hc
  have g2 : (checkC C != 0) = true := by rw [bne_iff_ne]; exact hc
  clear hF0 hb0 hO hC hfe hf hc
  go_enter Tryd.func5, Tryd.ntmps5
  go_wp2_with fail
  refine Hf.out.mono ?_
  rintro e w1 ⟨rfl, hF⟩
  have HF1 := Lib.hid (HF0.out.trans (T := []) hF (by simp))
  obtain ⟨c0, c1, c2, c3, c4, c5⟩ := cells6 (hF.obj HB0.out (by simp))
  clear hF
  go_wp2_with fail
  refine (new_bad (HO.out.frm HF1.out) (HC.out.frm HF1.out) Hc.out).mono ?_
  rintro e w2 ⟨rfl, hF⟩
  have HF2 := Lib.hid (HF1.out.trans (T := []) hF (by simp))
  clear hF c0 c1 c2 c3 c4 c5
  go_wp2_with fail
  refine (awake_any (HO.out.frm HF2.out)).mono ?_
  rintro e w3 ⟨rfl, hF⟩
  have HF3 := Lib.hid (HF2.out.trans (T := []) hF (by simp))
  clear hF
  go_wp2_with fail
  go_ret
  exact ⟨rfl, HF3.out.below (Nat.le_refl _) (by simp)⟩

/-- The events in memory, beside the model and the configuration's box. -/
structure EvHeld (C D : Cf) (r : List Ev) (n g c lo hi m b : Nat) (w w5 : World) (W : World) : Prop where
  frm : Frm [] w W
  evs : EvsAt W (some ⟨g, 0, none⟩) n c r
  mod : ModAt lo hi W m D
  obj : W.heap[b]? = some (C.obj 26)
theorem EvHeld.go {C D : Cf} {r : List Ev} {n g c lo hi m b : Nat} {w w5 W W' : World} (h : EvHeld C D r n g c lo hi m b w w5 W) (hf : Frm [] W W') : EvHeld C D r n g c lo hi m b w w5 W' :=
  ⟨h.frm.trans (T := []) hf (by simp), h.evs.frm hf, h.mod.frm0 hf, hf.obj h.obj (by simp)⟩
attribute [local go_sem high] id_guard in
set_option maxHeartbeats 8000000 in
set_option maxRecDepth 100000 in
theorem events_good {C : Cf} {w : World} (hO : Ops w) (hC : CfAt w C) (hN : CfNil C) (hf : fewC C = true) (hc : checkC C = 0) : Calls Tryd.prog 5 #[C.val] w (LawTrue w) := by
  have hF0 : Frm [] w (w.alloc (C.obj 26)) := (Frm.refl _ _).alloc _
  have hb0 : (w.alloc (C.obj 26)).heap[w.heap.size]? = some (C.obj 26) := obj_new w _
  have hfe := few_any (hC.frm hF0)
  rw [hf] at hfe
  have hok := okOf hc
  have HF0 := Lib.hid hF0
  have HB0 := Lib.hid hb0
  have HO := Lib.hid hO
  have HC := Lib.hid hC
  have HN := Lib.hid hN
  have Hf := Lib.hid hfe
  have Hc := Lib.hid hc
  have Hok := Lib.hid hok
  have hsn := hok.sn
  clear hF0 hb0 hO hC hN hfe hf hc hok
  go_enter Tryd.func5, Tryd.ntmps5
  go_wp2_with fail
  refine Hf.out.mono ?_
  rintro e w1 ⟨rfl, hF⟩
  have HF1 := Lib.hid (HF0.out.trans (T := []) hF (by simp))
  have HB1 := Lib.hid (hF.obj HB0.out (by simp))
  obtain ⟨c0, c1, c2, c3, c4, c5⟩ := cells6 HB1.out
  clear hF
  go_wp2_with fail
  refine (new_ok (HO.out.frm HF1.out) (HC.out.frm HF1.out) HN.out Hc.out).mono ?_
  rintro e w2 ⟨m, D, rfl, hM, hL, hF⟩
  have HF2 := Lib.hid (HF1.out.trans (T := []) hF (by simp))
  have HB2 := Lib.hid (hF.obj HB1.out (by simp))
  have HM2 := Lib.hid hM
  have hlo := hM.lo_
  have hhi := hM.hi_
  have he := events_in hM (by rw [hL.sn]; omega)
  rw [hL.sn, hL.ss] at he
  have He := Lib.hid he
  have HL := Lib.hid hL
  generalize w2.heap.size = hiB at *
  generalize w1.heap.size = lo at *
  clear hF hM he hL c0 c1 c2 c3 c4 c5 Hf
  go_wp2_with fail
  refine He.out.mono ?_
  rintro e w5 ⟨a, c, r, rfl, h1, h2, h3, hr, _, hF⟩
  have His := Lib.hid (evsIs Hok.out HC.out.ss.1 h1 h2 h3)
  have HF5 := Lib.hid (HF2.out.trans (T := []) hF (by simp))
  have HB5 := Lib.hid (hF.obj HB2.out (by simp))
  have HM5 := Lib.hid (HM2.out.frm0 hF)
  obtain ⟨n, hn⟩ : ∃ n : Nat, C.sn = n := ⟨_, rfl⟩
  rw [hn] at hr hsn ⊢
  have Hn := Lib.hid hn
  have Hr := Lib.hid hr
  clear h1 h2 h3 hr hF He HF2 HB2 HM2 hn
  by_cases hn0 : n = 0
  · subst hn0
    have h0 : r = [] := List.eq_nil_of_length_eq_zero (by rw [His.out.len, Hn.out])
    obtain ⟨d0, d1, d2, d3, d4, d5⟩ := cells6 HB5.out
    rw [Hn.out] at d2
    go_wp2_with fail
    go_loopw [6] (fun iv wr => iv = .int .i64 0 ∧ wr = w5) (fun _ _ => 0)
    case atStart => exact ⟨rfl, by first | rfl | trivial⟩
    case round =>
      obtain ⟨rfl, rfl⟩ := hrel
      go_wp2_with fail
      refine (awake_any (HO.out.frm HF5.out)).mono ?_
      rintro e w6 ⟨rfl, hF⟩
      have HF6 := Lib.hid (HF5.out.trans (T := []) hF (by simp))
      clear hF
      go_wp2_with fail
      go_ret
      exact ⟨rfl, HF6.out.below (Nat.le_refl _) (by simp)⟩
  · obtain ⟨g, rfl, hg, hcap⟩ := row_addr Hr.out (by omega)
    have hcm := (row_some Hr.out (by omega))
    have hh : EvHeld C D r n g c lo hiB m w.heap.size w w5 w5 := ⟨HF5.out, EvsAt.of_row Hr.out (His.out.len.trans Hn.out), HM5.out, HB5.out⟩
    have HH := Lib.hid hh
    clear hh hcm Hr HF5 HB5 HM5 hg
    go_wp2_with fail
    go_loopw [6] (fun iv wr => ∃ i : Nat, i ≤ n ∧ iv = .int .i64 (i : Int) ∧ EvHeld C D r n g c lo hiB m w.heap.size w w5 wr) (fun iv _ => n - (intOf iv).toNat)
    case atStart => exact ⟨0, Nat.zero_le _, rfl, HH.out⟩
    case round =>
      obtain ⟨i, hi, rfl, hh⟩ := hrel
      have HI := Lib.hid hh
      clear hh HH
      by_cases hlt : i < n
      · obtain ⟨b1, o1, x, he1, hb1, hx, p0, p1, p2, p3, p4, p5, p6⟩ := HI.out.evs.at_ hlt
        simp only [Option.some.injEq, Addr.mk.injEq, and_true] at he1
        obtain ⟨rfl, rfl⟩ := he1
        simp only [Nat.zero_add] at p0 p1 p2 p3 p4 p5 p6
        obtain ⟨m0, m1, m2, m3, m4, m5⟩ := cells6 HI.out.mod.obj
        have hxm := His.out.mem x (List.mem_of_getElem? hx)
        have Hk := Lib.hid (kcheck_any x)
        have hxc := hxm.1
        have gd1 : decide (x.dst ≥ (D.ln : Int)) = false := by rw [decide_eq_false_iff_not, HL.out.ln]; have := hxm.2.1; omega
        have gd2 : decide (x.k.at_ > D.fin) = false := by rw [decide_eq_false_iff_not, HL.out.fin]; have := hxm.2.2.1; omega
        have gd3 : decide (x.dst < (D.ln : Int)) = true := by rw [decide_eq_true_eq, HL.out.ln]; have := hxm.2.1; omega
        have gd4 : decide (D.fin < x.k.at_) = false := by rw [decide_eq_false_iff_not, HL.out.fin]; have := hxm.2.2.1; omega
        have gs1 : (x.k.src == -1) = true := by rw [beq_iff_eq]; exact hxm.2.2.2.1
        have gs2 : (x.k.sent == -1) = true := by rw [beq_iff_eq]; exact hxm.2.2.2.2
        have gs3 : (x.k.src != -1) = false := by simp [hxm.2.2.2.1]
        have gs4 : (x.k.sent != -1) = false := by simp [hxm.2.2.2.2]
        have Hx := Lib.hid hx
        clear hxm hx
        by_cases hi0 : i = 0
        · subst hi0
          simp only [Nat.zero_mul, Nat.zero_add] at p0 p1 p2 p3 p4 p5 p6
          have hs : ∀ W, Frm [] wr W → W.cell? ⟨g, 0, none⟩ = some (.int .i64 x.k.at_) ∧ W.cell? ⟨g, 1, none⟩ = some (.int .i64 x.k.src) ∧ W.cell? ⟨g, 2, none⟩ = some (.int .i64 x.k.sent) ∧ W.cell? ⟨g, 3, none⟩ = some (.int .i64 x.k.no) ∧ W.cell? ⟨g, 4, none⟩ = some (.int .i64 x.dst) ∧ W.cell? ⟨g, 5, none⟩ = some (.int .i64 x.kind) ∧ W.cell? ⟨g, 6, none⟩ = some (.int .i64 x.data) ∧ Frm [] wr W := fun W hW => ⟨hW.cell p0 (by simp), hW.cell p1 (by simp), hW.cell p2 (by simp), hW.cell p3 (by simp), hW.cell p4 (by simp), hW.cell p5 (by simp), hW.cell p6 (by simp), hW⟩
          have HS := Lib.hid hs
          have hg0 : g < wr.heap.size := by have := World.block_lt_of_cell? _ _ p0; exact this
          have gn : (0 : Int) < (n : Int) := by omega
          have gn' : 0 < n := by omega
          clear hs m0 m1 m2 m3 m4 m5 hi
          go_wp2_with fail
          refine wp_region_held_drew (S := (fun w' => w'.cell? ⟨g, 0, none⟩ = some (.int .i64 x.k.at_) ∧ w'.cell? ⟨g, 1, none⟩ = some (.int .i64 x.k.src) ∧ w'.cell? ⟨g, 2, none⟩ = some (.int .i64 x.k.sent) ∧ w'.cell? ⟨g, 3, none⟩ = some (.int .i64 x.k.no) ∧ w'.cell? ⟨g, 4, none⟩ = some (.int .i64 x.dst) ∧ w'.cell? ⟨g, 5, none⟩ = some (.int .i64 x.kind) ∧ w'.cell? ⟨g, 6, none⟩ = some (.int .i64 x.data) ∧ Frm [] wr w')) (by kernel_rfl) ?_ (fun hHeld => ?_)
          · exact HS.out _ (Frm.refl _ _).drew
          refine wpAnyH_take (i := 0) (oi := ⟨some 40, _, _, _, _, _⟩) (v := ?_) rfl (by kernel_rfl) (by kernel_rfl) (by kernel_rfl) (fun _ _ _ h => h) (Or.inl ⟨by rfl, ?_⟩) (by assumption) ?_
          rotate_left
          · (intro w hSw; (try dsimp only at hSw); go_simp; try with_reducible rfl)
          try simp only [Act.put, List.setIfInBounds_toArray, List.set_cons_zero, List.set_cons_succ]
          refine wpAnyH_take (i := 1) (oi := ⟨some 41, _, _, _, _, _⟩) (v := ?_) rfl (by kernel_rfl) (by kernel_rfl) (by kernel_rfl) (fun _ _ _ h => h) (Or.inl ⟨by rfl, ?_⟩) (by assumption) ?_
          rotate_left
          · (intro w hSw; (try dsimp only at hSw); go_simp; try with_reducible rfl)
          try simp only [Act.put, List.setIfInBounds_toArray, List.set_cons_zero, List.set_cons_succ]
          refine wpAnyH_take (i := 2) (oi := ⟨some 42, _, _, _, _, _⟩) (v := ?_) rfl (by kernel_rfl) (by kernel_rfl) (by kernel_rfl) (fun _ _ _ h => h) (Or.inl ⟨by rfl, ?_⟩) (by assumption) ?_
          rotate_left
          · (intro w hSw; (try dsimp only at hSw); go_simp; try with_reducible rfl)
          try simp only [Act.put, List.setIfInBounds_toArray, List.set_cons_zero, List.set_cons_succ]
          refine wpAnyH_take (i := 3) (oi := ⟨some 43, _, _, _, _, _⟩) (v := ?_) rfl (by kernel_rfl) (by kernel_rfl) (by kernel_rfl) (fun _ _ _ h => h) (Or.inl ⟨by rfl, ?_⟩) (by assumption) ?_
          rotate_left
          · (intro w hSw; (try dsimp only at hSw); go_simp; try with_reducible rfl)
          try simp only [Act.put, List.setIfInBounds_toArray, List.set_cons_zero, List.set_cons_succ]
          refine wpAnyH_ready (rs := [4]) (by kernel_rfl) (by simp) ?_
          refine AllReadyH.cons (o := ⟨some 44, _, _, _, _, _⟩) rfl (fun K hK => ?_) AllReadyH.nil
          go_simp
          refine (Hk.out _).mono ?_
          rintro e w6 ⟨rfl, hF⟩
          have hF6 : Frm [] wr w6 := (Frm.refl _ _).drew.trans (T := []) hF (by simp)
          have H6 := Lib.hid hF6
          refine hK.out _ _ (HS.out _ hF6) (fun hw6 => ?_)
          clear hK K hF hF6 hHeld
          try simp only [Act.put, List.setIfInBounds_toArray, List.set_cons_zero, List.set_cons_succ]
          refine wpAnyH_take (i := 5) (oi := ⟨some 45, _, _, _, _, _⟩) (v := ?_) rfl (by kernel_rfl) (by kernel_rfl) (by kernel_rfl) (fun _ _ _ h => h) (Or.inl ⟨by rfl, ?_⟩) (by assumption) ?_
          rotate_left
          · (intro w hSw; (try dsimp only at hSw); go_simp; try with_reducible rfl)
          try simp only [Act.put, List.setIfInBounds_toArray, List.set_cons_zero, List.set_cons_succ]
          refine wpAnyH_take (i := 6) (oi := ⟨some 46, _, _, _, _, _⟩) (v := ?_) rfl (by kernel_rfl) (by kernel_rfl) (by kernel_rfl) (fun _ _ _ h => h) (Or.inl ⟨by rfl, ?_⟩) (by assumption) ?_
          rotate_left
          · (intro w hSw; (try dsimp only at hSw); go_simp; try with_reducible rfl)
          try simp only [Act.put, List.setIfInBounds_toArray, List.set_cons_zero, List.set_cons_succ]
          refine wpAnyH_take (i := 7) (oi := ⟨some 47, _, _, _, _, _⟩) (v := ?_) rfl (by kernel_rfl) (by kernel_rfl) (by kernel_rfl) (fun _ _ _ h => h) (Or.inl ⟨by rfl, ?_⟩) (by assumption) ?_
          rotate_left
          · (intro w hSw; (try dsimp only at hSw); go_simp; try with_reducible rfl)
          try simp only [Act.put, List.setIfInBounds_toArray, List.set_cons_zero, List.set_cons_succ]
          refine wpAnyH_take (i := 8) (oi := ⟨some 48, _, _, _, _, _⟩) (v := ?_) rfl (by kernel_rfl) (by kernel_rfl) (by kernel_rfl) (fun _ _ _ h => h) (Or.inl ⟨by rfl, ?_⟩) (by assumption) ?_
          rotate_left
          · (intro w hSw; (try dsimp only at hSw); go_simp; try with_reducible rfl)
          try simp only [Act.put, List.setIfInBounds_toArray, List.set_cons_zero, List.set_cons_succ]
          refine wpAnyH_take (i := 9) (oi := ⟨some 49, _, _, _, _, _⟩) (v := ?_) rfl (by kernel_rfl) (by kernel_rfl) (by kernel_rfl) (fun _ _ _ h => h) (Or.inl ⟨by rfl, ?_⟩) (by assumption) ?_
          rotate_left
          · (intro w hSw; (try dsimp only at hSw); go_simp; try with_reducible rfl)
          try simp only [Act.put, List.setIfInBounds_toArray, List.set_cons_zero, List.set_cons_succ]
          refine wpAnyH_take (i := 10) (oi := ⟨some 50, _, _, _, _, _⟩) (v := ?_) rfl (by kernel_rfl) (by kernel_rfl) (by kernel_rfl) (fun _ _ _ h => h) (Or.inl ⟨by rfl, ?_⟩) (by assumption) ?_
          rotate_left
          · (intro w hSw; (try dsimp only at hSw); go_simp; try with_reducible rfl)
          try simp only [Act.put, List.setIfInBounds_toArray, List.set_cons_zero, List.set_cons_succ]
          refine wpAnyH_take (i := 11) (oi := ⟨some 51, _, _, _, _, _⟩) (v := ?_) rfl (by kernel_rfl) (by kernel_rfl) (by kernel_rfl) (fun _ _ _ h => h) (Or.inl ⟨by rfl, ?_⟩) (by assumption) ?_
          rotate_left
          · (intro w hSw; (try dsimp only at hSw); go_simp; try with_reducible rfl)
          try simp only [Act.put, List.setIfInBounds_toArray, List.set_cons_zero, List.set_cons_succ]
          refine wpAnyH_take (i := 12) (oi := ⟨some 52, _, _, _, _, _⟩) (v := ?_) rfl (by kernel_rfl) (by kernel_rfl) (by kernel_rfl) (fun _ _ _ h => h) (Or.inl ⟨by rfl, ?_⟩) (by assumption) ?_
          rotate_left
          · (intro w hSw; (try dsimp only at hSw); go_simp; try with_reducible rfl)
          try simp only [Act.put, List.setIfInBounds_toArray, List.set_cons_zero, List.set_cons_succ]
          refine wpAnyH_ready (rs := [13]) (by kernel_rfl) (by simp) ?_
          refine AllReadyH.cons (o := ⟨some 53, _, _, _, _, _⟩) rfl (fun K hK => ?_) AllReadyH.nil
          go_simp
          refine (lps_any (HI.out.mod.frm0 H6.out)).mono ?_
          rintro e w7 ⟨rfl, h7⟩
          obtain rfl := h7
          refine hK.out _ _ hw6 (fun hw7 => ?_)
          clear hK K
          try simp only [Act.put, List.setIfInBounds_toArray, List.set_cons_zero, List.set_cons_succ]
          refine wpAnyH_take (i := 14) (oi := ⟨some 54, _, _, _, _, _⟩) (v := ?_) rfl (by kernel_rfl) (by kernel_rfl) (by kernel_rfl) (fun _ _ _ h => h) (Or.inl ⟨by rfl, ?_⟩) (by assumption) ?_
          rotate_left
          · (intro w hSw; (try dsimp only at hSw); go_simp; try with_reducible rfl)
          try simp only [Act.put, List.setIfInBounds_toArray, List.set_cons_zero, List.set_cons_succ]
          refine wpAnyH_take (i := 15) (oi := ⟨some 55, _, _, _, _, _⟩) (v := ?_) rfl (by kernel_rfl) (by kernel_rfl) (by kernel_rfl) (fun _ _ _ h => h) (Or.inl ⟨by rfl, ?_⟩) (by assumption) ?_
          rotate_left
          · (intro w hSw; (try dsimp only at hSw); go_simp; try with_reducible rfl)
          try simp only [Act.put, List.setIfInBounds_toArray, List.set_cons_zero, List.set_cons_succ]
          refine wpAnyH_take (i := 16) (oi := ⟨some 56, _, _, _, _, _⟩) (v := ?_) rfl (by kernel_rfl) (by kernel_rfl) (by kernel_rfl) (fun _ _ _ h => h) (Or.inl ⟨by rfl, ?_⟩) (by assumption) ?_
          rotate_left
          · (intro w hSw; (try dsimp only at hSw); go_simp; try with_reducible rfl)
          try simp only [Act.put, List.setIfInBounds_toArray, List.set_cons_zero, List.set_cons_succ]
          refine wpAnyH_take (i := 17) (oi := ⟨some 57, _, _, _, _, _⟩) (v := ?_) rfl (by kernel_rfl) (by kernel_rfl) (by kernel_rfl) (fun _ _ _ h => h) (Or.inl ⟨by rfl, ?_⟩) (by assumption) ?_
          rotate_left
          · (intro w hSw; (try dsimp only at hSw); go_simp; try with_reducible rfl)
          try simp only [Act.put, List.setIfInBounds_toArray, List.set_cons_zero, List.set_cons_succ]
          refine wpAnyH_take (i := 18) (oi := ⟨some 58, _, _, _, _, _⟩) (v := ?_) rfl (by kernel_rfl) (by kernel_rfl) (by kernel_rfl) (fun _ _ _ h => h) (Or.inl ⟨by rfl, ?_⟩) (by assumption) ?_
          rotate_left
          · (intro w hSw; (try dsimp only at hSw); go_simp; try with_reducible rfl)
          try simp only [Act.put, List.setIfInBounds_toArray, List.set_cons_zero, List.set_cons_succ]
          refine wpAnyH_take (i := 19) (oi := ⟨some 59, _, _, _, _, _⟩) (v := ?_) rfl (by kernel_rfl) (by kernel_rfl) (by kernel_rfl) (fun _ _ _ h => h) (Or.inl ⟨by rfl, ?_⟩) (by assumption) ?_
          rotate_left
          · (intro w hSw; (try dsimp only at hSw); go_simp; try with_reducible rfl)
          try simp only [Act.put, List.setIfInBounds_toArray, List.set_cons_zero, List.set_cons_succ]
          refine wpAnyH_take (i := 20) (oi := ⟨some 60, _, _, _, _, _⟩) (v := ?_) rfl (by kernel_rfl) (by kernel_rfl) (by kernel_rfl) (fun _ _ _ h => h) (Or.inl ⟨by rfl, ?_⟩) (by assumption) ?_
          rotate_left
          · (intro w hSw; (try dsimp only at hSw); go_simp; try with_reducible rfl)
          try simp only [Act.put, List.setIfInBounds_toArray, List.set_cons_zero, List.set_cons_succ]
          refine wpAnyH_take (i := 21) (oi := ⟨some 61, _, _, _, _, _⟩) (v := ?_) rfl (by kernel_rfl) (by kernel_rfl) (by kernel_rfl) (fun _ _ _ h => h) (Or.inl ⟨by rfl, ?_⟩) (by assumption) ?_
          rotate_left
          · (intro w hSw; (try dsimp only at hSw); go_simp; try with_reducible rfl)
          try simp only [Act.put, List.setIfInBounds_toArray, List.set_cons_zero, List.set_cons_succ]
          refine wpAnyH_take (i := 22) (oi := ⟨some 62, _, _, _, _, _⟩) (v := ?_) rfl (by kernel_rfl) (by kernel_rfl) (by kernel_rfl) (fun _ _ _ h => h) (Or.inl ⟨by rfl, ?_⟩) (by assumption) ?_
          rotate_left
          · (intro w hSw; (try dsimp only at hSw); go_simp; try with_reducible rfl)
          try simp only [Act.put, List.setIfInBounds_toArray, List.set_cons_zero, List.set_cons_succ]
          refine wpAnyH_take (i := 23) (oi := ⟨some 63, _, _, _, _, _⟩) (v := ?_) rfl (by kernel_rfl) (by kernel_rfl) (by kernel_rfl) (fun _ _ _ h => h) (Or.inl ⟨by rfl, ?_⟩) (by assumption) ?_
          rotate_left
          · (intro w hSw; (try dsimp only at hSw); go_simp; try with_reducible rfl)
          try simp only [Act.put, List.setIfInBounds_toArray, List.set_cons_zero, List.set_cons_succ]
          refine wpAnyH_ready (rs := [24]) (by kernel_rfl) (by simp) ?_
          refine AllReadyH.cons (o := ⟨some 64, _, _, _, _, _⟩) rfl (fun K hK => ?_) AllReadyH.nil
          go_simp
          refine (end_any (HI.out.mod.frm0 H6.out)).mono ?_
          rintro e w8 ⟨rfl, h8⟩
          obtain rfl := h8
          refine hK.out _ _ hw6 (fun hw8 => ?_)
          clear hK K
          try simp only [Act.put, List.setIfInBounds_toArray, List.set_cons_zero, List.set_cons_succ]
          refine wpAnyH_take (i := 25) (oi := ⟨some 65, _, _, _, _, _⟩) (v := ?_) rfl (by kernel_rfl) (by kernel_rfl) (by kernel_rfl) (fun _ _ _ h => h) (Or.inl ⟨by rfl, ?_⟩) (by assumption) ?_
          rotate_left
          · (intro w hSw; (try dsimp only at hSw); go_simp; try with_reducible rfl)
          try simp only [Act.put, List.setIfInBounds_toArray, List.set_cons_zero, List.set_cons_succ]
          refine wpAnyH_take (i := 26) (oi := ⟨some 66, _, _, _, _, _⟩) (v := ?_) rfl (by kernel_rfl) (by kernel_rfl) (by kernel_rfl) (fun _ _ _ h => h) (Or.inl ⟨by rfl, ?_⟩) (by assumption) ?_
          rotate_left
          · (intro w hSw; (try dsimp only at hSw); go_simp; try with_reducible rfl)
          try simp only [Act.put, List.setIfInBounds_toArray, List.set_cons_zero, List.set_cons_succ]
          refine wpAnyH_take (i := 27) (oi := ⟨some 67, _, _, _, _, _⟩) (v := ?_) rfl (by kernel_rfl) (by kernel_rfl) (by kernel_rfl) (fun _ _ _ h => h) (Or.inl ⟨by rfl, ?_⟩) (by assumption) ?_
          rotate_left
          · (intro w hSw; (try dsimp only at hSw); go_simp; try with_reducible rfl)
          try simp only [Act.put, List.setIfInBounds_toArray, List.set_cons_zero, List.set_cons_succ]
          refine wpAnyH_take (i := 28) (oi := ⟨some 68, _, _, _, _, _⟩) (v := ?_) rfl (by kernel_rfl) (by kernel_rfl) (by kernel_rfl) (fun _ _ _ h => h) (Or.inl ⟨by rfl, ?_⟩) (by assumption) ?_
          rotate_left
          · (intro w hSw; (try dsimp only at hSw); go_simp; try with_reducible rfl)
          try simp only [Act.put, List.setIfInBounds_toArray, List.set_cons_zero, List.set_cons_succ]
          refine wpAnyH_take (i := 29) (oi := ⟨some 69, _, _, _, _, _⟩) (v := ?_) rfl (by kernel_rfl) (by kernel_rfl) (by kernel_rfl) (fun _ _ _ h => h) (Or.inl ⟨by rfl, ?_⟩) (by assumption) ?_
          rotate_left
          · (intro w hSw; (try dsimp only at hSw); go_simp; try with_reducible rfl)
          try simp only [Act.put, List.setIfInBounds_toArray, List.set_cons_zero, List.set_cons_succ]
          refine wpAnyH_take (i := 30) (oi := ⟨some 70, _, _, _, _, _⟩) (v := ?_) rfl (by kernel_rfl) (by kernel_rfl) (by kernel_rfl) (fun _ _ _ h => h) (Or.inl ⟨by rfl, ?_⟩) (by assumption) ?_
          rotate_left
          · (intro w hSw; (try dsimp only at hSw); go_simp; try with_reducible rfl)
          try simp only [Act.put, List.setIfInBounds_toArray, List.set_cons_zero, List.set_cons_succ]
          refine wpAnyH_take (i := 31) (oi := ⟨some 71, _, _, _, _, _⟩) (v := ?_) rfl (by kernel_rfl) (by kernel_rfl) (by kernel_rfl) (fun _ _ _ h => h) (Or.inl ⟨by rfl, ?_⟩) (by assumption) ?_
          rotate_left
          · (intro w hSw; (try dsimp only at hSw); go_simp; try with_reducible rfl)
          try simp only [Act.put, List.setIfInBounds_toArray, List.set_cons_zero, List.set_cons_succ]
          refine wpAnyH_take (i := 32) (oi := ⟨some 72, _, _, _, _, _⟩) (v := ?_) rfl (by kernel_rfl) (by kernel_rfl) (by kernel_rfl) (fun _ _ _ h => h) (Or.inl ⟨by rfl, ?_⟩) (by assumption) ?_
          rotate_left
          · (intro w hSw; (try dsimp only at hSw); go_simp; try with_reducible rfl)
          try simp only [Act.put, List.setIfInBounds_toArray, List.set_cons_zero, List.set_cons_succ]
          refine wpAnyH_take (i := 33) (oi := ⟨some 73, _, _, _, _, _⟩) (v := ?_) rfl (by kernel_rfl) (by kernel_rfl) (by kernel_rfl) (fun _ _ _ h => h) (Or.inl ⟨by rfl, ?_⟩) (by assumption) ?_
          rotate_left
          · (intro w hSw; (try dsimp only at hSw); go_simp; try with_reducible rfl)
          try simp only [Act.put, List.setIfInBounds_toArray, List.set_cons_zero, List.set_cons_succ]
          refine wpAnyH_take (i := 34) (oi := ⟨some 74, _, _, _, _, _⟩) (v := ?_) rfl (by kernel_rfl) (by kernel_rfl) (by kernel_rfl) (fun _ _ _ h => h) (Or.inl ⟨by rfl, ?_⟩) (by assumption) ?_
          rotate_left
          · (intro w hSw; (try dsimp only at hSw); go_simp; try with_reducible rfl)
          try simp only [Act.put, List.setIfInBounds_toArray, List.set_cons_zero, List.set_cons_succ]
          refine wpAnyH_take (i := 35) (oi := ⟨some 75, _, _, _, _, _⟩) (v := ?_) rfl (by kernel_rfl) (by kernel_rfl) (by kernel_rfl) (fun _ _ _ h => h) (Or.inl ⟨by rfl, ?_⟩) (by assumption) ?_
          rotate_left
          · (intro w hSw; (try dsimp only at hSw); go_simp; try with_reducible rfl)
          try simp only [Act.put, List.setIfInBounds_toArray, List.set_cons_zero, List.set_cons_succ]
          refine wpAnyH_take (i := 36) (oi := ⟨some 76, _, _, _, _, _⟩) (v := ?_) rfl (by kernel_rfl) (by kernel_rfl) (by kernel_rfl) (fun _ _ _ h => h) (Or.inl ⟨by rfl, ?_⟩) (by assumption) ?_
          rotate_left
          · (intro w hSw; (try dsimp only at hSw); go_simp; try with_reducible rfl)
          try simp only [Act.put, List.setIfInBounds_toArray, List.set_cons_zero, List.set_cons_succ]
          refine wpAnyH_take (i := 37) (oi := ⟨some 77, _, _, _, _, _⟩) (v := ?_) rfl (by kernel_rfl) (by kernel_rfl) (by kernel_rfl) (fun _ _ _ h => h) (Or.inl ⟨by rfl, ?_⟩) (by assumption) ?_
          rotate_left
          · (intro w hSw; (try dsimp only at hSw); go_simp; try with_reducible rfl)
          try simp only [Act.put, List.setIfInBounds_toArray, List.set_cons_zero, List.set_cons_succ]
          refine wpAnyH_take (i := 38) (oi := ⟨some 78, _, _, _, _, _⟩) (v := ?_) rfl (by kernel_rfl) (by kernel_rfl) (by kernel_rfl) (fun _ _ _ h => h) (Or.inl ⟨by rfl, ?_⟩) (by assumption) ?_
          rotate_left
          · (intro w hSw; (try dsimp only at hSw); go_simp; try with_reducible rfl)
          try simp only [Act.put, List.setIfInBounds_toArray, List.set_cons_zero, List.set_cons_succ]
          refine wpAnyH_take (i := 39) (oi := ⟨some 79, _, _, _, _, _⟩) (v := ?_) rfl (by kernel_rfl) (by kernel_rfl) (by kernel_rfl) (fun _ _ _ h => h) (Or.inl ⟨by rfl, ?_⟩) (by assumption) ?_
          rotate_left
          · (intro w hSw; (try dsimp only at hSw); go_simp; try with_reducible rfl)
          try simp only [Act.put, List.setIfInBounds_toArray, List.set_cons_zero, List.set_cons_succ]
          refine wpAnyH_take (i := 40) (oi := ⟨some 80, _, _, _, _, _⟩) (v := ?_) rfl (by kernel_rfl) (by kernel_rfl) (by kernel_rfl) (fun _ _ _ h => h) (Or.inl ⟨by rfl, ?_⟩) (by assumption) ?_
          rotate_left
          · (intro w hSw; (try dsimp only at hSw); go_simp; try with_reducible rfl)
          try simp only [Act.put, List.setIfInBounds_toArray, List.set_cons_zero, List.set_cons_succ]
          refine wpAnyH_take (i := 41) (oi := ⟨some 81, _, _, _, _, _⟩) (v := ?_) rfl (by kernel_rfl) (by kernel_rfl) (by kernel_rfl) (fun _ _ _ h => h) (Or.inl ⟨by rfl, ?_⟩) (by assumption) ?_
          rotate_left
          · (intro w hSw; (try dsimp only at hSw); go_simp; try with_reducible rfl)
          try simp only [Act.put, List.setIfInBounds_toArray, List.set_cons_zero, List.set_cons_succ]
          refine wpAnyH_take (i := 42) (oi := ⟨some 82, _, _, _, _, _⟩) (v := ?_) rfl (by kernel_rfl) (by kernel_rfl) (by kernel_rfl) (fun _ _ _ h => h) (Or.inl ⟨by rfl, ?_⟩) (by assumption) ?_
          rotate_left
          · (intro w hSw; (try dsimp only at hSw); go_simp; try with_reducible rfl)
          try simp only [Act.put, List.setIfInBounds_toArray, List.set_cons_zero, List.set_cons_succ]
          refine wpAnyH_take (i := 43) (oi := ⟨some 83, _, _, _, _, _⟩) (v := ?_) rfl (by kernel_rfl) (by kernel_rfl) (by kernel_rfl) (fun _ _ _ h => h) (Or.inl ⟨by rfl, ?_⟩) (by assumption) ?_
          rotate_left
          · (intro w hSw; (try dsimp only at hSw); go_simp; try with_reducible rfl)
          try simp only [Act.put, List.setIfInBounds_toArray, List.set_cons_zero, List.set_cons_succ]
          refine wpAnyH_take (i := 44) (oi := ⟨some 84, _, _, _, _, _⟩) (v := ?_) rfl (by kernel_rfl) (by kernel_rfl) (by kernel_rfl) (fun _ _ _ h => h) (Or.inl ⟨by rfl, ?_⟩) (by assumption) ?_
          rotate_left
          · (intro w hSw; (try dsimp only at hSw); go_simp; try with_reducible rfl)
          try simp only [Act.put, List.setIfInBounds_toArray, List.set_cons_zero, List.set_cons_succ]
          refine wpAnyH_take (i := 45) (oi := ⟨some 85, _, _, _, _, _⟩) (v := ?_) rfl (by kernel_rfl) (by kernel_rfl) (by kernel_rfl) (fun _ _ _ h => h) (Or.inl ⟨by rfl, ?_⟩) (by assumption) ?_
          rotate_left
          · (intro w hSw; (try dsimp only at hSw); go_simp; try with_reducible rfl)
          try simp only [Act.put, List.setIfInBounds_toArray, List.set_cons_zero, List.set_cons_succ]
          refine wpAnyH_take (i := 46) (oi := ⟨some 86, _, _, _, _, _⟩) (v := ?_) rfl (by kernel_rfl) (by kernel_rfl) (by kernel_rfl) (fun _ _ _ h => h) (Or.inl ⟨by rfl, ?_⟩) (by assumption) ?_
          rotate_left
          · (intro w hSw; (try dsimp only at hSw); go_simp; try with_reducible rfl)
          try simp only [Act.put, List.setIfInBounds_toArray, List.set_cons_zero, List.set_cons_succ]
          refine wpAnyH_take (i := 47) (oi := ⟨some 87, _, _, _, _, _⟩) (v := ?_) rfl (by kernel_rfl) (by kernel_rfl) (by kernel_rfl) (fun _ _ _ h => h) (Or.inl ⟨by rfl, ?_⟩) (by assumption) ?_
          rotate_left
          · (intro w hSw; (try dsimp only at hSw); go_simp; try with_reducible rfl)
          try simp only [Act.put, List.setIfInBounds_toArray, List.set_cons_zero, List.set_cons_succ]
          refine wpAnyH_take (i := 48) (oi := ⟨some 88, _, _, _, _, _⟩) (v := ?_) rfl (by kernel_rfl) (by kernel_rfl) (by kernel_rfl) (fun _ _ _ h => h) (Or.inl ⟨by rfl, ?_⟩) (by assumption) ?_
          rotate_left
          · (intro w hSw; (try dsimp only at hSw); go_simp; try with_reducible rfl)
          try simp only [Act.put, List.setIfInBounds_toArray, List.set_cons_zero, List.set_cons_succ]
          refine wpAnyH_take (i := 49) (oi := ⟨some 89, _, _, _, _, _⟩) (v := undef) rfl (by kernel_rfl) (by kernel_rfl) (by kernel_rfl) (fun _ _ _ h => h) (Or.inr ⟨by rfl, rfl⟩) (by assumption) ?_
          try simp only [Act.put, List.setIfInBounds_toArray, List.set_cons_zero, List.set_cons_succ]
          refine wpAnyH_take (i := 50) (oi := ⟨some 90, _, _, _, _, _⟩) (v := undef) rfl (by kernel_rfl) (by kernel_rfl) (by kernel_rfl) (fun _ _ _ h => h) (Or.inr ⟨by rfl, rfl⟩) (by assumption) ?_
          try simp only [Act.put, List.setIfInBounds_toArray, List.set_cons_zero, List.set_cons_succ]
          refine wpAnyH_take (i := 51) (oi := ⟨some 91, _, _, _, _, _⟩) (v := undef) rfl (by kernel_rfl) (by kernel_rfl) (by kernel_rfl) (fun _ _ _ h => h) (Or.inr ⟨by rfl, rfl⟩) (by assumption) ?_
          try simp only [Act.put, List.setIfInBounds_toArray, List.set_cons_zero, List.set_cons_succ]
          refine wpAnyH_take (i := 52) (oi := ⟨some 92, _, _, _, _, _⟩) (v := undef) rfl (by kernel_rfl) (by kernel_rfl) (by kernel_rfl) (fun _ _ _ h => h) (Or.inr ⟨by rfl, rfl⟩) (by assumption) ?_
          try simp only [Act.put, List.setIfInBounds_toArray, List.set_cons_zero, List.set_cons_succ]
          refine wpAnyH_take (i := 53) (oi := ⟨some 93, _, _, _, _, _⟩) (v := undef) rfl (by kernel_rfl) (by kernel_rfl) (by kernel_rfl) (fun _ _ _ h => h) (Or.inr ⟨by rfl, rfl⟩) (by assumption) ?_
          try simp only [Act.put, List.setIfInBounds_toArray, List.set_cons_zero, List.set_cons_succ]
          refine wpAnyH_take (i := 54) (oi := ⟨some 94, _, _, _, _, _⟩) (v := undef) rfl (by kernel_rfl) (by kernel_rfl) (by kernel_rfl) (fun _ _ _ h => h) (Or.inr ⟨by rfl, rfl⟩) (by assumption) ?_
          try simp only [Act.put, List.setIfInBounds_toArray, List.set_cons_zero, List.set_cons_succ]
          refine wpAnyH_take (i := 55) (oi := ⟨some 95, _, _, _, _, _⟩) (v := undef) rfl (by kernel_rfl) (by kernel_rfl) (by kernel_rfl) (fun _ _ _ h => h) (Or.inr ⟨by rfl, rfl⟩) (by assumption) ?_
          try simp only [Act.put, List.setIfInBounds_toArray, List.set_cons_zero, List.set_cons_succ]
          refine wpAnyH_take (i := 56) (oi := ⟨some 96, _, _, _, _, _⟩) (v := undef) rfl (by kernel_rfl) (by kernel_rfl) (by kernel_rfl) (fun _ _ _ h => h) (Or.inr ⟨by rfl, rfl⟩) (by assumption) ?_
          try simp only [Act.put, List.setIfInBounds_toArray, List.set_cons_zero, List.set_cons_succ]
          refine wpAnyH_take (i := 57) (oi := ⟨some 97, _, _, _, _, _⟩) (v := undef) rfl (by kernel_rfl) (by kernel_rfl) (by kernel_rfl) (fun _ _ _ h => h) (Or.inr ⟨by rfl, rfl⟩) (by assumption) ?_
          try simp only [Act.put, List.setIfInBounds_toArray, List.set_cons_zero, List.set_cons_succ]
          refine wpAnyH_take (i := 58) (oi := ⟨some 98, _, _, _, _, _⟩) (v := undef) rfl (by kernel_rfl) (by kernel_rfl) (by kernel_rfl) (fun _ _ _ h => h) (Or.inr ⟨by rfl, rfl⟩) (by assumption) ?_
          try simp only [Act.put, List.setIfInBounds_toArray, List.set_cons_zero, List.set_cons_succ]
          refine wpAnyH_take (i := 59) (oi := ⟨some 99, _, _, _, _, _⟩) (v := undef) rfl (by kernel_rfl) (by kernel_rfl) (by kernel_rfl) (fun _ _ _ h => h) (Or.inr ⟨by rfl, rfl⟩) (by assumption) ?_
          try simp only [Act.put, List.setIfInBounds_toArray, List.set_cons_zero, List.set_cons_succ]
          refine wpAnyH_take (i := 60) (oi := ⟨some 100, _, _, _, _, _⟩) (v := undef) rfl (by kernel_rfl) (by kernel_rfl) (by kernel_rfl) (fun _ _ _ h => h) (Or.inr ⟨by rfl, rfl⟩) (by assumption) ?_
          try simp only [Act.put, List.setIfInBounds_toArray, List.set_cons_zero, List.set_cons_succ]
          refine wpAnyH_take (i := 61) (oi := ⟨some 101, _, _, _, _, _⟩) (v := undef) rfl (by kernel_rfl) (by kernel_rfl) (by kernel_rfl) (fun _ _ _ h => h) (Or.inr ⟨by rfl, rfl⟩) (by assumption) ?_
          try simp only [Act.put, List.setIfInBounds_toArray, List.set_cons_zero, List.set_cons_succ]
          refine wpAnyH_take (i := 62) (oi := ⟨some 102, _, _, _, _, _⟩) (v := ?_) rfl (by kernel_rfl) (by kernel_rfl) (by kernel_rfl) (fun _ _ _ h => h) (Or.inl ⟨by rfl, ?_⟩) (by assumption) ?_
          rotate_left
          · (intro w hSw; (try dsimp only at hSw); go_simp; try with_reducible rfl)
          try simp only [Act.put, List.setIfInBounds_toArray, List.set_cons_zero, List.set_cons_succ]
          refine wpAnyH_take (i := 63) (oi := ⟨some 103, _, _, _, _, _⟩) (v := ?_) rfl (by kernel_rfl) (by kernel_rfl) (by kernel_rfl) (fun _ _ _ h => h) (Or.inl ⟨by rfl, ?_⟩) (by assumption) ?_
          rotate_left
          · (intro w hSw; (try dsimp only at hSw); go_simp; try with_reducible rfl)
          try simp only [Act.put, List.setIfInBounds_toArray, List.set_cons_zero, List.set_cons_succ]
          refine wpAnyH_done (by kernel_rfl) ?_ _
          clear hw6 hw7 hw8
          have H7 := Lib.hid (HI.out.go H6.out)
          clear HS H6 HI
          go_wp2_with fail
          go_loopw [7] (fun iv wr' => iv = .int .i64 0 ∧ EvHeld C D r n g c lo hiB m w.heap.size w w5 wr') (fun _ _ => 0)
          case atStart => exact ⟨rfl, H7.out⟩
          case round =>
            obtain ⟨rfl, h9⟩ := hrel
            have H9 := Lib.hid h9
            clear h9
            go_wp2_with fail
            go_roundw
            case rel => exact ⟨1, by omega, rfl, H9.out⟩
            case measure => simp [intOf]; omega
        · obtain ⟨q, hiq⟩ : ∃ j, i = j + 1 := ⟨i - 1, by omega⟩
          have hqn : q < n := by omega
          obtain ⟨b2, o2, y, he2, hb2, hy, s0, s1, s2, s3, s4, s5, s6⟩ := HI.out.evs.at_ hqn
          simp only [Option.some.injEq, Addr.mk.injEq, and_true] at he2
          obtain ⟨rfl, rfl⟩ := he2
          simp only [Nat.zero_add] at s0 s1 s2 s3 s4 s5 s6
          have hs : ∀ W, Frm [] wr W → W.cell? ⟨g, i * 7, none⟩ = some (.int .i64 x.k.at_) ∧ W.cell? ⟨g, i * 7 + 1, none⟩ = some (.int .i64 x.k.src) ∧ W.cell? ⟨g, i * 7 + 2, none⟩ = some (.int .i64 x.k.sent) ∧ W.cell? ⟨g, i * 7 + 3, none⟩ = some (.int .i64 x.k.no) ∧ W.cell? ⟨g, i * 7 + 4, none⟩ = some (.int .i64 x.dst) ∧ W.cell? ⟨g, i * 7 + 5, none⟩ = some (.int .i64 x.kind) ∧ W.cell? ⟨g, i * 7 + 6, none⟩ = some (.int .i64 x.data) ∧ W.cell? ⟨g, q * 7, none⟩ = some (.int .i64 y.k.at_) ∧ W.cell? ⟨g, q * 7 + 1, none⟩ = some (.int .i64 y.k.src) ∧ W.cell? ⟨g, q * 7 + 2, none⟩ = some (.int .i64 y.k.sent) ∧ W.cell? ⟨g, q * 7 + 3, none⟩ = some (.int .i64 y.k.no) ∧ W.cell? ⟨g, q * 7 + 4, none⟩ = some (.int .i64 y.dst) ∧ W.cell? ⟨g, q * 7 + 5, none⟩ = some (.int .i64 y.kind) ∧ W.cell? ⟨g, q * 7 + 6, none⟩ = some (.int .i64 y.data) ∧ Frm [] wr W := fun W hW => ⟨hW.cell p0 (by simp), hW.cell p1 (by simp), hW.cell p2 (by simp), hW.cell p3 (by simp), hW.cell p4 (by simp), hW.cell p5 (by simp), hW.cell p6 (by simp), hW.cell s0 (by simp), hW.cell s1 (by simp), hW.cell s2 (by simp), hW.cell s3 (by simp), hW.cell s4 (by simp), hW.cell s5 (by simp), hW.cell s6 (by simp), hW⟩
          have HS := Lib.hid hs
          have hylt : y.k.lt x.k = true := (List.pairwise_iff_getElem.1 His.out.lt q i (by rw [His.out.len, Hn.out]; exact hqn) (by rw [His.out.len, Hn.out]; exact hlt) (by omega)) |> fun h => by
            rw [(List.getElem?_eq_some_iff.1 hy).2, (List.getElem?_eq_some_iff.1 Hx.out).2] at h
            exact h
          have hc := compare_any y.k x.k
          rw [cmp_lt hylt] at hc
          have Hc := Lib.hid hc
          have gz : decide ((i : Int) > 0) = true := by rw [decide_eq_true_eq]; omega
          have gz' : decide (0 < i) = true := by rw [decide_eq_true_eq]; omega
          have gs : (i : Int) - 1 = (q : Int) := by omega
          have gw : IntKind.i64.wrap (q : Int) = (q : Int) := IntWalk.i64_in _ (by omega)
          have gb : (0 : Int) ≤ (q : Int) := by omega
          have gb2 : (q : Int) < (n : Int) := by omega
          have gb3 : (0 : Int) ≤ (i : Int) := by omega
          have gb4 : (i : Int) < (n : Int) := by omega
          have Hiq := Lib.hid hiq
          clear hs hylt hc hiq hi0 hy m0 m1 m2 m3 m4 m5
          go_wp2_with fail
          go_region_held3 (fun w' => w'.cell? ⟨g, i * 7, none⟩ = some (.int .i64 x.k.at_) ∧ w'.cell? ⟨g, i * 7 + 1, none⟩ = some (.int .i64 x.k.src) ∧ w'.cell? ⟨g, i * 7 + 2, none⟩ = some (.int .i64 x.k.sent) ∧ w'.cell? ⟨g, i * 7 + 3, none⟩ = some (.int .i64 x.k.no) ∧ w'.cell? ⟨g, i * 7 + 4, none⟩ = some (.int .i64 x.dst) ∧ w'.cell? ⟨g, i * 7 + 5, none⟩ = some (.int .i64 x.kind) ∧ w'.cell? ⟨g, i * 7 + 6, none⟩ = some (.int .i64 x.data) ∧ w'.cell? ⟨g, q * 7, none⟩ = some (.int .i64 y.k.at_) ∧ w'.cell? ⟨g, q * 7 + 1, none⟩ = some (.int .i64 y.k.src) ∧ w'.cell? ⟨g, q * 7 + 2, none⟩ = some (.int .i64 y.k.sent) ∧ w'.cell? ⟨g, q * 7 + 3, none⟩ = some (.int .i64 y.k.no) ∧ w'.cell? ⟨g, q * 7 + 4, none⟩ = some (.int .i64 y.dst) ∧ w'.cell? ⟨g, q * 7 + 5, none⟩ = some (.int .i64 y.kind) ∧ w'.cell? ⟨g, q * 7 + 6, none⟩ = some (.int .i64 y.data) ∧ Frm [] wr w')
            (first | exact HS.out _ (Frm.refl _ _).drew | exact HS.out _ H6.out | exact HS.out _ H9.out)
            (first
              | (go_at_call 25; refine (Hk.out _).mono ?_; rintro e w6 ⟨rfl, hF⟩; have H6 := Lib.hid ((Frm.refl [] wr).drew.trans (T := []) hF (by simp)); clear hF)
              | (go_at_call 14; refine (lps_any (HI.out.mod.frm0 H6.out)).mono ?_; rintro e w7 ⟨rfl, h7⟩; obtain rfl := h7)
              | (go_at_call 15; refine (end_any (HI.out.mod.frm0 H6.out)).mono ?_; rintro e w7 ⟨rfl, h7⟩; obtain rfl := h7)
              | (go_at_call 26; refine (Hc.out _).mono ?_; rintro e w9 ⟨rfl, hF⟩; have H9 := Lib.hid (H6.out.trans (T := []) hF (by simp)); clear hF))
          have HJ := Lib.hid (HI.out.go H9.out)
          clear HI HS H6 H9 gz gz' gs gw gb gb2
          go_wp2_with fail
          go_loopw [7] (fun kv wr => ∃ k : Nat, k ≤ i ∧ kv = .int .i64 (k : Int) ∧ EvHeld C D r n g c lo hiB m w.heap.size w w5 wr) (fun kv _ => i - (intOf kv).toNat)
          case atStart => exact ⟨0, Nat.zero_le _, rfl, HJ.out⟩
          case round =>
            clear p0 p1 p2 p3 p4 p5 p6 s0 s1 s2 s3 s4 s5 s6 HJ Hc
            obtain ⟨k, hk, rfl, h9⟩ := hrel
            have HI := Lib.hid h9
            clear h9
            by_cases hlt3 : k < i
            · obtain ⟨b3, o3, x', he3, hb3, hx3, p0, p1, p2, p3, p4, p5, p6⟩ := HI.out.evs.at_ hlt
              simp only [Option.some.injEq, Addr.mk.injEq, and_true] at he3
              obtain ⟨rfl, rfl⟩ := he3
              obtain rfl : x = x' := by have := Hx.out; rw [hx3] at this; exact (Option.some.inj this).symm
              obtain ⟨b4, o4, z, he4, hb4, hz, t0, t1, t2, t3, t4, t5, t6⟩ := HI.out.evs.at_ (show k < n by omega)
              simp only [Option.some.injEq, Addr.mk.injEq, and_true] at he4
              obtain ⟨rfl, rfl⟩ := he4
              simp only [Nat.zero_add] at p0 p1 p2 p3 p4 p5 p6 t0 t1 t2 t3 t4 t5 t6
              have hs : ∀ W, Frm [] wr W → W.cell? ⟨g, i * 7, none⟩ = some (.int .i64 x.k.at_) ∧ W.cell? ⟨g, i * 7 + 1, none⟩ = some (.int .i64 x.k.src) ∧ W.cell? ⟨g, i * 7 + 2, none⟩ = some (.int .i64 x.k.sent) ∧ W.cell? ⟨g, i * 7 + 3, none⟩ = some (.int .i64 x.k.no) ∧ W.cell? ⟨g, i * 7 + 4, none⟩ = some (.int .i64 x.dst) ∧ W.cell? ⟨g, i * 7 + 5, none⟩ = some (.int .i64 x.kind) ∧ W.cell? ⟨g, i * 7 + 6, none⟩ = some (.int .i64 x.data) ∧ W.cell? ⟨g, k * 7, none⟩ = some (.int .i64 z.k.at_) ∧ W.cell? ⟨g, k * 7 + 1, none⟩ = some (.int .i64 z.k.src) ∧ W.cell? ⟨g, k * 7 + 2, none⟩ = some (.int .i64 z.k.sent) ∧ W.cell? ⟨g, k * 7 + 3, none⟩ = some (.int .i64 z.k.no) ∧ W.cell? ⟨g, k * 7 + 4, none⟩ = some (.int .i64 z.dst) ∧ W.cell? ⟨g, k * 7 + 5, none⟩ = some (.int .i64 z.kind) ∧ W.cell? ⟨g, k * 7 + 6, none⟩ = some (.int .i64 z.data) ∧ Frm [] wr W := fun W hW => ⟨hW.cell p0 (by simp), hW.cell p1 (by simp), hW.cell p2 (by simp), hW.cell p3 (by simp), hW.cell p4 (by simp), hW.cell p5 (by simp), hW.cell p6 (by simp), hW.cell t0 (by simp), hW.cell t1 (by simp), hW.cell t2 (by simp), hW.cell t3 (by simp), hW.cell t4 (by simp), hW.cell t5 (by simp), hW.cell t6 (by simp), hW⟩
              have HS := Lib.hid hs
              have hno : z.k.no ≠ x.k.no := by
                have h := List.pairwise_iff_getElem.1 His.out.no k i (by rw [His.out.len, Hn.out]; omega) (by rw [His.out.len, Hn.out]; exact hlt) hlt3
                rw [(List.getElem?_eq_some_iff.1 hz).2, (List.getElem?_eq_some_iff.1 Hx.out).2] at h
                exact h
              have gid : ∀ W, (binOp BinOp.eql 69 (.agg #[.int .i64 z.k.src, .int .i64 z.k.sent, .int .i64 z.k.no]) (.agg #[.int .i64 x.k.src, .int .i64 x.k.sent, .int .i64 x.k.no])).run Tryd.prog W = .ok (.bool false) W := fun W => by
                have h := id_eql z.k.id x.k.id W
                rw [show decide (z.k.id = x.k.id) = false by rw [decide_eq_false_iff_not]; intro e; exact hno (congrArg Iv.no e)] at h
                exact h
              have gb5 : (0 : Int) ≤ (k : Int) := by omega
              have gb6 : (k : Int) < (n : Int) := by omega
              clear hs hno hz hx3
              go_wp2_with fail
              go_region_held3 (fun w' => w'.cell? ⟨g, i * 7, none⟩ = some (.int .i64 x.k.at_) ∧ w'.cell? ⟨g, i * 7 + 1, none⟩ = some (.int .i64 x.k.src) ∧ w'.cell? ⟨g, i * 7 + 2, none⟩ = some (.int .i64 x.k.sent) ∧ w'.cell? ⟨g, i * 7 + 3, none⟩ = some (.int .i64 x.k.no) ∧ w'.cell? ⟨g, i * 7 + 4, none⟩ = some (.int .i64 x.dst) ∧ w'.cell? ⟨g, i * 7 + 5, none⟩ = some (.int .i64 x.kind) ∧ w'.cell? ⟨g, i * 7 + 6, none⟩ = some (.int .i64 x.data) ∧ w'.cell? ⟨g, k * 7, none⟩ = some (.int .i64 z.k.at_) ∧ w'.cell? ⟨g, k * 7 + 1, none⟩ = some (.int .i64 z.k.src) ∧ w'.cell? ⟨g, k * 7 + 2, none⟩ = some (.int .i64 z.k.sent) ∧ w'.cell? ⟨g, k * 7 + 3, none⟩ = some (.int .i64 z.k.no) ∧ w'.cell? ⟨g, k * 7 + 4, none⟩ = some (.int .i64 z.dst) ∧ w'.cell? ⟨g, k * 7 + 5, none⟩ = some (.int .i64 z.kind) ∧ w'.cell? ⟨g, k * 7 + 6, none⟩ = some (.int .i64 z.data) ∧ Frm [] wr w')
                (first | exact HS.out _ (Frm.refl _ _).drew | exact HS.out _ H6.out | exact HS.out _ H9.out)
                (first
                  | (go_at_call_of 27 (Value.agg #[.int .i64 z.k.at_, .int .i64 z.k.src, .int .i64 z.k.sent, .int .i64 z.k.no, .int .i64 z.dst, .int .i64 z.kind, .int .i64 z.data]); refine (of_any z _).mono ?_; rintro e w6 ⟨rfl, hF⟩; have H6 := Lib.hid ((Frm.refl [] wr).drew.trans (T := []) hF (by simp)); clear hF)
                  | (go_at_call_of 27 (Value.agg #[.int .i64 x.k.at_, .int .i64 x.k.src, .int .i64 x.k.sent, .int .i64 x.k.no, .int .i64 x.dst, .int .i64 x.kind, .int .i64 x.data]); refine (of_any x _).mono ?_; rintro e w9 ⟨rfl, hF⟩; have H9 := Lib.hid (H6.out.trans (T := []) hF (by simp)); clear hF))
              have HJ := Lib.hid (HI.out.go H9.out)
              clear HI HS H6 H9
              go_wp2_with fail
              go_roundw
              case rel => exact ⟨k + 1, by omega, by go_num, HJ.out⟩
              case measure => simp [intOf]; omega
            · obtain rfl : k = i := by omega
              go_wp2_with fail
              go_roundw
              case rel => exact ⟨k + 1, by omega, by go_num, HI.out⟩
              case measure => simp [intOf]; omega
      · obtain rfl : i = n := by omega
        obtain ⟨d0, d1, d2, d3, d4, d5⟩ := cells6 HI.out.obj
        rw [Hn.out] at d2
        have gg : ((i : Int) == (i : Int)) = true := by simp
        go_wp2_with fail
        refine (awake_any (HO.out.frm HI.out.frm)).mono ?_
        rintro e w6 ⟨rfl, hF⟩
        have HF6 := Lib.hid (HI.out.frm.trans (T := []) hF (by simp))
        clear hF
        go_wp2_with fail
        go_ret
        exact ⟨rfl, HF6.out.below (Nat.le_refl _) (by simp)⟩
theorem events_law {C : Cf} {w : World} (hO : Ops w) (hC : CfAt w C) (hN : CfNil C) : Calls Tryd.prog 5 #[C.val] w (LawTrue w) := by
  cases hf : fewC C
  · exact events_few hO hC hf
  · by_cases hc : checkC C = 0
    · exact events_good hO hC hN hf hc
    · exact events_bad hO hC hf hc
end Go.Proofs.YtbkadfdpboghiaaDoor
