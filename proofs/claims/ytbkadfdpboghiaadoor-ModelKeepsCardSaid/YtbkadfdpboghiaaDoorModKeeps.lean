/- ModelKeeps: a model is not turned by what is done with its configuration, or with what it answered. -/
import Derived.Test.YtbkadfdpboghiaaDoorModKeepA
namespace Go.Proofs.YtbkadfdpboghiaaDoor
open Go.RowKit Go.Maps

set_option maxHeartbeats 1000000 in
set_option maxRecDepth 100000 in
theorem keeps_few {C : Cf} {w : World} (hO : Ops w) (hC : CfAt w C) (hf : fewC C = false) : Calls Tryd.prog 4 #[C.val] w (LawTrue w) := by
  have hF0 : Frm [] w (w.alloc (C.obj 26)) := (Frm.refl _ _).alloc _
  have hfe := few_any (hC.frm hF0)
  rw [hf] at hfe
  have HF0 := Lib.hid hF0
  have HO := Lib.hid hO
  have Hf := Lib.hid hfe
  clear hF0 hO hC hfe hf
  go_enter Tryd.func4, Tryd.ntmps4
  go_wp2_with fail
  refine Hf.out.mono ?_
  rintro e w1 ⟨rfl, hF⟩
  have HF1 := Lib.hid (HF0.out.trans (T := []) hF (by simp))
  clear hF
  go_wp2_with fail
  refine (awake_any (HO.out.frm HF1.out)).mono ?_
  rintro e w2 ⟨rfl, hF⟩
  have HF2 := Lib.hid (HF1.out.trans (T := []) hF (by simp))
  clear hF
  go_wp2_with fail
  go_ret
  exact ⟨rfl, HF2.out.below (Nat.le_refl _) (by simp)⟩

theorem Cf.Like.trans {C D E : Cf} (h : C.Like D) (h' : D.Like E) : C.Like E :=
  ⟨h'.pn.trans h.pn, h'.ps.trans h.ps, h'.ln.trans h.ln, h'.ls.trans h.ls, h'.sn.trans h.sn, h'.ss.trans h.ss, h'.fin.trans h.fin, h'.fuel.trans h.fuel, h'.fan.trans h.fan⟩
/-- The model, and what it has answered so far: all of it from block lo on, below top. -/
structure KeepAt (lo hi top m b11 : Nat) (M : Cf) (aw : Option Addr) (n cw : Nat) (r : List Ev) (x : Pl) (ap : Option Addr) (cp : Nat) (q : Pg) (W : World) : Prop where
  mod : ModAt lo hi W m M
  was : EvsAt W aw n cw r
  fst : W.heap[b11]? = some (.cells #[.int .i64 x.f0, .int .i64 x.f1, .int .i64 x.f2, .int .i64 x.f3] 47)
  prg : Ins.at_ W ap q.n cp q.l
  wasB : Betw lo top aw
  fstB : lo ≤ b11 ∧ b11 < top
  prgB : Betw lo top ap
  hiB : hi ≤ top
  topB : top ≤ W.heap.size
theorem KeepAt.frm {lo hi top m b11 : Nat} {M : Cf} {aw : Option Addr} {n cw : Nat} {r : List Ev} {x : Pl} {ap : Option Addr} {cp : Nat} {q : Pg} {W W' : World} {S : List Nat} (h : KeepAt lo hi top m b11 M aw n cw r x ap cp q W)
    (hf : Frm S W W') (hS : ∀ k ∈ S, k < lo ∨ top ≤ k) : KeepAt lo hi top m b11 M aw n cw r x ap cp q W' :=
  ⟨h.mod.frm hf (fun k hk => by have := h.hiB; rcases hS k hk with h1 | h1 <;> omega), SlAt.ev (h.was.sl.frmS hf (fun y hy hm => by have := h.wasB y hy; rcases hS _ hm with h1 | h1 <;> omega)),
    hf.obj h.fst (fun hm => by have := h.fstB; rcases hS _ hm with h1 | h1 <;> omega), SlAt.frmS h.prg hf (fun y hy hm => by have := h.prgB y hy; rcases hS _ hm with h1 | h1 <;> omega),
    h.wasB, h.fstB, h.prgB, h.hiB, Nat.le_trans h.topB hf.size⟩
theorem KeepAt.frm0 {lo hi top m b11 : Nat} {M : Cf} {aw : Option Addr} {n cw : Nat} {r : List Ev} {x : Pl} {ap : Option Addr} {cp : Nat} {q : Pg} {W W' : World} (h : KeepAt lo hi top m b11 M aw n cw r x ap cp q W)
    (hf : Frm [] W W') : KeepAt lo hi top m b11 M aw n cw r x ap cp q W' := h.frm hf (by simp)
theorem KeepAt.puts {lo hi top m b11 : Nat} {M : Cf} {aw : Option Addr} {n cw : Nat} {r : List Ev} {x : Pl} {ap : Option Addr} {cp : Nat} {q : Pg} {W : World} (h : KeepAt lo hi top m b11 M aw n cw r x ap cp q W)
    {g : Nat} (hg : g < lo ∨ top ≤ g) (vs : List Value) (j : Nat) : KeepAt lo hi top m b11 M aw n cw r x ap cp q (storeAll W g j vs) :=
  h.frm (frm_puts (S := [g]) (by simp) (Frm.refl _ _) vs j) (fun k hk => by simp at hk; subst hk; exact hg)
theorem frm0_puts {w W : World} {g : Nat} (h : Frm [] w W) (hg : w.heap.size ≤ g) (vs : List Value) (j : Nat) : Frm [] w (storeAll W g j vs) :=
  h.trans (T := [g]) (frm_puts (S := [g]) (by simp) (Frm.refl _ _) vs j) (fun k hk => by simp at hk; subst hk; exact .inr hg)

set_option maxHeartbeats 16000000 in
set_option maxRecDepth 100000 in
theorem keeps_in {C : Cf} {w : World} (hO : Ops w) (hC : CfAt w C) (hN : CfNil C) (hf : fewC C = true) : Calls Tryd.prog 4 #[C.val] w (LawTrue w) := by
  have hF0 : Frm [] w (w.alloc (C.obj 26)) := (Frm.refl _ _).alloc _
  have hb0 : (w.alloc (C.obj 26)).heap[w.heap.size]? = some (C.obj 26) := obj_new w _
  have hfe := few_any (hC.frm hF0)
  rw [hf] at hfe
  have hfew := fewOf hf
  have HF0 := Lib.hid hF0
  have HB0 := Lib.hid hb0
  have HO := Lib.hid hO
  have HC := Lib.hid hC
  have HN := Lib.hid hN
  have Hf := Lib.hid hfe
  have Hfew := Lib.hid hfew
  have hs300 := hfew.sn
  have hl40 := hfew.ln
  have hp40 := hfew.pn
  have hpl : C.ps.length = C.pn := hC.ps.1
  have Hpl := Lib.hid hpl
  obtain ⟨ip, jp0, jp1, jp2, jp3⟩ := info_parts infoProgs
  have Hip := Lib.hid (And.intro jp0 (And.intro jp1 (And.intro jp2 jp3)))
  obtain ⟨ii, ji0, ji1, ji2, ji3⟩ := info_parts infoInsM
  have Hii := Lib.hid (And.intro ji0 (And.intro ji1 (And.intro ji2 ji3)))
  obtain ⟨il, jl0, jl1, jl2, jl3⟩ := info_parts infoPlM
  have Hil := Lib.hid (And.intro jl0 (And.intro jl1 (And.intro jl2 jl3)))
  obtain ⟨is, js0, js1, js2, js3⟩ := info_parts infoStM
  have His := Lib.hid (And.intro js0 (And.intro js1 (And.intro js2 js3)))
  clear hF0 hb0 hO hC hN hfe hf hfew hpl jp0 jp1 jp2 jp3 ji0 ji1 ji2 ji3 jl0 jl1 jl2 jl3 js0 js1 js2 js3
  go_enter Tryd.func4, Tryd.ntmps4
  go_wp2_with fail
  refine Hf.out.mono ?_
  rintro e w1 ⟨rfl, hF⟩
  have HF1 := Lib.hid (HF0.out.trans (T := []) hF (by simp))
  have HB1 := Lib.hid (hF.obj HB0.out (by simp))
  obtain ⟨d0, d1, d2, d3, d4, d5⟩ := cells6 HB1.out
  have zd := World.block_lt_of_cell? _ _ d0
  dsimp only at zd
  have hk0 := (((Holds.start w1).alloc noneR_stable (cpO (.slice none 0 0) (.slice C.la C.ln C.lc) (.slice C.sa C.sn C.sc) C)).nilRow 52 1)
  have HK0 := Lib.hid ((sepR_comm hk0).drop.insWStart)
  clear hF HF0 HB0 Hf hk0
  go_wp2_with fail
  go_loopw [4] (fun iv wr => KpP C w1 iv wr) (fun iv _ => C.pn - (intOf iv).toNat)
  case atStart => exact ⟨0, none, 0, [], Nat.zero_le _, rfl, rfl, rfl, HK0.out⟩
  case round =>
    clear d0 d1 d2 d3 d4 d5 zd
    obtain ⟨k, a1, c1, ds, hk, rfl, hdl, hdm, hh⟩ := hrel
    have HH := Lib.hid hh
    have Hdl := Lib.hid hdl
    have Hdm := Lib.hid hdm
    have hfb := Frm.of_below (S := []) hh.below (Nat.le_refl _)
    obtain ⟨o0, o1, o2, o3, o4, o5⟩ := cells6 (hh.box (k := w1.heap.size) (o := cpO (.slice a1 k c1) (.slice C.la C.ln C.lc) (.slice C.sa C.sn C.sc) C) (by simp))
    have hob := hfb.obj HB1.out (by simp)
    obtain ⟨c0, c1', c2, c3, c4, c5⟩ := cells6 hob
    have z0 := World.block_lt_of_cell? _ _ o0
    have z1 := World.block_lt_of_cell? _ _ c0
    dsimp only at z0 z1
    clear hh hdl hdm HK0
    by_cases hlt : k < C.pn
    · obtain ⟨b, off, x, hca, hbl, hx, p0⟩ := (HC.out.frm HF1.out).ps.pgAt hlt
      have hxm := List.mem_of_getElem? hx
      have hxn := Hfew.out.ps x hxm
      have hst : Stable (sepR (rowR 52 1 (.slice a1 k c1) k (flat Pg.enc ds)) (insW ds)) := sepR_stable (rowR_stable _ _ _ _ _) (insW_stable _)
      have hw1 : w.heap.size < w1.heap.size := lt_of_obj HB1.out
      have hkeep : ∀ (R : World → List Nat → Prop) (W : World) (M : List (Nat × Obj)), Holds w1.heap.size w1 R W (M ++ [(w1.heap.size, cpO (.slice a1 k c1) (.slice C.la C.ln C.lc) (.slice C.sa C.sn C.sc) C)]) → W.cell? ⟨w1.heap.size, 0, none⟩ = some (.slice a1 k c1) ∧ W.cell? ⟨w.heap.size, 0, none⟩ = some (.slice (some ⟨b, off, none⟩) C.pn C.pc) ∧ W.cell? ⟨b, off + k, none⟩ = some (.slice x.a x.n x.c) := fun R W M h => by
        obtain ⟨o0, _⟩ := cells6 (h.box (k := w1.heap.size) (o := cpO (.slice a1 k c1) (.slice C.la C.ln C.lc) (.slice C.sa C.sn C.sc) C) (by simp))
        obtain ⟨c0, _⟩ := cells6 HB1.out
        rw [hca] at c0
        exact ⟨o0, (h.oldCell hw1).trans c0, (h.oldCell hbl).trans p0⟩
      have hd := HH.out.drew hst
      have hHeld := hkeep _ _ [] hd
      have q0 := (HH.out.oldCell hbl).trans p0
      rw [hca] at c0
      have hxi := SlAt.frm (HC.out.is_ x hxm) (HF1.out.trans (T := []) hfb.drew (by simp))
      have hxl : x.l.length = x.n := hxi.1
      have hxnil := HN.out.is_ x hxm
      have Hxi := Lib.hid hxi
      have Hxnil := Lib.hid hxnil
      have Hxl := Lib.hid hxl
      have Hx := Lib.hid hx
      have Hd := Lib.hid (hd.nilRow 58 5)
      have Hst := Lib.hid hst
      have Hkeep := Lib.hid hkeep
      have hle := HH.out.le
      have hbl2 : b < wr.heap.size := by omega
      clear hca hxm hfb hob hst hd hkeep hxi hxl hxnil hx o1 o2 o3 o4 o5 c1' c2 c3 c4 c5 p0
      go_wp2_with fail
      refine wp_region_N (fun w' => w'.cell? ⟨w1.heap.size, 0, none⟩ = some (.slice a1 k c1) ∧ w'.cell? ⟨w.heap.size, 0, none⟩ = some (.slice (some ⟨b, off, none⟩) C.pn C.pc) ∧ w'.cell? ⟨b, off + k, none⟩ = some (.slice x.a x.n x.c)) 11 (by kernel_rfl) ?_
      refine wpAnyN_take (i := 0) (oi := ⟨some 34, _, _, _, _, _⟩) (v := ?_) rfl (by kernel_rfl) (fun _ _ _ h => h) (Or.inl ⟨by rfl, ?_⟩) (by assumption) ?_
      rotate_left
      · (intro w hSw; (try dsimp only at hSw); go_simp; try with_reducible rfl)
      try simp only [Act.put, List.setIfInBounds_toArray, List.set_cons_zero, List.set_cons_succ]
      refine wpAnyN_take (i := 1) (oi := ⟨some 35, _, _, _, _, _⟩) (v := ?_) rfl (by kernel_rfl) (fun _ _ _ h => h) (Or.inl ⟨by rfl, ?_⟩) (by assumption) ?_
      rotate_left
      · (intro w hSw; (try dsimp only at hSw); go_simp; try with_reducible rfl)
      try simp only [Act.put, List.setIfInBounds_toArray, List.set_cons_zero, List.set_cons_succ]
      refine wpAnyN_take (i := 2) (oi := ⟨some 36, _, _, _, _, _⟩) (v := ?_) rfl (by kernel_rfl) (fun _ _ _ h => h) (Or.inl ⟨by rfl, ?_⟩) (by assumption) ?_
      rotate_left
      · (intro w hSw; (try dsimp only at hSw); go_simp; try with_reducible rfl)
      try simp only [Act.put, List.setIfInBounds_toArray, List.set_cons_zero, List.set_cons_succ]
      refine wpAnyN_take (i := 3) (oi := ⟨some 37, _, _, _, _, _⟩) (v := ?_) rfl (by kernel_rfl) (fun _ _ _ h => h) (Or.inl ⟨by rfl, ?_⟩) (by assumption) ?_
      rotate_left
      · (intro w hSw; (try dsimp only at hSw); go_simp; try with_reducible rfl)
      try simp only [Act.put, List.setIfInBounds_toArray, List.set_cons_zero, List.set_cons_succ]
      refine wpAnyN_take (i := 4) (oi := ⟨some 38, _, _, _, _, _⟩) (v := ?_) rfl (by kernel_rfl) (fun _ _ _ h => h) (Or.inl ⟨by rfl, ?_⟩) (by assumption) ?_
      rotate_left
      · (intro w hSw; (try dsimp only at hSw); go_simp; try with_reducible rfl)
      try simp only [Act.put, List.setIfInBounds_toArray, List.set_cons_zero, List.set_cons_succ]
      refine wpAnyN_take (i := 5) (oi := ⟨some 39, _, _, _, _, _⟩) (v := ?_) rfl (by kernel_rfl) (fun _ _ _ h => h) (Or.inl ⟨by rfl, ?_⟩) (by assumption) ?_
      rotate_left
      · (intro w hSw; (try dsimp only at hSw); go_simp; try with_reducible rfl)
      try simp only [Act.put, List.setIfInBounds_toArray, List.set_cons_zero, List.set_cons_succ]
      refine wpAnyN_take (i := 6) (oi := ⟨some 40, _, _, _, _, _⟩) (v := ?_) rfl (by kernel_rfl) (fun _ _ _ h => h) (Or.inl ⟨by rfl, ?_⟩) (by assumption) ?_
      rotate_left
      · (intro w hSw; (try dsimp only at hSw); go_simp; try with_reducible rfl)
      try simp only [Act.put, List.setIfInBounds_toArray, List.set_cons_zero, List.set_cons_succ]
      refine wpAnyN_take (i := 7) (oi := ⟨some 41, _, _, _, _, _⟩) (v := ?_) rfl (by kernel_rfl) (fun _ _ _ h => h) (Or.inl ⟨by rfl, ?_⟩) (by assumption) ?_
      rotate_left
      · (intro w hSw; (try dsimp only at hSw); go_simp; try with_reducible rfl)
      try simp only [Act.put, List.setIfInBounds_toArray, List.set_cons_zero, List.set_cons_succ]
      refine wpAnyN_one (i := 8) (o := ⟨some 42, _, _, _, _, _⟩) (by kernel_rfl) rfl (fun K hK => ?_)
      refine step_append_slM (enc := Ins.enc) rfl (.tmp 36) (.tmp 41) 52 rfl 58 ii (.agg #[.int .i64 0, .int .i64 0, .int .i64 0, .int .i64 0, .int .i64 0]) 5 40 Tryd.underlying52 Hii.out.1 Hii.out.2.1 Hii.out.2.2.1 Hii.out.2.2.2 rfl (by decide) (.slice none 0 0) 0 [] rfl Hd.out.row x.a x.n x.c x.l rfl Hxi.out Hxnil.out Ins.enc_len Ins.enc_one (by unfold maxLen; omega) (by omega) ?_
      intro a4 c4 w4 hown4 hF4 hnew4
      simp only [Nat.zero_add, List.nil_append] at hown4 hnew4 ⊢
      have h4 := (Hd.out.appended Hst.out hown4 hF4 hnew4).conv Conv.exch
      have h5 := h4.conv (Conv.right (insW_more (p := ⟨a4, x.n, c4, x.l⟩) Hxl.out))
      have hst5 : Stable (sepR (rowR 52 1 (.slice a1 k c1) k (flat Pg.enc ds)) (insW (ds ++ [⟨a4, x.n, c4, x.l⟩]))) := sepR_stable (rowR_stable _ _ _ _ _) (insW_stable _)
      have h6 := h5.alloc hst5 (.cells #[.slice a4 x.n c4] 52)
      have H6 := Lib.hid h6
      refine hK.out _ _ (fun _ => Hkeep.out _ _ [] h5) ?_
      have hHeld := Hkeep.out _ _ [] h5
      clear hK K hown4 hF4 hnew4 h4 h5 h6 hst5
      try simp only [Act.put, List.setIfInBounds_toArray, List.set_cons_zero, List.set_cons_succ]
      refine wpAnyN_one (i := 9) (o := ⟨some 43, _, _, _, _, _⟩) (by kernel_rfl) rfl (fun K hK => ?_)
      go_simp
      refine hK.out _ _ (fun _ => Hkeep.out _ _ [_] H6.out) ?_
      clear hK K hHeld
      try simp only [Act.put, List.setIfInBounds_toArray, List.set_cons_zero, List.set_cons_succ]
      refine wpAnyN_one (i := 10) (o := ⟨some 44, _, _, _, _, _⟩) (by kernel_rfl) rfl (fun K hK => ?_)
      refine step_append_foot rfl (.tmp 35) (.tmp 43) 22 rfl 52 ip (.slice none 0 0) 1 24 Tryd.underlying22 Hip.out.1 Hip.out.2.1 Hip.out.2.2.1 Hip.out.2.2.2 rfl (by decide) (.slice a1 k c1) k (flat Pg.enc ds) rfl H6.out.row ⟨w4.heap.size, 0, none⟩ 1 1 (Pg.mk a4 x.n c4 x.l).enc rfl rfl (cells_new _ _ _) (Pg.enc_one _) (by unfold maxLen; omega) (by omega) ?_
      intro a5 c5' w5 hown hF hnew
      have h7 := H6.out.appended (insW_stable _) hown hF hnew
      rw [show flat Pg.enc ds ++ (Pg.mk a4 x.n c4 x.l).enc = flat Pg.enc (ds ++ [⟨a4, x.n, c4, x.l⟩]) by rw [flat_append, flat_single]] at h7
      refine hK.out _ _ (fun _ => Hkeep.out _ _ [_] h7) ?_
      have h8 := h7.sub (M := [(w1.heap.size, cpO (.slice a1 k c1) (.slice C.la C.ln C.lc) (.slice C.sa C.sn C.sc) C)]) (fun _ hq => List.mem_cons_of_mem _ hq)
      have ho8 := h8.box (k := w1.heap.size) (o := cpO (.slice a1 k c1) (.slice C.la C.ln C.lc) (.slice C.sa C.sn C.sc) C) (by simp)
      obtain ⟨o0', _⟩ := cells6 ho8
      have oz := frozen_of_obj ho8 0
      have ol := World.block_lt_of_cell? _ _ o0'
      dsimp only at ol
      have hst8 : Stable (sepR (rowR 52 1 (.slice a5 (k + 1) c5') (k + 1) (flat Pg.enc (ds ++ [⟨a4, x.n, c4, x.l⟩]))) (insW (ds ++ [⟨a4, x.n, c4, x.l⟩]))) := sepR_stable (rowR_stable _ _ _ _ _) (insW_stable _)
      have h9 := h8.put (L := []) hst8 (Nat.le_refl _) (by simp) (by simp) 0 (.slice a5 (k + 1) c5')
      have H9 := Lib.hid h9
      clear hK K hown hF hnew h7 h8 ho8 hst8 h9 H6 Hd
      try simp only [Act.put, List.setIfInBounds_toArray, List.set_cons_zero, List.set_cons_succ]
      refine wpAnyN_one (i := 11) (o := ⟨some 45, _, _, _, _, _⟩) (by kernel_rfl) rfl (fun K hK => ?_)
      go_simp
      refine hK.out _ _ (fun h => absurd h (by decide)) ?_
      clear hK K
      try simp only [Act.put, List.setIfInBounds_toArray, List.set_cons_zero, List.set_cons_succ]
      refine wpAnyN_one (i := 12) (o := ⟨none, _, _, _, _, _⟩) (by kernel_rfl) rfl (fun K hK => ?_)
      go_simp
      refine hK.out _ _ (fun h => absurd h (by decide)) ?_
      clear hK K
      try simp only [Act.put, List.setIfInBounds_toArray, List.set_cons_zero, List.set_cons_succ]
      refine wpAnyN_done (by kernel_rfl) ?_ _
      go_wp2_with fail
      go_roundw
      case rel => exact ⟨k + 1, a5, c5', ds ++ [⟨a4, x.n, c4, x.l⟩], by omega, by go_num, by simp [Hdl.out], by rw [List.map_append, Hdm.out, List.take_add_one, Hx.out, List.map_append]; rfl, H9.out⟩
      case measure => simp [intOf]; omega
    · obtain rfl : C.pn = k := by omega
      have hst1 : Stable (sepR (rowR 52 1 (.slice a1 C.pn c1) C.pn (flat Pg.enc ds)) (insW ds)) := sepR_stable (rowR_stable _ _ _ _ _) (insW_stable _)
      have hf1w := HF1.out.trans (T := []) hfb (by simp)
      have h2 := HH.out.nilRow 59 5
      have H2 := Lib.hid h2
      have Hst1 := Lib.hid hst1
      have HCw := Lib.hid (HC.out.frm hf1w)
      clear h2 hst1 hf1w hob hfb
      go_wp2_with (at_builtin; refine Stop.of ?_)
      refine Stop.go ?_
      refine wpList_append_sl (enc := Pl.enc) _ rfl _ _ 23 rfl 59 il (.agg #[.int .i64 0, .int .i64 0, .int .i64 0, .int .i64 0, .int .i64 0]) 5 40 Tryd.underlying23 Hil.out.1 Hil.out.2.1 Hil.out.2.2.1 Hil.out.2.2.2 rfl (by decide) (.slice none 0 0) 0 [] rfl H2.out.row C.la C.ln C.lc C.ls rfl HCw.out.ls HN.out.ls Pl.enc_len Pl.enc_one (by unfold maxLen; omega) (by omega) ?_
      intro a2 c2' w3 hown hF hnew
      simp only [Nat.zero_add, List.nil_append] at hown hnew ⊢
      have h3 := H2.out.appended Hst1.out hown hF hnew
      have hst2 : Stable (sepR (rowR 59 5 (.slice a2 C.ln c2') C.ln (flat Pl.enc C.ls)) (sepR (rowR 52 1 (.slice a1 C.pn c1) C.pn (flat Pg.enc ds)) (insW ds))) := sepR_stable (rowR_stable _ _ _ _ _) Hst1.out
      have ho3 := h3.box (k := w1.heap.size) (o := cpO (.slice a1 C.pn c1) (.slice C.la C.ln C.lc) (.slice C.sa C.sn C.sc) C) (by simp)
      have h4 := h3.put (L := []) hst2 (Nat.le_refl _) (by simp) (by simp) 1 (.slice a2 C.ln c2')
      have hf4 := (HF1.out.trans (T := []) (Frm.of_below (S := []) h4.below (Nat.le_refl _)) (by simp))
      have hf3 := Frm.of_below (S := []) h3.below (Nat.le_refl _)
      have hob3 := hf3.obj HB1.out (by simp)
      clear o0 o1 o2 o3 o4 o5 c0 c1' c2 c3 c4 c5 z0 z1 hlt
      obtain ⟨o0, o1, o2, o3, o4, o5⟩ := cells6 ho3
      have oz := frozen_of_obj ho3 1
      obtain ⟨c0, c1', c2, c3, c4, c5⟩ := cells6 hob3
      have z0 := World.block_lt_of_cell? _ _ o0
      have z1 := World.block_lt_of_cell? _ _ c0
      dsimp only at z0 z1
      have hw1 : w.heap.size ≠ w1.heap.size := by have := lt_of_obj HB1.out; omega
      have H4 := Lib.hid (h4.nilRow 61 4)
      have HC4 := Lib.hid (HC.out.frm hf4)
      have Hst2 := Lib.hid hst2
      clear hown hF hnew h3 hst2 ho3 h4 hf4 hf3 hob3 H2 HCw HH
      go_wp2_with (at_builtin; refine Stop.of ?_)
      refine Stop.go ?_
      refine wpList_append_sl (enc := St.enc) _ rfl _ _ 24 rfl 61 is (.agg #[.int .i64 0, .int .i64 0, .int .i64 0, .int .i64 0]) 4 32 Tryd.underlying24 His.out.1 His.out.2.1 His.out.2.2.1 His.out.2.2.2 rfl (by decide) (.slice none 0 0) 0 [] rfl H4.out.row C.sa C.sn C.sc C.ss rfl HC4.out.ss HN.out.ss St.enc_len St.enc_one (by unfold maxLen; omega) (by omega) ?_
      intro a3 c3' w4 hown hF hnew
      simp only [Nat.zero_add, List.nil_append] at hown hnew ⊢
      have h5 := H4.out.appended Hst2.out hown hF hnew
      have hst3 : Stable (sepR (rowR 61 4 (.slice a3 C.sn c3') C.sn (flat St.enc C.ss)) (sepR (rowR 59 5 (.slice a2 C.ln c2') C.ln (flat Pl.enc C.ls)) (sepR (rowR 52 1 (.slice a1 C.pn c1) C.pn (flat Pg.enc ds)) (insW ds)))) := sepR_stable (rowR_stable _ _ _ _ _) Hst2.out
      have ho5 := h5.box (k := w1.heap.size) (o := cpO (.slice a1 C.pn c1) (.slice a2 C.ln c2') (.slice C.sa C.sn C.sc) C) (by simp)
      have h6 := h5.put (L := []) hst3 (Nat.le_refl _) (by simp) (by simp) 2 (.slice a3 C.sn c3')
      clear o0 o1 o2 o3 o4 o5 c0 c1' c2 c3 c4 c5 z0 z1 oz hw1
      obtain ⟨o0, o1, o2, o3, o4, o5⟩ := cells6 ho5
      have oz := frozen_of_obj ho5 2
      have z0 := World.block_lt_of_cell? _ _ o0
      dsimp only at z0
      have hcp := CpIn.of Hdl.out h6
      have HF6 := Lib.hid (HF1.out.trans (T := []) (Frm.of_below (S := []) h6.below (Nat.le_refl _)) (by simp))
      have hle6 := h6.le
      have hD : CfAt (w4.setCell ⟨w1.heap.size, 2, none⟩ (.slice a3 C.sn c3')) (plainD C a1 c1 ds a2 c2' a3 c3') := by
        have r1 := h6.row
        have r2 := (h6.conv Conv.exch).row
        have r3 := (h6.conv Conv.third).row
        refine ⟨SlAt.of_row Pg.enc_len r3 Hdl.out, fun p hp => ?_, SlAt.of_row Pl.enc_len r2 HC.out.ls.1, SlAt.of_row St.enc_len r1 HC.out.ss.1⟩
        obtain ⟨F, hc, _⟩ := h6
        obtain ⟨_, _, _, ⟨_, _, _, ⟨_, _, _, hins, _⟩, _⟩, _⟩ := hc.res
        exact SlAt.of_row Ins.enc_len (hins p hp).1 (hins p hp).2.1
      have hDn : CfNil (plainD C a1 c1 ds a2 c2' a3 c3') := by
        have r1 := h6.row
        have r2 := (h6.conv Conv.exch).row
        have r3 := (h6.conv Conv.third).row
        refine ⟨row_nil_cap r3, fun p hp => ?_, row_nil_cap r2, row_nil_cap r1⟩
        obtain ⟨F, hc, _⟩ := h6
        obtain ⟨_, _, _, ⟨_, _, _, ⟨_, _, _, hins, _⟩, _⟩, _⟩ := hc.res
        exact row_nil_cap (hins p hp).1
      have hDL : C.Like (plainD C a1 c1 ds a2 c2' a3 c3') := ⟨rfl, by show ds.map Pg.l = _; rw [Hdm.out, List.take_of_length_le (by rw [Hpl.out]; exact Nat.le_refl _)], rfl, rfl, rfl, rfl, rfl, rfl, rfl⟩
      have HCP := Lib.hid hcp
      have hdn : ∀ p ∈ ds, p.l.length = p.n := fun p hp => (hD.is_ p hp).1
      have Hdn := Lib.hid hdn
      have HD := Lib.hid hD
      have HDn := Lib.hid hDn
      have HDL := Lib.hid hDL
      clear hown hF hnew h5 hst3 ho5 h6 hcp hD hDn hDL hdn H4 HC4
      go_wp2_with fail
      by_cases hc : checkC C = 0
      · have hcl := check_like HDL.out
        have hok := okOf hc
        have Hok := Lib.hid hok
        refine (new_ok (HO.out.frm HF6.out) HD.out HDn.out (by rw [hcl]; exact hc)).mono ?_
        rintro e w7 ⟨m, M, rfl, hM, hL0, hF⟩
        have hL := HDL.out.trans hL0
        have HL := Lib.hid hL
        have HF7 := Lib.hid (HF6.out.trans (T := []) hF (by simp))
        have hcp7 := HCP.out.frm hF
        obtain ⟨lo, hlo⟩ : ∃ lo, (w4.setCell ⟨w1.heap.size, 2, none⟩ (.slice a3 C.sn c3')).heap.size = lo := ⟨_, rfl⟩
        rw [hlo] at hM hcp7
        obtain ⟨x, hx⟩ : ∃ x, C.ls[0]? = some x := ⟨_, List.getElem?_eq_getElem (by have := HC.out.ls.1; have := hok.ln1; omega)⟩
        have hpr := hok.pr x (List.mem_of_getElem? hx)
        obtain ⟨k, hk⟩ : ∃ k : Nat, x.pr = (k : Int) := ⟨x.pr.toNat, by omega⟩
        obtain ⟨q, hq⟩ : ∃ q, M.ps[k]? = some q := ⟨_, List.getElem?_eq_getElem (by have := hM.at_.ps.1; rw [hL.pn] at this; omega)⟩
        obtain ⟨p, hp⟩ : ∃ p, C.ps[k]? = some p := ⟨_, List.getElem?_eq_getElem (by have := HC.out.ps.1; omega)⟩
        have hql := (hM.at_.is_ q (List.mem_of_getElem? hq)).1
        have hq64 : q.n ≤ 64 := by have := checkP_len (hok.ps p (List.mem_of_getElem? hp)); rw [← prog_at hL hp hq, hql] at this; exact this
        have k1 : ∀ hi W, ModAt lo hi W m M → Calls Tryd.prog 21 #[.pointer (some ⟨m, 0, none⟩), .int .i64 0] W (Tells x.st W) := fun hi W h => first_in (i := 0) h (by rw [hL.ls]; exact hx)
        have k2 : ∀ hi W, ModAt lo hi W m M → Calls Tryd.prog 23 #[.pointer (some ⟨m, 0, none⟩), .int .i64 0] W (CloneOwn 58 Ins.enc 5 q.l q.n W) := fun hi W h => program_in (i := 0) h (by rw [hL.ls]; exact hx) hk hq hq64
        have k3 : ∀ hi W, ModAt lo hi W m M → Calls Tryd.prog 19 #[.pointer (some ⟨m, 0, none⟩)] W (EvsMade C.ss C.sn W) := fun hi W h => by have := events_in h (by rw [hL.sn]; omega); rwa [hL.sn, hL.ss] at this
        have K1 := Lib.hid k1
        have K2 := Lib.hid k2
        have K3 := Lib.hid k3
        have Hql := Lib.hid hql
        have HM := Lib.hid hM
        have HCP7 := Lib.hid hcp7
        have hlo0 : w1.heap.size ≤ lo := by rw [← hlo]; exact hle6
        have hw1 : w.heap.size < w1.heap.size := lt_of_obj HB1.out
        have hlo7 : lo ≤ w7.heap.size := Nat.le_trans hM.lo_ (Nat.le_of_lt (lt_of_obj hM.obj))
        have hls : C.ls.length = C.ln := HC.out.ls.1
        generalize hhi : w7.heap.size = hiB at hM hlo7
        have hM7 : ModAt lo hiB w7 m M := hM
        have HM7 := Lib.hid hM7
        have Hhi := Lib.hid hhi
        clear hM hM7 hL0 hL hF hcp7 hlo k1 k2 k3 hql hx hpr hk hq hp hok hcl hc hhi HM HD HDn HDL HCP HF6 hle6 o0 o1 o2 o3 o4 o5 oz z0
        go_wp2_with fail
        refine (K3.out _ _ HM7.out).mono ?_
        rintro e w8 ⟨aw, cw, r, rfl, r1, r2, r3, hr, hb8, hF⟩
        have R := Lib.hid (And.intro r1 (And.intro r2 r3))
        have HM8 := Lib.hid (HM7.out.frm0 hF)
        have HCP8 := Lib.hid (HCP7.out.frm hF)
        have HW8 := Lib.hid (EvsAt.of_row hr r3)
        have HF8 := Lib.hid (HF7.out.trans (T := []) hF (by simp))
        have HB8 := Lib.hid hb8
        have h78 := hF.size
        clear r1 r2 r3 hr hb8 hF HF7 HCP7
        go_wp2_with fail
        refine (K1.out _ _ HM8.out).mono ?_
        rintro e w9 ⟨rfl, hF⟩
        have hfa : Frm [] w8 (w9.alloc (.cells #[.int .i64 x.f0, .int .i64 x.f1, .int .i64 x.f2, .int .i64 x.f3] 47)) := hF.alloc _
        have HM9 := Lib.hid (HM8.out.frm0 hfa)
        have HCP9 := Lib.hid (HCP8.out.frm hfa)
        have HW9 := Lib.hid (HW8.out.frm hfa)
        have HF9 := Lib.hid (HF8.out.trans (T := []) hfa (by simp))
        have HX9 := Lib.hid (obj_new w9 (.cells #[.int .i64 x.f0, .int .i64 x.f1, .int .i64 x.f2, .int .i64 x.f3] 47))
        have h89 := hF.size
        clear hF hfa HM8 HCP8 HW8 HF8
        go_wp2_with fail
        refine (K2.out _ _ HM9.out).mono ?_
        rintro e w10 ⟨a10, c10, rfl, hrow, hb10, hF⟩
        have HM10 := Lib.hid (HM9.out.frm0 hF)
        have HCP10 := Lib.hid (HCP9.out.frm hF)
        have HW10 := Lib.hid (HW9.out.frm hF)
        have HF10 := Lib.hid (HF9.out.trans (T := []) hF (by simp))
        have HX10 := Lib.hid (hF.obj HX9.out (by simp))
        have hpa := plain_any (SlAt.of_row Ins.enc_len hrow Hql.out) (show q.n ≤ 80 by omega)
        have Hpa := Lib.hid hpa
        have h910 := hF.size
        simp only [World.size_alloc] at h910
        clear hrow hb10 hF hpa HM9 HCP9 HW9 HF9 HX9
        go_wp2_with fail
        refine Hpa.out.mono ?_
        rintro e w11 ⟨ap, cp, rfl, hrow⟩
        have hF := Frm.of_below (S := []) hrow.below (Nat.le_refl _)
        have hbp := betw_of hrow
        have h1011 := hF.size
        have hka : KeepAt lo hiB w11.heap.size m w9.heap.size M aw C.sn cw r x ap cp q w11 :=
          ⟨HM10.out.frm0 hF, HW10.out.frm hF, hF.obj HX10.out (by simp), SlAt.of_row Ins.enc_len hrow.row Hql.out, HB8.out.mono (by have := Hhi.out; omega) (by omega), ⟨by have := Hhi.out; omega, by omega⟩, hbp.mono (by have := Hhi.out; omega) (Nat.le_refl _), by have := Hhi.out; omega, Nat.le_refl _⟩
        generalize htop : w11.heap.size = top at hka
        generalize hb11 : w9.heap.size = b11 at *
        have HKA := Lib.hid hka
        have HCP11 := Lib.hid (HCP10.out.frm hF)
        have HF11 := Lib.hid (HF10.out.trans (T := []) hF (by simp))
        have htop2 : lo ≤ top := by have := Hhi.out; omega
        clear hrow hF hbp hka Hpa HM10 HCP10 HW10 HF10 HX10 HB8 HM7 h78 h89 h910 h1011 htop Hhi hlo7
        obtain ⟨o0, o1, o2, o3, o4, o5⟩ := cells6 HCP11.out.box
        have zo := World.block_lt_of_cell? _ _ o0
        dsimp only at zo
        go_wp2_with fail
        go_loopw [13] (fun iv wr => ∃ i : Nat, i ≤ C.pn ∧ iv = .int .i64 (i : Int) ∧ CpIn C w1.heap.size lo w1.heap.size a1 c1 ds a2 c2' a3 c3' wr ∧ KeepAt lo hiB top m b11 M aw C.sn cw r x ap cp q wr ∧ Frm [] w wr) (fun iv _ => C.pn - (intOf iv).toNat)
        case atStart => exact ⟨0, Nat.zero_le _, rfl, HCP11.out, HKA.out, HF11.out⟩
        case round =>
          clear o0 o1 o2 o3 o4 o5 zo HCP11 HKA HF11
          obtain ⟨i, hi, rfl, hcp, hka, hfw⟩ := hrel
          have HCP := Lib.hid hcp
          have HKA := Lib.hid hka
          have HFW := Lib.hid hfw
          clear hcp hka hfw
          obtain ⟨o0, o1, o2, o3, o4, o5⟩ := cells6 HCP.out.box
          have zo := World.block_lt_of_cell? _ _ o0
          dsimp only at zo
          by_cases hlt : i < C.pn
          · obtain ⟨b, off, y, hca, hbl, hy, s0⟩ := HCP.out.hdr.pgAt hlt
            have hym := List.mem_of_getElem? hy
            have Hym := Lib.hid hym
            have Hca := Lib.hid hca
            have Hy := Lib.hid hy
            have hyn : y.n ≤ 80 := by
              have e1 := congrArg (·[i]?) (show ds.map Pg.l = C.ps.map Pg.l by rw [Hdm.out, List.take_of_length_le (by rw [Hpl.out]; exact Nat.le_refl _)])
              obtain ⟨p', hp'⟩ : ∃ p', C.ps[i]? = some p' := ⟨_, List.getElem?_eq_getElem (by have := Hpl.out; omega)⟩
              simp only [List.getElem?_map, hy, hp', Option.map_some, Option.some.injEq] at e1
              have h1 := (HC.out.is_ p' (List.mem_of_getElem? hp')).1
              have h2 := Hfew.out.ps p' (List.mem_of_getElem? hp')
              have h3 := Hdn.out y hym
              rw [e1] at h3
              omega
            rw [hca] at o0
            clear hca hym hy
            go_wp2_with fail
            go_loopw [14] (fun jv wr => ∃ j : Nat, j ≤ y.n ∧ jv = .int .i64 (j : Int) ∧ CpIn C w1.heap.size lo w1.heap.size a1 c1 ds a2 c2' a3 c3' wr ∧ KeepAt lo hiB top m b11 M aw C.sn cw r x ap cp q wr ∧ Frm [] w wr) (fun jv _ => y.n - (intOf jv).toNat)
            case atStart => exact ⟨0, Nat.zero_le _, rfl, HCP.out, HKA.out, HFW.out⟩
            case round =>
              clear o0 o1 o2 o3 o4 o5 zo s0 HCP HKA HFW
              obtain ⟨j, hj, rfl, hcp, hka, hfw⟩ := hrel
              have HCP := Lib.hid hcp
              have HKA := Lib.hid hka
              have HFW := Lib.hid hfw
              clear hcp hka hfw
              obtain ⟨o0, o1, o2, o3, o4, o5⟩ := cells6 HCP.out.box
              have zo := World.block_lt_of_cell? _ _ o0
              dsimp only at zo
              obtain ⟨b', off', y', hca', hbl', hy', s0⟩ := HCP.out.hdr.pgAt hlt
              rw [Hca.out] at hca'
              simp only [Option.some.injEq, Addr.mk.injEq, and_true] at hca'
              obtain ⟨rfl, rfl⟩ := hca'
              obtain rfl : y = y' := by have := Hy.out; rw [hy'] at this; exact (Option.some.inj this).symm
              rw [Hca.out] at o0
              clear hy'
              by_cases hlt2 : j < y.n
              · obtain ⟨g, hga, hgl, hgc, fz, hcs⟩ := (HCP.out.rows y Hym.out).at_ (by omega)
                obtain ⟨u0, t0⟩ := hcs (j * 5) (by omega)
                obtain ⟨u1, t1⟩ := hcs (j * 5 + 1) (by omega)
                obtain ⟨u2, t2⟩ := hcs (j * 5 + 2) (by omega)
                obtain ⟨u3, t3⟩ := hcs (j * 5 + 3) (by omega)
                obtain ⟨u4, t4⟩ := hcs (j * 5 + 4) (by omega)
                have hbk : CpBlk ds a2 a3 g := .inl ⟨y, Hym.out, _, hga, rfl⟩
                have hap := HCP.out.apart g hbk
                have Hbk := Lib.hid hbk
                rw [hga] at s0
                have gb1 : (0 : Int) ≤ (j : Int) := by omega
                have gb2 : (j : Int) < (y.n : Int) := by omega
                clear hcs hbk hga
                go_wp2_with fail
                go_roundw
                case rel => exact ⟨j + 1, by omega, by go_num, HCP.out.puts Hbk.out [.int .i64 15, .int .i64 9, .int .i64 0, .int .i64 0, .int .i64 0] (j * 5), HKA.out.puts (.inl hap.2.1) [.int .i64 15, .int .i64 9, .int .i64 0, .int .i64 0, .int .i64 0] (j * 5), frm0_puts HFW.out (by omega) [.int .i64 15, .int .i64 9, .int .i64 0, .int .i64 0, .int .i64 0] (j * 5)⟩
                case measure => simp [intOf]; omega
              · obtain rfl : j = y.n := by omega
                go_wp2_with fail
                go_roundw
                case rel => exact ⟨i + 1, by omega, by go_num, HCP.out, HKA.out, HFW.out⟩
                case measure => simp [intOf]; omega
          · obtain rfl : i = C.pn := by omega
            go_wp2_with fail
            go_loopw [15] (fun iv wr => ∃ i : Nat, i ≤ C.ln ∧ iv = .int .i64 (i : Int) ∧ CpIn C w1.heap.size lo w1.heap.size a1 c1 ds a2 c2' a3 c3' wr ∧ KeepAt lo hiB top m b11 M aw C.sn cw r x ap cp q wr ∧ Frm [] w wr) (fun iv _ => C.ln - (intOf iv).toNat)
            case atStart => exact ⟨0, Nat.zero_le _, rfl, HCP.out, HKA.out, HFW.out⟩
            case round =>
              clear o0 o1 o2 o3 o4 o5 zo HCP HKA HFW hlt hi
              obtain ⟨i, hi, rfl, hcp, hka, hfw⟩ := hrel
              have HCP := Lib.hid hcp
              have HKA := Lib.hid hka
              have HFW := Lib.hid hfw
              clear hcp hka hfw
              obtain ⟨o0, o1, o2, o3, o4, o5⟩ := cells6 HCP.out.box
              have zo := World.block_lt_of_cell? _ _ o0
              dsimp only at zo
              by_cases hlt : i < C.ln
              · obtain ⟨g, hga, hgl, hgc, fz, hcs⟩ := HCP.out.pl.at_ (by omega)
                obtain ⟨u0, t0⟩ := hcs (i * 5) (by omega)
                obtain ⟨u1, t1⟩ := hcs (i * 5 + 1) (by omega)
                obtain ⟨u2, t2⟩ := hcs (i * 5 + 2) (by omega)
                obtain ⟨u3, t3⟩ := hcs (i * 5 + 3) (by omega)
                obtain ⟨u4, t4⟩ := hcs (i * 5 + 4) (by omega)
                have hbk : CpBlk ds a2 a3 g := .inr (.inl ⟨_, hga, rfl⟩)
                have hap := HCP.out.apart g hbk
                have Hbk := Lib.hid hbk
                rw [hga] at o1
                have gb1 : (0 : Int) ≤ (i : Int) := by omega
                have gb2 : (i : Int) < (C.ln : Int) := by omega
                clear hcs hbk hga
                go_wp2_with fail
                go_roundw
                case rel => exact ⟨i + 1, by omega, by go_num, HCP.out.puts Hbk.out [.int .i64 (-1), .int .i64 7, .int .i64 7, .int .i64 7, .int .i64 7] (i * 5), HKA.out.puts (.inl hap.2.1) [.int .i64 (-1), .int .i64 7, .int .i64 7, .int .i64 7, .int .i64 7] (i * 5), frm0_puts HFW.out (by omega) [.int .i64 (-1), .int .i64 7, .int .i64 7, .int .i64 7, .int .i64 7] (i * 5)⟩
                case measure => simp [intOf]; omega
              · obtain rfl : i = C.ln := by omega
                go_wp2_with fail
                go_loopw [16] (fun iv wr => ∃ i : Nat, i ≤ C.sn ∧ iv = .int .i64 (i : Int) ∧ CpIn C w1.heap.size lo w1.heap.size a1 c1 ds a2 c2' a3 c3' wr ∧ KeepAt lo hiB top m b11 M aw C.sn cw r x ap cp q wr ∧ Frm [] w wr) (fun iv _ => C.sn - (intOf iv).toNat)
                case atStart => exact ⟨0, Nat.zero_le _, rfl, HCP.out, HKA.out, HFW.out⟩
                case round =>
                  clear o0 o1 o2 o3 o4 o5 zo HCP HKA HFW hlt hi
                  obtain ⟨i, hi, rfl, hcp, hka, hfw⟩ := hrel
                  have HCP := Lib.hid hcp
                  have HKA := Lib.hid hka
                  have HFW := Lib.hid hfw
                  clear hcp hka hfw
                  obtain ⟨o0, o1, o2, o3, o4, o5⟩ := cells6 HCP.out.box
                  have zo := World.block_lt_of_cell? _ _ o0
                  dsimp only at zo
                  by_cases hlt : i < C.sn
                  · obtain ⟨g, hga, hgl, hgc, fz, hcs⟩ := HCP.out.st.at_ (by omega)
                    obtain ⟨u0, t0⟩ := hcs (i * 4) (by omega)
                    obtain ⟨u1, t1⟩ := hcs (i * 4 + 1) (by omega)
                    obtain ⟨u2, t2⟩ := hcs (i * 4 + 2) (by omega)
                    obtain ⟨u3, t3⟩ := hcs (i * 4 + 3) (by omega)
                    have hbk : CpBlk ds a2 a3 g := .inr (.inr ⟨_, hga, rfl⟩)
                    have hap := HCP.out.apart g hbk
                    have Hbk := Lib.hid hbk
                    rw [hga] at o2
                    have gb1 : (0 : Int) ≤ (i : Int) := by omega
                    have gb2 : (i : Int) < (C.sn : Int) := by omega
                    clear hcs hbk hga
                    go_wp2_with fail
                    go_roundw
                    case rel => exact ⟨i + 1, by omega, by go_num, HCP.out.puts Hbk.out [.int .i64 0, .int .i64 (-1), .int .i64 0, .int .i64 0] (i * 4), HKA.out.puts (.inl hap.2.1) [.int .i64 0, .int .i64 (-1), .int .i64 0, .int .i64 0] (i * 4), frm0_puts HFW.out (by omega) [.int .i64 0, .int .i64 (-1), .int .i64 0, .int .i64 0] (i * 4)⟩
                    case measure => simp [intOf]; omega
                  · obtain rfl : i = C.sn := by omega
                    go_wp2_with fail
                    refine (K3.out _ _ HKA.out.mod).mono ?_
                    rintro e w12 ⟨an, cn, r', rfl, t1, t2, t3, hr, hb, hF⟩
                    obtain rfl : r = r' := asc_unique R.out.1 t1 (R.out.2.1.symm.trans t2)
                    have hkt := HKA.out.topB
                    have HKA12 := Lib.hid (HKA.out.frm0 hF)
                    have HFW12 := Lib.hid (HFW.out.trans (T := []) hF (by simp))
                    have HR12 := Lib.hid hr
                    have hs12 := hF.size
                    have Hbn := Lib.hid (show ∀ y, an = some y → top ≤ y.block from fun y hy => by have := hb y hy; omega)
                    clear t1 t2 t3 hr hb hF HKA HFW HCP o0 o1 o2 o3 o4 o5 zo hlt hi
                    go_wp2_with fail
                    refine (K2.out _ _ HKA12.out.mod).mono ?_
                    rintro e w13 ⟨a13, c13, rfl, hrow, hb13, hF⟩
                    have hr13 := hF.row HR12.out (by simp)
                    have HKA13 := Lib.hid (HKA12.out.frm0 hF)
                    have HFW13 := Lib.hid (HFW12.out.trans (T := []) hF (by simp))
                    have Hb13 := Lib.hid (show ∀ y, a13 = some y → top ≤ y.block from fun y hy => by have := hb13 y hy; omega)
                    have HN13 := Lib.hid (EvsAt.of_row hr13 R.out.2.2)
                    have HP13 := Lib.hid (SlAt.of_row Ins.enc_len hrow Hql.out)
                    have HOw1 := Lib.hid (show OwnSome w13 65 7 an C.sn cn from ⟨_, hr13⟩)
                    have HOw2 := Lib.hid (show OwnSome w13 58 5 a13 q.n c13 from ⟨_, hrow⟩)
                    obtain ⟨x0, x1, x2, x3⟩ := cells4 HKA13.out.fst
                    have zx := World.block_lt_of_cell? _ _ x0
                    dsimp only at zx
                    have hs : ∀ W, Frm [] w13 W → W.cell? ⟨b11, 0, none⟩ = some (.int .i64 x.f0) ∧ W.cell? ⟨b11, 1, none⟩ = some (.int .i64 x.f1) ∧ W.cell? ⟨b11, 2, none⟩ = some (.int .i64 x.f2) ∧ W.cell? ⟨b11, 3, none⟩ = some (.int .i64 x.f3) ∧ Frm [] w13 W := fun W hW => ⟨hW.cell x0 (by simp), hW.cell x1 (by simp), hW.cell x2 (by simp), hW.cell x3 (by simp), hW⟩
                    have HS := Lib.hid hs
                    have hcmp : ∀ W, Frm [] w13 W → Calls Tryd.prog 18 #[.slice aw C.sn cw, .slice an C.sn cn] W (Says (.bool true) W) := fun W hW => by
                      have h := events_any W aw C.sn cw r an C.sn cn r (HKA13.out.was.frm hW) (HN13.out.frm hW) (by omega)
                      rwa [show decide (r = r) = true by simp] at h
                    have Hcmp := Lib.hid hcmp
                    have gq : ∀ W, (binOp BinOp.neq 47 (.agg #[.int .i64 x.f0, .int .i64 x.f1, .int .i64 x.f2, .int .i64 x.f3]) (.agg #[.int .i64 x.f0, .int .i64 x.f1, .int .i64 x.f2, .int .i64 x.f3])).run Tryd.prog W = .ok (.bool false) W := fun W => st_neq x W
                    have gg := st_guard
                    clear hrow hb13 hr13 hF hs hcmp HKA12 HFW12 HR12 x0 x1 x2 x3
                    go_wp2_with fail
                    go_region_held3 (fun w' => w'.cell? ⟨b11, 0, none⟩ = some (.int .i64 x.f0) ∧ w'.cell? ⟨b11, 1, none⟩ = some (.int .i64 x.f1) ∧ w'.cell? ⟨b11, 2, none⟩ = some (.int .i64 x.f2) ∧ w'.cell? ⟨b11, 3, none⟩ = some (.int .i64 x.f3) ∧ Frm [] w13 w')
                      (first | exact HS.out _ (Frm.refl _ _).drew | exact HS.out _ H6.out | exact HS.out _ H7.out | exact HS.out _ H8.out)
                      (first
                        | (go_at_call 18; refine (Hcmp.out _ (Frm.refl _ _).drew).mono ?_; rintro e w14 ⟨rfl, hF⟩; have H6 := Lib.hid ((Frm.refl [] w13).drew.trans (T := []) hF (by simp)); clear hF)
                        | (go_at_call 21; refine (K1.out _ _ (HKA13.out.mod.frm0 H6.out)).mono ?_; rintro e w15 ⟨rfl, hF⟩; have H7 := Lib.hid (H6.out.trans (T := []) hF (by simp)); clear hF)
                        | (go_at_call 22; refine (same_any (SlAt.frm HP13.out H7.out) (by omega) (SlAt.frm HKA13.out.prg H7.out)).mono ?_; rintro e w16 ⟨rfl, hF⟩; have H8 := Lib.hid (H7.out.trans (T := []) hF (by simp)); clear hF))
                    have HO1 := Lib.hid (HOw1.out.frm0 H8.out)
                    have HO2 := Lib.hid (HOw2.out.frm0 H8.out)
                    have HKA := Lib.hid (HKA13.out.frm0 H8.out)
                    have HFW := Lib.hid (HFW13.out.trans (T := []) H8.out (by simp))
                    clear HS Hcmp HOw1 HOw2 HKA13 HFW13 H6 H7 H8 HN13 HP13 zx
                    go_wp2_with fail
                    go_loopw [19] (fun iv wr => ∃ i : Nat, i ≤ C.sn ∧ iv = .int .i64 (i : Int) ∧ OwnSome wr 65 7 an C.sn cn ∧ OwnSome wr 58 5 a13 q.n c13 ∧ KeepAt lo hiB top m b11 M aw C.sn cw r x ap cp q wr ∧ Frm [] w wr) (fun iv _ => C.sn - (intOf iv).toNat)
                    case atStart => exact ⟨0, Nat.zero_le _, rfl, HO1.out, HO2.out, HKA.out, HFW.out⟩
                    case round =>
                      clear HO1 HO2 HKA HFW
                      obtain ⟨i, hi, rfl, ho1, ho2, hka, hfw⟩ := hrel
                      have HO1 := Lib.hid ho1
                      have HO2 := Lib.hid ho2
                      have HKA := Lib.hid hka
                      have HFW := Lib.hid hfw
                      clear ho1 ho2 hka hfw
                      by_cases hlt : i < C.sn
                      · obtain ⟨g, rfl, hgl, hgc, fz, hcs⟩ := HO1.out.at_ (by omega)
                        obtain ⟨u0, t0⟩ := hcs (i * 7) (by omega)
                        obtain ⟨u1, t1⟩ := hcs (i * 7 + 1) (by omega)
                        obtain ⟨u2, t2⟩ := hcs (i * 7 + 2) (by omega)
                        obtain ⟨u3, t3⟩ := hcs (i * 7 + 3) (by omega)
                        obtain ⟨u4, t4⟩ := hcs (i * 7 + 4) (by omega)
                        obtain ⟨u5, t5⟩ := hcs (i * 7 + 5) (by omega)
                        obtain ⟨u6, t6⟩ := hcs (i * 7 + 6) (by omega)
                        have htg := Hbn.out _ rfl
                        dsimp only at htg
                        have gb1 : (0 : Int) ≤ (i : Int) := by omega
                        have gb2 : (i : Int) < (C.sn : Int) := by omega
                        clear hcs
                        go_wp2_with fail
                        go_roundw
                        case rel => exact ⟨i + 1, by omega, by go_num, own_puts HO1.out [.int .i64 0, .int .i64 0, .int .i64 0, .int .i64 0, .int .i64 0, .int .i64 0, .int .i64 0] (i * 7), own_puts HO2.out [.int .i64 0, .int .i64 0, .int .i64 0, .int .i64 0, .int .i64 0, .int .i64 0, .int .i64 0] (i * 7), HKA.out.puts (.inr htg) [.int .i64 0, .int .i64 0, .int .i64 0, .int .i64 0, .int .i64 0, .int .i64 0, .int .i64 0] (i * 7), frm0_puts HFW.out (by omega) [.int .i64 0, .int .i64 0, .int .i64 0, .int .i64 0, .int .i64 0, .int .i64 0, .int .i64 0] (i * 7)⟩
                        case measure => simp [intOf]; omega
                      · obtain rfl : i = C.sn := by omega
                        go_wp2_with fail
                        go_loopw [20] (fun iv wr => ∃ i : Nat, i ≤ q.n ∧ iv = .int .i64 (i : Int) ∧ OwnSome wr 65 7 an C.sn cn ∧ OwnSome wr 58 5 a13 q.n c13 ∧ KeepAt lo hiB top m b11 M aw C.sn cw r x ap cp q wr ∧ Frm [] w wr) (fun iv _ => q.n - (intOf iv).toNat)
                        case atStart => exact ⟨0, Nat.zero_le _, rfl, HO1.out, HO2.out, HKA.out, HFW.out⟩
                        case round =>
                          clear HO1 HO2 HKA HFW hlt hi
                          obtain ⟨i, hi, rfl, ho1, ho2, hka, hfw⟩ := hrel
                          have HO1 := Lib.hid ho1
                          have HO2 := Lib.hid ho2
                          have HKA := Lib.hid hka
                          have HFW := Lib.hid hfw
                          clear ho1 ho2 hka hfw
                          by_cases hlt : i < q.n
                          · obtain ⟨g, rfl, hgl, hgc, fz, hcs⟩ := HO2.out.at_ (by omega)
                            obtain ⟨u0, t0⟩ := hcs (i * 5) (by omega)
                            obtain ⟨u1, t1⟩ := hcs (i * 5 + 1) (by omega)
                            obtain ⟨u2, t2⟩ := hcs (i * 5 + 2) (by omega)
                            obtain ⟨u3, t3⟩ := hcs (i * 5 + 3) (by omega)
                            obtain ⟨u4, t4⟩ := hcs (i * 5 + 4) (by omega)
                            have htg := Hb13.out _ rfl
                            dsimp only at htg
                            have gb1 : (0 : Int) ≤ (i : Int) := by omega
                            have gb2 : (i : Int) < (q.n : Int) := by omega
                            clear hcs
                            go_wp2_with fail
                            go_roundw
                            case rel => exact ⟨i + 1, by omega, by go_num, own_puts HO1.out [.int .i64 0, .int .i64 0, .int .i64 0, .int .i64 0, .int .i64 0] (i * 5), own_puts HO2.out [.int .i64 0, .int .i64 0, .int .i64 0, .int .i64 0, .int .i64 0] (i * 5), HKA.out.puts (.inr htg) [.int .i64 0, .int .i64 0, .int .i64 0, .int .i64 0, .int .i64 0] (i * 5), frm0_puts HFW.out (by omega) [.int .i64 0, .int .i64 0, .int .i64 0, .int .i64 0, .int .i64 0] (i * 5)⟩
                            case measure => simp [intOf]; omega
                          · obtain rfl : i = q.n := by omega
                            go_wp2_with fail
                            refine (K3.out _ _ HKA.out.mod).mono ?_
                            rintro e w17 ⟨ae, ce, r', rfl, t1, t2, t3, hr, _, hF⟩
                            obtain rfl : r = r' := asc_unique R.out.1 t1 (R.out.2.1.symm.trans t2)
                            have HKA17 := Lib.hid (HKA.out.frm0 hF)
                            have HFW17 := Lib.hid (HFW.out.trans (T := []) hF (by simp))
                            have hcmp := events_any w17 aw C.sn cw r ae C.sn ce r (HKA17.out.was) (EvsAt.of_row hr t3) (by omega)
                            rw [show decide (r = r) = true by simp] at hcmp
                            have Hcmp := Lib.hid hcmp
                            clear t1 t2 t3 hr hF hcmp HKA HFW HO1 HO2
                            go_wp2_with fail
                            refine Hcmp.out.mono ?_
                            rintro e w18 ⟨rfl, hF⟩
                            have HKA18 := Lib.hid (HKA17.out.frm0 hF)
                            have HFW18 := Lib.hid (HFW17.out.trans (T := []) hF (by simp))
                            clear hF Hcmp HKA17 HFW17
                            go_wp2_with fail
                            refine (K2.out _ _ HKA18.out.mod).mono ?_
                            rintro e w19 ⟨a19, c19, rfl, hrow, _, hF⟩
                            have HKA19 := Lib.hid (HKA18.out.frm0 hF)
                            have HFW19 := Lib.hid (HFW18.out.trans (T := []) hF (by simp))
                            have Hsm := Lib.hid (same_any (SlAt.of_row Ins.enc_len hrow Hql.out) (show q.n ≤ 80 by omega) HKA19.out.prg)
                            clear hrow hF HKA18 HFW18
                            go_wp2_with fail
                            refine Hsm.out.mono ?_
                            rintro e w20 ⟨rfl, hF⟩
                            have HFW20 := Lib.hid (HFW19.out.trans (T := []) hF (by simp))
                            clear hF Hsm HKA19 HFW19
                            go_wp2_with fail
                            refine (awake_any (HO.out.frm HFW20.out)).mono ?_
                            rintro e w21 ⟨rfl, hF⟩
                            have HFW21 := Lib.hid (HFW20.out.trans (T := []) hF (by simp))
                            clear hF
                            go_wp2_with fail
                            go_ret
                            exact ⟨rfl, HFW21.out.below (Nat.le_refl _) (by simp)⟩
      · have hcl := check_like HDL.out
        have hnb := new_bad (HO.out.frm HF6.out) HD.out (by rw [hcl]; exact hc)
        rw [hcl] at hnb
        have g1 : (checkC C == 0) = false := by rw [beq_eq_false_iff_ne]; exact hc
        have g2 : (checkC C != 0) = true := by rw [bne_iff_ne]; exact hc
        have Hnb := Lib.hid hnb
        clear hnb hcl hc
        refine Hnb.out.mono ?_
        rintro e w7 ⟨rfl, hF⟩
        have HF7 := Lib.hid (HF6.out.trans (T := []) hF (by simp))
        clear hF
        go_wp2_with fail
        refine (awake_any (HO.out.frm HF7.out)).mono ?_
        rintro e w8 ⟨rfl, hF⟩
        have HF8 := Lib.hid (HF7.out.trans (T := []) hF (by simp))
        clear hF
        go_wp2_with fail
        go_ret
        exact ⟨rfl, HF8.out.below (Nat.le_refl _) (by simp)⟩
theorem keeps_law {C : Cf} {w : World} (hO : Ops w) (hC : CfAt w C) (hN : CfNil C) : Calls Tryd.prog 4 #[C.val] w (LawTrue w) := by
  cases hf : fewC C
  · exact keeps_few hO hC hf
  · exact keeps_in hO hC hN hf
end Go.Proofs.YtbkadfdpboghiaaDoor
