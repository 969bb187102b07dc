/- Package model's laws: a configuration as the document has it (Plain). -/
import Derived.Test.YtbkadfdpboghiaaDoorCodeG
import Derived.Deep.RegionHeld3
namespace Go.Proofs.YtbkadfdpboghiaaDoor
open Go.RowKit Go.Maps

/-- Programs that are only read, each in blocks that are held. -/
def insR (ds : List Pg) : World → List Nat → Prop := fun w F => ∀ p ∈ ds, SlAt Ins.enc 5 w p.a p.n p.c p.l ∧ NilOk p.a p.n p.c ∧ ∀ x, p.a = some x → x.block ∈ F
theorem insR_stable (ds : List Pg) : Stable (insR ds) := fun S w w' F h hf hd p hp => by
  obtain ⟨h1, h2, h3⟩ := h p hp
  exact ⟨h1.frmS hf (fun x hx => hd _ (h3 x hx)), h2, h3⟩
theorem Holds.insStart {R : World → List Nat → Prop} {B : Nat} {w0 w : World} {L : List (Nat × Obj)} (h : Holds B w0 R w L) : Holds B w0 (sepR R (insR [])) w L := by
  have h1 := sepR_comm h.empty
  exact h1.conv (Conv.right fun w F hF _ => ⟨F, fun p hp => absurd hp (by simp), fun _ => Iff.rfl⟩)
theorem insR_more {ds : List Pg} {p : Pg} {t : TypeId} (hl : p.l.length = p.n) : Conv (sepR (rowR t 5 (.slice p.a p.n p.c) p.n (flat Ins.enc p.l)) (insR ds)) (insR (ds ++ [p])) := fun w F hF hlt => by
  obtain ⟨F1, F2, ⟨hrow, hF1⟩, hins, _, _, _, rfl⟩ := hF
  refine ⟨F1 ++ F2, fun q hq => ?_, fun _ => Iff.rfl⟩
  rcases List.mem_append.1 hq with hq | hq
  · obtain ⟨h1, h2, h3⟩ := hins q hq
    exact ⟨h1, h2, fun x hx => by simp [h3 x hx]⟩
  · simp only [List.mem_singleton] at hq
    subst hq
    refine ⟨SlAt.of_row Ins.enc_len hrow hl, row_nil_cap hrow, fun x hx => ?_⟩
    rw [hF1, hx]
    simp [Value.ownBlock]
theorem Holds.theIns {B : Nat} {w0 w : World} {L : List (Nat × Obj)} {ds : List Pg} {Q : World → List Nat → Prop} (h : Holds B w0 (sepR (insR ds) Q) w L) : ∀ p ∈ ds, Ins.at_ w p.a p.n p.c p.l ∧ NilOk p.a p.n p.c := by
  obtain ⟨F, h1, _⟩ := h
  obtain ⟨F1, F2, hR, _⟩ := h1.res
  exact fun p hp => ⟨(hR p hp).1, (hR p hp).2.1⟩

abbrev outO (v1 v2 v3 : Value) (C : Cf) : Obj := .cells #[v1, v2, v3, .int .i64 C.fin, .int .i64 C.fuel, .int .i64 C.fan] 33
abbrev zeroO : Obj := .cells #[.slice none 0 0, .slice none 0 0, .slice none 0 0, .int .i64 0, .int .i64 0, .int .i64 0] 33
abbrev boxes3 (C : Cf) (b : Nat) (v1 v2 v3 : Value) : List (Nat × Obj) := [(b + 2, outO v1 v2 v3 C), (b + 1, zeroO), (b, C.obj 26)]
/-- Plain, behind k programs. -/
def PlP (C : Cf) (w : World) (iv : Value) (wr : World) : Prop :=
  ∃ (k : Nat) (a : Option Addr) (c : Nat) (ds : List Pg), k ≤ C.pn ∧ iv = .int .i64 (k : Int) ∧ ds.length = k ∧ ds.map Pg.l = (C.ps.take k).map Pg.l ∧
    Holds w.heap.size w (sepR (rowR 54 1 (.slice a k c) k (flat Pg.enc ds)) (insR ds)) wr (boxes3 C w.heap.size (.slice a k c) (.slice none 0 0) (.slice none 0 0))
/-- Behind k places. -/
def PlL (C : Cf) (w : World) (a1 : Option Addr) (c1 : Nat) (ds : List Pg) (iv : Value) (wr : World) : Prop :=
  ∃ (k : Nat) (a : Option Addr) (c : Nat), k ≤ C.ln ∧ iv = .int .i64 (k : Int) ∧
    Holds w.heap.size w (sepR (rowR 50 5 (.slice a k c) k (flat Pl.enc (C.ls.take k))) (sepR (rowR 54 1 (.slice a1 C.pn c1) C.pn (flat Pg.enc ds)) (insR ds))) wr (boxes3 C w.heap.size (.slice a1 C.pn c1) (.slice a k c) (.slice none 0 0))
/-- Behind k starts. -/
def PlS (C : Cf) (w : World) (a1 : Option Addr) (c1 : Nat) (ds : List Pg) (a2 : Option Addr) (c2 : Nat) (iv : Value) (wr : World) : Prop :=
  ∃ (k : Nat) (a : Option Addr) (c : Nat), k ≤ C.sn ∧ iv = .int .i64 (k : Int) ∧
    Holds w.heap.size w (sepR (rowR 73 4 (.slice a k c) k (flat St.enc (C.ss.take k))) (sepR (rowR 50 5 (.slice a2 C.ln c2) C.ln (flat Pl.enc C.ls)) (sepR (rowR 54 1 (.slice a1 C.pn c1) C.pn (flat Pg.enc ds)) (insR ds)))) wr
      (boxes3 C w.heap.size (.slice a1 C.pn c1) (.slice a2 C.ln c2) (.slice a k c))
/-- What Plain makes. -/
def PlainMade (C : Cf) (w : World) (e : Ending) (w' : World) : Prop := ∃ D : Cf, e = .returned D.val ∧ CfAt w' D ∧ CfNil D ∧ C.Like D ∧ Frm [] w w'

/-- What Plain has made. -/
def plainD (C : Cf) (a1 : Option Addr) (c1 : Nat) (ds : List Pg) (a2 : Option Addr) (c2 : Nat) (a3 : Option Addr) (c3 : Nat) : Cf :=
  { C with pa := a1, pc := c1, ps := ds, la := a2, lc := c2, sa := a3, sc := c3 }
abbrev plainW (C : Cf) (g : Nat) (v1 v2 v3 : Value) (w : World) : World :=
  (((((w.setCell ⟨g, 0, none⟩ v1).setCell ⟨g, 1, none⟩ v2).setCell ⟨g, 2, none⟩ v3).setCell ⟨g, 3, none⟩ (.int .i64 C.fin)).setCell ⟨g, 4, none⟩ (.int .i64 C.fuel)).setCell ⟨g, 5, none⟩ (.int .i64 C.fan)
theorem plain_end {C : Cf} {w wr : World} {a1 a2 a3 : Option Addr} {c1 c2 c3 : Nat} {ds : List Pg} {v1 v2 v3 : Value}
    (h : Holds w.heap.size w (sepR (rowR 73 4 (.slice a3 C.sn c3) C.sn (flat St.enc C.ss)) (sepR (rowR 50 5 (.slice a2 C.ln c2) C.ln (flat Pl.enc C.ls)) (sepR (rowR 54 1 (.slice a1 C.pn c1) C.pn (flat Pg.enc ds)) (insR ds)))) wr (boxes3 C w.heap.size v1 v2 v3))
    (hst : Stable (sepR (rowR 73 4 (.slice a3 C.sn c3) C.sn (flat St.enc C.ss)) (sepR (rowR 50 5 (.slice a2 C.ln c2) C.ln (flat Pl.enc C.ls)) (sepR (rowR 54 1 (.slice a1 C.pn c1) C.pn (flat Pg.enc ds)) (insR ds)))))
    (hdl : ds.length = C.pn) (hdm : ds.map Pg.l = C.ps.map Pg.l) (hll : C.ls.length = C.ln) (hsl : C.ss.length = C.sn) {u1 u2 u3 : Value} :
    CfAt (plainW C (w.heap.size + 1) u1 u2 u3 wr) (plainD C a1 c1 ds a2 c2 a3 c3) ∧ CfNil (plainD C a1 c1 ds a2 c2 a3 c3) ∧ C.Like (plainD C a1 c1 ds a2 c2 a3 c3) ∧ Frm [] w (plainW C (w.heap.size + 1) u1 u2 u3 wr) ∧
      (plainW C (w.heap.size + 1) u1 u2 u3 wr).heap[w.heap.size + 1]? = some (.cells #[u1, u2, u3, .int .i64 C.fin, .int .i64 C.fuel, .int .i64 C.fan] 33) := by
  have h1 := h.sub (M := [(w.heap.size + 1, zeroO)]) (by simp)
  have h2' := ((((((h1.put (L := []) hst (by omega) (by simp) (by simp) 0 u1).put (L := []) hst (by omega) (by simp) (by simp) 1 u2).put (L := []) hst (by omega) (by simp) (by simp) 2 u3).put (L := []) hst (by omega) (by simp) (by simp) 3 (.int .i64 C.fin)).put (L := []) hst (by omega) (by simp) (by simp) 4 (.int .i64 C.fuel)).put (L := []) hst (by omega) (by simp) (by simp) 5 (.int .i64 C.fan))
  have hbx := h2'.box (k := w.heap.size + 1) (o := .cells #[u1, u2, u3, .int .i64 C.fin, .int .i64 C.fuel, .int .i64 C.fan] 33) (by simp)
  have h2 := h2'.sub (M := []) (by simp)
  have r1 := h2.row
  have h3 := h2.conv Conv.exch
  have r2 := h3.row
  have h4 := h2.conv (Conv.third.trans (Conv.refl _))
  have r3 := h4.row
  have h5 := (h2.drop.drop)
  have r4 := (sepR_comm h5).theIns
  have e1 := row_nil_cap r1
  have e2 := row_nil_cap r2
  have e3 := row_nil_cap r3
  exact ⟨⟨SlAt.of_row Pg.enc_len r3 hdl, fun p hp => (r4 p hp).1, SlAt.of_row Pl.enc_len r2 hll, SlAt.of_row St.enc_len r1 hsl⟩, ⟨e3, fun p hp => (r4 p hp).2, e2, e1⟩, ⟨rfl, hdm, rfl, rfl, rfl, rfl, rfl, rfl, rfl⟩, Frm.of_below h2.below (Nat.le_refl _), hbx⟩

theorem infoRInss : (Tryd.prog.info? 54).map (fun i => (i.zero, i.size, i.bytes)) = some (some (.slice none 0 0), 1, 24) := by kernel_rfl
theorem infoRPl : (Tryd.prog.info? 50).map (fun i => (i.zero, i.size, i.bytes)) = some (some (.agg #[.int .i64 0, .int .i64 0, .int .i64 0, .int .i64 0, .int .i64 0]), 5, 40) := by kernel_rfl
theorem infoRSt : (Tryd.prog.info? 73).map (fun i => (i.zero, i.size, i.bytes)) = some (some (.agg #[.int .i64 0, .int .i64 0, .int .i64 0, .int .i64 0]), 4, 32) := by kernel_rfl

set_option maxHeartbeats 8000000 in
set_option maxRecDepth 100000 in
theorem cplain_any {C : Cf} {w : World} (hC : CfAt w C) (hf : C.Few) : Calls Tryd.prog 10 #[C.val] w (PlainMade C w) := by
  have hpl : C.ps.length = C.pn := hC.ps.1
  have hll : C.ls.length = C.ln := hC.ls.1
  have hsl : C.ss.length = C.sn := hC.ss.1
  have hp40 := hf.pn
  have hl40 := hf.ln
  have hs300 := hf.sn
  have h0 := ((((Holds.start w).alloc noneR_stable (C.obj 26)).alloc noneR_stable zeroO).alloc noneR_stable (outO (.slice none 0 0) (.slice none 0 0) (.slice none 0 0) C)).nilRow 54 1
  have h1 := (sepR_comm h0).drop.insStart
  have h2 : Holds w.heap.size w (sepR (rowR 54 1 (.slice none 0 0) 0 (flat Pg.enc [])) (insR [])) ((((w.alloc (C.obj 26)).alloc zeroO).alloc (outO (.slice none 0 0) (.slice none 0 0) (.slice none 0 0) C))) (boxes3 C w.heap.size (.slice none 0 0) (.slice none 0 0) (.slice none 0 0)) := by
    have := h1
    simp only [World.size_alloc] at this
    exact this
  have H2 := Lib.hid h2
  have HC := Lib.hid hC
  have Hf := Lib.hid hf
  have Hpl := Lib.hid hpl
  have Hll := Lib.hid hll
  have Hsl := Lib.hid hsl
  obtain ⟨ip, jp0, jp1, jp2, jp3⟩ := info_parts infoRInss
  have Hip := Lib.hid (And.intro jp0 (And.intro jp1 (And.intro jp2 jp3)))
  obtain ⟨il, jl0, jl1, jl2, jl3⟩ := info_parts infoRPl
  have Hil := Lib.hid (And.intro jl0 (And.intro jl1 (And.intro jl2 jl3)))
  obtain ⟨is, js0, js1, js2, js3⟩ := info_parts infoRSt
  have His := Lib.hid (And.intro js0 (And.intro js1 (And.intro js2 js3)))
  clear h0 h1 h2 hC hf hpl hll hsl jp0 jp1 jp2 jp3 jl0 jl1 jl2 jl3 js0 js1 js2 js3
  go_enter Tryd.func10, Tryd.ntmps10
  go_wp2_with fail
  go_loopw [4] (fun iv wr => PlP C w iv wr) (fun iv _ => C.pn - (intOf iv).toNat)
  case atStart => exact ⟨0, none, 0, [], Nat.zero_le _, rfl, rfl, rfl, H2.out⟩
  case round =>
    obtain ⟨k, a1, c1, ds, hk, rfl, hdl, hdm, hh⟩ := hrel
    have HH := Lib.hid hh
    have Hdl := Lib.hid hdl
    have Hdm := Lib.hid hdm
    obtain ⟨o0, o1, o2, o3, o4, o5⟩ := cells6 (hh.box (k := w.heap.size + 2) (o := outO (.slice a1 k c1) (.slice none 0 0) (.slice none 0 0) C) (by simp))
    obtain ⟨c0, c1', c2, c3, c4, c5⟩ := cells6 (hh.box (k := w.heap.size) (o := C.obj 26) (by simp))
    have z0 := World.block_lt_of_cell? _ _ o0
    dsimp only at z0
    clear hh hdl hdm H2
    by_cases hlt : k < C.pn
    · obtain ⟨b, off, x, hca, hbl, hx, p0⟩ := HC.out.ps.pgAt hlt
      have hxm := List.mem_of_getElem? hx
      have hxn := Hf.out.ps x hxm
      have hfb : Frm [] w wr := Frm.of_below HH.out.below (Nat.le_refl _)
      have hst : Stable (sepR (rowR 54 1 (.slice a1 k c1) k (flat Pg.enc ds)) (insR ds)) := sepR_stable (rowR_stable _ _ _ _ _) (insR_stable _)
      have hkeep : ∀ (R : World → List Nat → Prop) (W : World) (M : List (Nat × Obj)), Holds w.heap.size w R W (M ++ boxes3 C w.heap.size (.slice a1 k c1) (.slice none 0 0) (.slice none 0 0)) → W.cell? ⟨w.heap.size + 2, 0, none⟩ = some (.slice a1 k c1) ∧ W.cell? ⟨w.heap.size, 0, none⟩ = some (.slice (some ⟨b, off, none⟩) C.pn C.pc) ∧ W.cell? ⟨b, off + k, none⟩ = some (.slice x.a x.n x.c) := fun R W M h => by
        obtain ⟨o0, _⟩ := cells6 (h.box (k := w.heap.size + 2) (o := outO (.slice a1 k c1) (.slice none 0 0) (.slice none 0 0) C) (by simp))
        obtain ⟨c0, _⟩ := cells6 (h.box (k := w.heap.size) (o := C.obj 26) (by simp))
        rw [hca] at c0
        exact ⟨o0, c0, (h.oldCell hbl).trans p0⟩
      have hd := HH.out.drew hst
      have hHeld := hkeep _ _ [] hd
      have q0 := (HH.out.oldCell hbl).trans p0
      rw [hca] at c0
      have Hpa := Lib.hid (plain_any (w := wr.drew) (l := x.l) (SlAt.frm (HC.out.is_ x hxm) hfb.drew) hxn)
      have hxl : x.l.length = x.n := (HC.out.is_ x hxm).1
      have Hxl := Lib.hid hxl
      have Hx := Lib.hid hx
      have Hd := Lib.hid hd
      have Hst := Lib.hid hst
      have Hkeep := Lib.hid hkeep
      have hle := HH.out.le
      clear hxm hxn hfb hd hst hx hxl hkeep o0 o1 o2 o3 o4 o5 c1' c2 c3 c4 c5 p0
      go_wp2_with fail
      refine wp_region_N (fun w' => w'.cell? ⟨w.heap.size + 2, 0, none⟩ = some (.slice a1 k c1) ∧ w'.cell? ⟨w.heap.size, 0, none⟩ = some (.slice (some ⟨b, off, none⟩) C.pn C.pc) ∧ w'.cell? ⟨b, off + k, none⟩ = some (.slice x.a x.n x.c)) 10 (by kernel_rfl) ?_
      refine wpAnyN_take (i := 0) (oi := ⟨some 22, _, _, _, _, _⟩) (v := ?_) rfl (by kernel_rfl) (fun _ _ _ h => h) (Or.inl ⟨by rfl, ?_⟩) (by assumption) ?_
      rotate_left
      · (intro w hSw; (try dsimp only at hSw); go_simp; try with_reducible rfl)
      try simp only [Act.put, List.setIfInBounds_toArray, List.set_cons_zero, List.set_cons_succ]
      refine wpAnyN_take (i := 1) (oi := ⟨some 23, _, _, _, _, _⟩) (v := ?_) rfl (by kernel_rfl) (fun _ _ _ h => h) (Or.inl ⟨by rfl, ?_⟩) (by assumption) ?_
      rotate_left
      · (intro w hSw; (try dsimp only at hSw); go_simp; try with_reducible rfl)
      try simp only [Act.put, List.setIfInBounds_toArray, List.set_cons_zero, List.set_cons_succ]
      refine wpAnyN_take (i := 2) (oi := ⟨some 24, _, _, _, _, _⟩) (v := ?_) rfl (by kernel_rfl) (fun _ _ _ h => h) (Or.inl ⟨by rfl, ?_⟩) (by assumption) ?_
      rotate_left
      · (intro w hSw; (try dsimp only at hSw); go_simp; try with_reducible rfl)
      try simp only [Act.put, List.setIfInBounds_toArray, List.set_cons_zero, List.set_cons_succ]
      refine wpAnyN_take (i := 3) (oi := ⟨some 25, _, _, _, _, _⟩) (v := ?_) rfl (by kernel_rfl) (fun _ _ _ h => h) (Or.inl ⟨by rfl, ?_⟩) (by assumption) ?_
      rotate_left
      · (intro w hSw; (try dsimp only at hSw); go_simp; try with_reducible rfl)
      try simp only [Act.put, List.setIfInBounds_toArray, List.set_cons_zero, List.set_cons_succ]
      refine wpAnyN_take (i := 4) (oi := ⟨some 26, _, _, _, _, _⟩) (v := ?_) rfl (by kernel_rfl) (fun _ _ _ h => h) (Or.inl ⟨by rfl, ?_⟩) (by assumption) ?_
      rotate_left
      · (intro w hSw; (try dsimp only at hSw); go_simp; try with_reducible rfl)
      try simp only [Act.put, List.setIfInBounds_toArray, List.set_cons_zero, List.set_cons_succ]
      refine wpAnyN_take (i := 5) (oi := ⟨some 27, _, _, _, _, _⟩) (v := ?_) rfl (by kernel_rfl) (fun _ _ _ h => h) (Or.inl ⟨by rfl, ?_⟩) (by assumption) ?_
      rotate_left
      · (intro w hSw; (try dsimp only at hSw); go_simp; try with_reducible rfl)
      try simp only [Act.put, List.setIfInBounds_toArray, List.set_cons_zero, List.set_cons_succ]
      refine wpAnyN_take (i := 6) (oi := ⟨some 28, _, _, _, _, _⟩) (v := ?_) rfl (by kernel_rfl) (fun _ _ _ h => h) (Or.inl ⟨by rfl, ?_⟩) (by assumption) ?_
      rotate_left
      · (intro w hSw; (try dsimp only at hSw); go_simp; try with_reducible rfl)
      try simp only [Act.put, List.setIfInBounds_toArray, List.set_cons_zero, List.set_cons_succ]
      refine wpAnyN_one (i := 7) (o := ⟨some 29, _, _, _, _, _⟩) (by kernel_rfl) rfl (fun K hK => ?_)
      go_simp
      refine Hpa.out.mono ?_
      rintro e w4 ⟨a4, c4, rfl, hrow⟩
      have h4 := sepR_unit (Hd.out.join Hst.out hrow)
      have h5 : Holds w.heap.size w (sepR (rowR 54 1 (.slice a1 k c1) k (flat Pg.enc ds)) (insR (ds ++ [⟨a4, x.n, c4, x.l⟩]))) w4 (boxes3 C w.heap.size (.slice a1 k c1) (.slice none 0 0) (.slice none 0 0)) :=
        (h4.conv Conv.exch).conv (Conv.right (insR_more (p := ⟨a4, x.n, c4, x.l⟩) Hxl.out))
      have hst5 : Stable (sepR (rowR 54 1 (.slice a1 k c1) k (flat Pg.enc ds)) (insR (ds ++ [⟨a4, x.n, c4, x.l⟩]))) := sepR_stable (rowR_stable _ _ _ _ _) (insR_stable _)
      have h6 := h5.alloc hst5 (.cells #[.slice a4 x.n c4] 54)
      have H6 := Lib.hid h6
      refine hK.out _ _ (fun _ => Hkeep.out _ _ [] h5) ?_
      have hHeld := Hkeep.out _ _ [] h5
      clear hK K hrow h4 h5 h6 hst5
      try simp only [Act.put, List.setIfInBounds_toArray, List.set_cons_zero, List.set_cons_succ]
      refine wpAnyN_one (i := 8) (o := ⟨some 30, _, _, _, _, _⟩) (by kernel_rfl) rfl (fun K hK => ?_)
      go_simp
      refine hK.out _ _ (fun _ => Hkeep.out _ _ [_] H6.out) ?_
      clear hK K hHeld
      try simp only [Act.put, List.setIfInBounds_toArray, List.set_cons_zero, List.set_cons_succ]
      refine wpAnyN_one (i := 9) (o := ⟨some 31, _, _, _, _, _⟩) (by kernel_rfl) rfl (fun K hK => ?_)
      refine step_append_foot rfl (.tmp 23) (.tmp 30) 29 rfl 54 ip (.slice none 0 0) 1 24 Tryd.underlying29 Hip.out.1 Hip.out.2.1 Hip.out.2.2.1 Hip.out.2.2.2 rfl (by decide) (.slice a1 k c1) k (flat Pg.enc ds) rfl H6.out.row ⟨w4.heap.size, 0, none⟩ 1 1 (Pg.mk a4 x.n c4 x.l).enc rfl rfl (cells_new _ _ _) (Pg.enc_one _) (by unfold maxLen; omega) (by omega) ?_
      intro a5 c5' w5 hown hF hnew
      have h7 := H6.out.appended (insR_stable _) hown hF hnew
      rw [show flat Pg.enc ds ++ (Pg.mk a4 x.n c4 x.l).enc = flat Pg.enc (ds ++ [⟨a4, x.n, c4, x.l⟩]) by rw [flat_append, flat_single]] at h7
      refine hK.out _ _ (fun _ => Hkeep.out _ _ [_] h7) ?_
      have h8 := h7.sub (M := boxes3 C w.heap.size (.slice a1 k c1) (.slice none 0 0) (.slice none 0 0)) (fun _ hq => List.mem_cons_of_mem _ hq)
      have ho8 := h8.box (k := w.heap.size + 2) (o := outO (.slice a1 k c1) (.slice none 0 0) (.slice none 0 0) C) (by simp)
      obtain ⟨o0, o1, o2, o3, o4, o5⟩ := cells6 ho8
      have oz := frozen_of_obj ho8 0
      have ol := World.block_lt_of_cell? _ _ o0
      dsimp only at ol
      have hst8 : Stable (sepR (rowR 54 1 (.slice a5 (k + 1) c5') (k + 1) (flat Pg.enc (ds ++ [⟨a4, x.n, c4, x.l⟩]))) (insR (ds ++ [⟨a4, x.n, c4, x.l⟩]))) := sepR_stable (rowR_stable _ _ _ _ _) (insR_stable _)
      have h9 := h8.put (L := []) hst8 (by omega) (by simp) (by simp) 0 (.slice a5 (k + 1) c5')
      have H9 := Lib.hid h9
      clear hK K hown hF hnew h7 h8 ho8 hst8 h9 H6 Hd
      try simp only [Act.put, List.setIfInBounds_toArray, List.set_cons_zero, List.set_cons_succ]
      refine wpAnyN_one (i := 10) (o := ⟨some 32, _, _, _, _, _⟩) (by kernel_rfl) rfl (fun K hK => ?_)
      go_simp
      refine hK.out _ _ (fun h => absurd h (by decide)) ?_
      clear hK K
      try simp only [Act.put, List.setIfInBounds_toArray, List.set_cons_zero, List.set_cons_succ]
      refine wpAnyN_one (i := 11) (o := ⟨none, _, _, _, _, _⟩) (by kernel_rfl) rfl (fun K hK => ?_)
      go_simp
      refine hK.out _ _ (fun h => absurd h (by decide)) ?_
      clear hK K
      try simp only [Act.put, List.setIfInBounds_toArray, List.set_cons_zero, List.set_cons_succ]
      refine wpAnyN_done (by kernel_rfl) ?_ _
      go_wp2_with fail
      go_roundw
      case rel => exact ⟨k + 1, a5, c5', ds ++ [⟨a4, x.n, c4, x.l⟩], by omega, by go_num, by simp [Hdl.out], by rw [List.map_append, Hdm.out, List.take_add_one, Hx.out, List.map_append]; rfl, H9.out⟩
      case measure => simp [intOf]; omega
    · obtain rfl : C.pn = k := by omega
      have hst1 : Stable (sepR (rowR 54 1 (.slice a1 C.pn c1) C.pn (flat Pg.enc ds)) (insR ds)) := sepR_stable (rowR_stable _ _ _ _ _) (insR_stable _)
      have Hst1 := Lib.hid hst1
      have HL0 := Lib.hid (HH.out.nilRow 50 5)
      clear hst1
      go_wp2_with fail
      go_loopw [5] (fun iv wr => PlL C w a1 c1 ds iv wr) (fun iv _ => C.ln - (intOf iv).toNat)
      case atStart => exact ⟨0, none, 0, Nat.zero_le _, rfl, HL0.out⟩
      case round =>
        clear o0 o1 o2 o3 o4 o5 c0 c1' c2 c3 c4 c5 z0 hlt
        obtain ⟨k, a2, c2, hk, rfl, hh⟩ := hrel
        clear HH HL0
        have HH := Lib.hid hh
        obtain ⟨o0, o1, o2, o3, o4, o5⟩ := cells6 (hh.box (k := w.heap.size + 2) (o := outO (.slice a1 C.pn c1) (.slice a2 k c2) (.slice none 0 0) C) (by simp))
        obtain ⟨c0, c1', c2', c3, c4, c5⟩ := cells6 (hh.box (k := w.heap.size) (o := C.obj 26) (by simp))
        have z0 := World.block_lt_of_cell? _ _ o0
        dsimp only at z0
        clear hh
        by_cases hlt : k < C.ln
        · obtain ⟨b, off, x, hca, hbl, hx, p0, p1, p2, p3, p4⟩ := HC.out.ls.plAt hlt
          have hst : Stable (sepR (rowR 50 5 (.slice a2 k c2) k (flat Pl.enc (C.ls.take k))) (sepR (rowR 54 1 (.slice a1 C.pn c1) C.pn (flat Pg.enc ds)) (insR ds))) := sepR_stable (rowR_stable _ _ _ _ _) Hst1.out
          have hkeep : ∀ (R : World → List Nat → Prop) (W : World) (M : List (Nat × Obj)), Holds w.heap.size w R W (M ++ boxes3 C w.heap.size (.slice a1 C.pn c1) (.slice a2 k c2) (.slice none 0 0)) → W.cell? ⟨w.heap.size + 2, 1, none⟩ = some (.slice a2 k c2) ∧ W.cell? ⟨w.heap.size, 1, none⟩ = some (.slice (some ⟨b, off, none⟩) C.ln C.lc) ∧ W.cell? ⟨b, off + k * 5, none⟩ = some (.int .i64 x.pr) ∧ W.cell? ⟨b, off + k * 5 + 1, none⟩ = some (.int .i64 x.f0) ∧ W.cell? ⟨b, off + k * 5 + 2, none⟩ = some (.int .i64 x.f1) ∧ W.cell? ⟨b, off + k * 5 + 3, none⟩ = some (.int .i64 x.f2) ∧ W.cell? ⟨b, off + k * 5 + 4, none⟩ = some (.int .i64 x.f3) := fun R W M h => by
            obtain ⟨_, o1, _⟩ := cells6 (h.box (k := w.heap.size + 2) (o := outO (.slice a1 C.pn c1) (.slice a2 k c2) (.slice none 0 0) C) (by simp))
            obtain ⟨_, c1, _⟩ := cells6 (h.box (k := w.heap.size) (o := C.obj 26) (by simp))
            rw [hca] at c1
            exact ⟨o1, c1, (h.oldCell hbl).trans p0, (h.oldCell hbl).trans p1, (h.oldCell hbl).trans p2, (h.oldCell hbl).trans p3, (h.oldCell hbl).trans p4⟩
          have hd := HH.out.drew hst
          have hHeld := hkeep _ _ [] hd
          have h6 := hd.alloc hst (.cells x.enc.toArray 50)
          have H6 := Lib.hid h6
          have Hx := Lib.hid hx
          have Hkeep := Lib.hid hkeep
          have hle := HH.out.le
          have hbl2 : b < wr.heap.size := by omega
          rw [hca] at c1'
          clear hst hd h6 hx hkeep o0 o1 o2 o3 o4 o5 c0 c2' c3 c4 c5 p0 p1 p2 p3 p4
          go_wp2_with fail
          refine wp_region_N (fun w' => w'.cell? ⟨w.heap.size + 2, 1, none⟩ = some (.slice a2 k c2) ∧ w'.cell? ⟨w.heap.size, 1, none⟩ = some (.slice (some ⟨b, off, none⟩) C.ln C.lc) ∧ w'.cell? ⟨b, off + k * 5, none⟩ = some (.int .i64 x.pr) ∧ w'.cell? ⟨b, off + k * 5 + 1, none⟩ = some (.int .i64 x.f0) ∧ w'.cell? ⟨b, off + k * 5 + 2, none⟩ = some (.int .i64 x.f1) ∧ w'.cell? ⟨b, off + k * 5 + 3, none⟩ = some (.int .i64 x.f2) ∧ w'.cell? ⟨b, off + k * 5 + 4, none⟩ = some (.int .i64 x.f3)) 17 (by kernel_rfl) ?_
          refine wpAnyN_take (i := 0) (oi := ⟨some 40, _, _, _, _, _⟩) (v := ?_) rfl (by kernel_rfl) (fun _ _ _ h => h) (Or.inl ⟨by rfl, ?_⟩) (by assumption) ?_
          rotate_left
          · (intro w hSw; (try dsimp only at hSw); go_simp; try with_reducible rfl)
          try simp only [Act.put, List.setIfInBounds_toArray, List.set_cons_zero, List.set_cons_succ]
          refine wpAnyN_take (i := 1) (oi := ⟨some 41, _, _, _, _, _⟩) (v := ?_) rfl (by kernel_rfl) (fun _ _ _ h => h) (Or.inl ⟨by rfl, ?_⟩) (by assumption) ?_
          rotate_left
          · (intro w hSw; (try dsimp only at hSw); go_simp; try with_reducible rfl)
          try simp only [Act.put, List.setIfInBounds_toArray, List.set_cons_zero, List.set_cons_succ]
          refine wpAnyN_take (i := 2) (oi := ⟨some 42, _, _, _, _, _⟩) (v := ?_) rfl (by kernel_rfl) (fun _ _ _ h => h) (Or.inl ⟨by rfl, ?_⟩) (by assumption) ?_
          rotate_left
          · (intro w hSw; (try dsimp only at hSw); go_simp; try with_reducible rfl)
          try simp only [Act.put, List.setIfInBounds_toArray, List.set_cons_zero, List.set_cons_succ]
          refine wpAnyN_take (i := 3) (oi := ⟨some 43, _, _, _, _, _⟩) (v := ?_) rfl (by kernel_rfl) (fun _ _ _ h => h) (Or.inl ⟨by rfl, ?_⟩) (by assumption) ?_
          rotate_left
          · (intro w hSw; (try dsimp only at hSw); go_simp; try with_reducible rfl)
          try simp only [Act.put, List.setIfInBounds_toArray, List.set_cons_zero, List.set_cons_succ]
          refine wpAnyN_take (i := 4) (oi := ⟨some 44, _, _, _, _, _⟩) (v := ?_) rfl (by kernel_rfl) (fun _ _ _ h => h) (Or.inl ⟨by rfl, ?_⟩) (by assumption) ?_
          rotate_left
          · (intro w hSw; (try dsimp only at hSw); go_simp; try with_reducible rfl)
          try simp only [Act.put, List.setIfInBounds_toArray, List.set_cons_zero, List.set_cons_succ]
          refine wpAnyN_take (i := 5) (oi := ⟨some 45, _, _, _, _, _⟩) (v := ?_) rfl (by kernel_rfl) (fun _ _ _ h => h) (Or.inl ⟨by rfl, ?_⟩) (by assumption) ?_
          rotate_left
          · (intro w hSw; (try dsimp only at hSw); go_simp; try with_reducible rfl)
          try simp only [Act.put, List.setIfInBounds_toArray, List.set_cons_zero, List.set_cons_succ]
          refine wpAnyN_take (i := 6) (oi := ⟨some 46, _, _, _, _, _⟩) (v := ?_) rfl (by kernel_rfl) (fun _ _ _ h => h) (Or.inl ⟨by rfl, ?_⟩) (by assumption) ?_
          rotate_left
          · (intro w hSw; (try dsimp only at hSw); go_simp; try with_reducible rfl)
          try simp only [Act.put, List.setIfInBounds_toArray, List.set_cons_zero, List.set_cons_succ]
          refine wpAnyN_take (i := 7) (oi := ⟨some 47, _, _, _, _, _⟩) (v := ?_) rfl (by kernel_rfl) (fun _ _ _ h => h) (Or.inl ⟨by rfl, ?_⟩) (by assumption) ?_
          rotate_left
          · (intro w hSw; (try dsimp only at hSw); go_simp; try with_reducible rfl)
          try simp only [Act.put, List.setIfInBounds_toArray, List.set_cons_zero, List.set_cons_succ]
          refine wpAnyN_take (i := 8) (oi := ⟨some 48, _, _, _, _, _⟩) (v := ?_) rfl (by kernel_rfl) (fun _ _ _ h => h) (Or.inl ⟨by rfl, ?_⟩) (by assumption) ?_
          rotate_left
          · (intro w hSw; (try dsimp only at hSw); go_simp; try with_reducible rfl)
          try simp only [Act.put, List.setIfInBounds_toArray, List.set_cons_zero, List.set_cons_succ]
          refine wpAnyN_take (i := 9) (oi := ⟨some 49, _, _, _, _, _⟩) (v := ?_) rfl (by kernel_rfl) (fun _ _ _ h => h) (Or.inl ⟨by rfl, ?_⟩) (by assumption) ?_
          rotate_left
          · (intro w hSw; (try dsimp only at hSw); go_simp; try with_reducible rfl)
          try simp only [Act.put, List.setIfInBounds_toArray, List.set_cons_zero, List.set_cons_succ]
          refine wpAnyN_take (i := 10) (oi := ⟨some 50, _, _, _, _, _⟩) (v := ?_) rfl (by kernel_rfl) (fun _ _ _ h => h) (Or.inl ⟨by rfl, ?_⟩) (by assumption) ?_
          rotate_left
          · (intro w hSw; (try dsimp only at hSw); go_simp; try with_reducible rfl)
          try simp only [Act.put, List.setIfInBounds_toArray, List.set_cons_zero, List.set_cons_succ]
          refine wpAnyN_take (i := 11) (oi := ⟨some 51, _, _, _, _, _⟩) (v := ?_) rfl (by kernel_rfl) (fun _ _ _ h => h) (Or.inl ⟨by rfl, ?_⟩) (by assumption) ?_
          rotate_left
          · (intro w hSw; (try dsimp only at hSw); go_simp; try with_reducible rfl)
          try simp only [Act.put, List.setIfInBounds_toArray, List.set_cons_zero, List.set_cons_succ]
          refine wpAnyN_take (i := 12) (oi := ⟨some 52, _, _, _, _, _⟩) (v := ?_) rfl (by kernel_rfl) (fun _ _ _ h => h) (Or.inl ⟨by rfl, ?_⟩) (by assumption) ?_
          rotate_left
          · (intro w hSw; (try dsimp only at hSw); go_simp; try with_reducible rfl)
          try simp only [Act.put, List.setIfInBounds_toArray, List.set_cons_zero, List.set_cons_succ]
          refine wpAnyN_take (i := 13) (oi := ⟨some 53, _, _, _, _, _⟩) (v := ?_) rfl (by kernel_rfl) (fun _ _ _ h => h) (Or.inl ⟨by rfl, ?_⟩) (by assumption) ?_
          rotate_left
          · (intro w hSw; (try dsimp only at hSw); go_simp; try with_reducible rfl)
          try simp only [Act.put, List.setIfInBounds_toArray, List.set_cons_zero, List.set_cons_succ]
          refine wpAnyN_take (i := 14) (oi := ⟨some 54, _, _, _, _, _⟩) (v := ?_) rfl (by kernel_rfl) (fun _ _ _ h => h) (Or.inl ⟨by rfl, ?_⟩) (by assumption) ?_
          rotate_left
          · (intro w hSw; (try dsimp only at hSw); go_simp; try with_reducible rfl)
          try simp only [Act.put, List.setIfInBounds_toArray, List.set_cons_zero, List.set_cons_succ]
          refine wpAnyN_one (i := 15) (o := ⟨some 55, _, _, _, _, _⟩) (by kernel_rfl) rfl (fun K hK => ?_)
          go_simp
          refine hK.out _ _ (fun _ => Hkeep.out _ _ [_] H6.out) ?_
          clear hK K hHeld
          try simp only [Act.put, List.setIfInBounds_toArray, List.set_cons_zero, List.set_cons_succ]
          refine wpAnyN_one (i := 16) (o := ⟨some 56, _, _, _, _, _⟩) (by kernel_rfl) rfl (fun K hK => ?_)
          refine step_append_foot rfl (.tmp 41) (.tmp 55) 30 rfl 50 il (.agg #[.int .i64 0, .int .i64 0, .int .i64 0, .int .i64 0, .int .i64 0]) 5 40 Tryd.underlying30 Hil.out.1 Hil.out.2.1 Hil.out.2.2.1 Hil.out.2.2.2 rfl (by decide) (.slice a2 k c2) k (flat Pl.enc (C.ls.take k)) rfl H6.out.row ⟨wr.heap.size, 0, none⟩ 1 1 x.enc rfl rfl (cells_new _ _ _) (Pl.enc_one x) (by unfold maxLen; omega) (by omega) ?_
          intro a5 c5' w5 hown hF hnew
          have h7 := H6.out.appended Hst1.out hown hF hnew
          rw [show flat Pl.enc (C.ls.take k) ++ x.enc = flat Pl.enc (C.ls.take (k + 1)) by rw [List.take_add_one, Hx.out, Option.toList_some, flat_append, flat_single]] at h7
          refine hK.out _ _ (fun _ => Hkeep.out _ _ [_] h7) ?_
          have h8 := h7.sub (M := boxes3 C w.heap.size (.slice a1 C.pn c1) (.slice a2 k c2) (.slice none 0 0)) (fun _ hq => List.mem_cons_of_mem _ hq)
          have ho8 := h8.box (k := w.heap.size + 2) (o := outO (.slice a1 C.pn c1) (.slice a2 k c2) (.slice none 0 0) C) (by simp)
          obtain ⟨o0, o1, o2, o3, o4, o5⟩ := cells6 ho8
          have oz := frozen_of_obj ho8 1
          have ol := World.block_lt_of_cell? _ _ o0
          dsimp only at ol
          have hst8 : Stable (sepR (rowR 50 5 (.slice a5 (k + 1) c5') (k + 1) (flat Pl.enc (C.ls.take (k + 1)))) (sepR (rowR 54 1 (.slice a1 C.pn c1) C.pn (flat Pg.enc ds)) (insR ds))) := sepR_stable (rowR_stable _ _ _ _ _) Hst1.out
          have h9 := h8.put (L := []) hst8 (by omega) (by simp) (by simp) 1 (.slice a5 (k + 1) c5')
          have H9 := Lib.hid h9
          clear hK K hown hF hnew h7 h8 ho8 hst8 h9 H6
          try simp only [Act.put, List.setIfInBounds_toArray, List.set_cons_zero, List.set_cons_succ]
          refine wpAnyN_one (i := 17) (o := ⟨some 57, _, _, _, _, _⟩) (by kernel_rfl) rfl (fun K hK => ?_)
          go_simp
          refine hK.out _ _ (fun h => absurd h (by decide)) ?_
          clear hK K
          try simp only [Act.put, List.setIfInBounds_toArray, List.set_cons_zero, List.set_cons_succ]
          refine wpAnyN_one (i := 18) (o := ⟨none, _, _, _, _, _⟩) (by kernel_rfl) rfl (fun K hK => ?_)
          go_simp
          refine hK.out _ _ (fun h => absurd h (by decide)) ?_
          clear hK K
          try simp only [Act.put, List.setIfInBounds_toArray, List.set_cons_zero, List.set_cons_succ]
          refine wpAnyN_done (by kernel_rfl) ?_ _
          go_wp2_with fail
          go_roundw
          case rel => exact ⟨k + 1, a5, c5', by omega, by go_num, H9.out⟩
          case measure => simp [intOf]; omega
        · obtain rfl : C.ln = k := by omega
          have hh := HH.out
          rw [List.take_of_length_le (by rw [Hll.out]; exact Nat.le_refl _)] at hh
          have hst2 : Stable (sepR (rowR 50 5 (.slice a2 C.ln c2) C.ln (flat Pl.enc C.ls)) (sepR (rowR 54 1 (.slice a1 C.pn c1) C.pn (flat Pg.enc ds)) (insR ds))) := sepR_stable (rowR_stable _ _ _ _ _) Hst1.out
          have Hst2 := Lib.hid hst2
          have HS0 := Lib.hid (hh.nilRow 73 4)
          clear hh hst2 HH
          go_wp2_with fail
          go_loopw [6] (fun iv wr => PlS C w a1 c1 ds a2 c2 iv wr) (fun iv _ => C.sn - (intOf iv).toNat)
          case atStart => exact ⟨0, none, 0, Nat.zero_le _, rfl, HS0.out⟩
          case round =>
            clear o0 o1 o2 o3 o4 o5 c0 c1' c2' c3 c4 c5 z0 hlt
            obtain ⟨k, a3, c3', hk, rfl, hh⟩ := hrel
            clear HS0
            have HH := Lib.hid hh
            have ho := hh.box (k := w.heap.size + 2) (o := outO (.slice a1 C.pn c1) (.slice a2 C.ln c2) (.slice a3 k c3') C) (by simp)
            obtain ⟨o0, o1, o2, o3, o4, o5⟩ := cells6 ho
            obtain ⟨c0, c1', c2', c3, c4, c5⟩ := cells6 (hh.box (k := w.heap.size) (o := C.obj 26) (by simp))
            have z0 := World.block_lt_of_cell? _ _ o0
            dsimp only at z0
            clear hh
            by_cases hlt : k < C.sn
            · obtain ⟨b, off, x, hca, hbl, hx, p0, p1, p2, p3⟩ := HC.out.ss.stAt hlt
              have q0 := (HH.out.oldCell hbl).trans p0
              have q1 := (HH.out.oldCell hbl).trans p1
              have q2 := (HH.out.oldCell hbl).trans p2
              have q3 := (HH.out.oldCell hbl).trans p3
              have hst : Stable (sepR (rowR 73 4 (.slice a3 k c3') k (flat St.enc (C.ss.take k))) (sepR (rowR 50 5 (.slice a2 C.ln c2) C.ln (flat Pl.enc C.ls)) (sepR (rowR 54 1 (.slice a1 C.pn c1) C.pn (flat Pg.enc ds)) (insR ds)))) := sepR_stable (rowR_stable _ _ _ _ _) Hst2.out
              have h5 := (HH.out.alloc hst (.cells x.enc.toArray 61)).alloc hst (.cells x.enc.toArray 73)
              have H5 := Lib.hid h5
              have Hx := Lib.hid hx
              have hle := HH.out.le
              have hbl2 : b < wr.heap.size := by omega
              rw [hca] at c2'
              clear hst h5 hx ho p0 p1 p2 p3 o0 o1 o3 o4 o5 c0 c1' c3 c4 c5
              go_wp2_with (at_builtin; refine Stop.of ?_)
              refine Stop.go ?_
              refine wpList_append_foot _ rfl _ _ 31 rfl 73 is (.agg #[.int .i64 0, .int .i64 0, .int .i64 0, .int .i64 0]) 4 32 Tryd.underlying31 His.out.1 His.out.2.1 His.out.2.2.1 His.out.2.2.2 rfl (by decide) (.slice a3 k c3') k (flat St.enc (C.ss.take k)) rfl H5.out.row ⟨_, 0, none⟩ 1 1 x.enc rfl rfl (cells_at _ x.enc _ _ (by simp)) (St.enc_one x) (by unfold maxLen; omega) (by omega) ?_
              intro a5 c5' w5 hown hF hnew
              have h7 := H5.out.appended Hst2.out hown hF hnew
              rw [show flat St.enc (C.ss.take k) ++ x.enc = flat St.enc (C.ss.take (k + 1)) by rw [List.take_add_one, Hx.out, Option.toList_some, flat_append, flat_single]] at h7
              have h8 := h7.sub (M := boxes3 C w.heap.size (.slice a1 C.pn c1) (.slice a2 C.ln c2) (.slice a3 k c3')) (fun _ hq => List.mem_cons_of_mem _ (List.mem_cons_of_mem _ hq))
              have ho8 := h8.box (k := w.heap.size + 2) (o := outO (.slice a1 C.pn c1) (.slice a2 C.ln c2) (.slice a3 k c3') C) (by simp)
              obtain ⟨o0, o1, o2', o3, o4, o5⟩ := cells6 ho8
              have oz := frozen_of_obj ho8 2
              have ol := World.block_lt_of_cell? _ _ o0
              dsimp only at ol
              have hst8 : Stable (sepR (rowR 73 4 (.slice a5 (k + 1) c5') (k + 1) (flat St.enc (C.ss.take (k + 1)))) (sepR (rowR 50 5 (.slice a2 C.ln c2) C.ln (flat Pl.enc C.ls)) (sepR (rowR 54 1 (.slice a1 C.pn c1) C.pn (flat Pg.enc ds)) (insR ds)))) := sepR_stable (rowR_stable _ _ _ _ _) Hst2.out
              have h9 := h8.put (L := []) hst8 (by omega) (by simp) (by simp) 2 (.slice a5 (k + 1) c5')
              have H9 := Lib.hid h9
              clear hown hF hnew h7 h8 ho8 hst8 h9 H5 o2 c2' q0 q1 q2 q3
              go_wp2_with fail
              go_roundw
              case rel => exact ⟨k + 1, a5, c5', by omega, by go_num, H9.out⟩
              case measure => simp [intOf]; omega
            · obtain rfl : C.sn = k := by omega
              have hh := HH.out
              rw [List.take_of_length_le (by rw [Hsl.out]; exact Nat.le_refl _)] at hh
              have hor := hh.box (k := w.heap.size + 1) (o := zeroO) (by simp)
              obtain ⟨r0, r1, r2, r3, r4, r5⟩ := cells6 hor
              have rz : ∀ j, wr.frozen? ⟨w.heap.size + 1, j, none⟩ = false := fun j => frozen_of_obj hor j
              have z1 := World.block_lt_of_cell? _ _ r0
              dsimp only at z1
              have hst3 : Stable (sepR (rowR 73 4 (.slice a3 C.sn c3') C.sn (flat St.enc C.ss)) (sepR (rowR 50 5 (.slice a2 C.ln c2) C.ln (flat Pl.enc C.ls)) (sepR (rowR 54 1 (.slice a1 C.pn c1) C.pn (flat Pg.enc ds)) (insR ds)))) := sepR_stable (rowR_stable _ _ _ _ _) Hst2.out
              have HE := Lib.hid (plain_end (w := w) hh hst3 Hdl.out (by rw [Hdm.out, List.take_of_length_le (by rw [Hpl.out]; exact Nat.le_refl _)]) Hll.out Hsl.out (u1 := .slice a1 C.pn c1) (u2 := .slice a2 C.ln c2) (u3 := .slice a3 C.sn c3'))
              clear hh hor hst3 HH ho
              go_wp2_with fail
              change bodyPost _ _ _ _ _ (plainW C (w.heap.size + 1) (.slice a1 C.pn c1) (.slice a2 C.ln c2) (.slice a3 C.sn c3') wr)
              have he := HE.out
              clear HE
              generalize plainW C (w.heap.size + 1) (.slice a1 C.pn c1) (.slice a2 C.ln c2) (.slice a3 C.sn c3') wr = W at he ⊢
              obtain ⟨he1, he2, he3, he4, hbx⟩ := he
              obtain ⟨f0, f1, f2, f3, f4, f5⟩ := cells6 hbx
              refine bodyPost_ret (v := (plainD C a1 c1 ds a2 c2 a3 c3').val) (by simp [results, Tryd.results10, go_sem, f0, f1, f2, f3, f4, f5, plainD]) rfl ?_
              exact ⟨_, rfl, he1, he2, he3, he4⟩
end Go.Proofs.YtbkadfdpboghiaaDoor
