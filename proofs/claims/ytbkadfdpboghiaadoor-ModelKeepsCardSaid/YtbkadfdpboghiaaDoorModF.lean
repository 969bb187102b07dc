/- Package model: New. -/
import Derived.Test.YtbkadfdpboghiaaDoorModD
import Derived.Test.YtbkadfdpboghiaaDoorModE
import Derived.Deep.RegionWith
namespace Go.Proofs.YtbkadfdpboghiaaDoor
open Go.RowKit Go.Maps

set_option maxHeartbeats 1000000 in
theorem new_bad {C : Cf} {w : World} (hO : Ops w) (hC : CfAt w C) (h : checkC C ≠ 0) : Calls Tryd.prog 12 #[C.val] w (Tells (.tuple #[.pointer none, .int .i64 (checkC C)]) w) := by
  have hF0 : Frm [] w (w.alloc (C.obj 26)) := (Frm.refl _ _).alloc _
  have hc := mcheck_any (hO.frm hF0) (hC.frm hF0)
  have HF0 := Lib.hid hF0
  have Hc := Lib.hid hc
  have g1 : (checkC C == 0) = false := by rw [beq_eq_false_iff_ne]; exact h
  clear hF0 hc hO hC h
  go_enter Tryd.func12, Tryd.ntmps12
  go_wp2_with fail
  refine Hc.out.mono ?_
  rintro e w1 ⟨rfl, hF⟩
  have HF := Lib.hid (HF0.out.trans (T := []) hF (by simp))
  clear hF
  go_wp2_with fail
  go_ret2
  exact ⟨rfl, HF.out⟩

def zeroPg : Pg := ⟨none, 0, 0, []⟩
theorem made_pgs (n : Nat) : (madeCells (Value.slice none 0 0).cells (n * 1)).toList = flat Pg.enc (List.replicate n zeroPg) := by
  show (madeCells #[Value.slice none 0 0] (n * 1)).toList = _
  rw [madeCells_one]
  induction n with
  | zero => rfl
  | succ n ih => rw [List.replicate_succ, List.replicate_succ, flat, ih]; rfl
theorem infoProgs : (Tryd.prog.info? 52).map (fun i => (i.zero, i.size, i.bytes)) = some (some (.slice none 0 0), 1, 24) := by kernel_rfl

/-- New, behind k programs: the box at b, the programs' row at g. -/
structure NewIn (C : Cf) (w0 : World) (b g k : Nat) (ds : List Pg) (wr : World) : Prop where
  all : C.ps.length = C.pn
  len : ds.length = k
  same : ds.map Pg.l = (C.ps.take k).map Pg.l
  at_ : ∀ p ∈ ds, Ins.at_ wr p.a p.n p.c p.l ∧ NilOk p.a p.n p.c ∧ Betw (g + 1) wr.heap.size p.a
  row : wr.ownsRow 0 52 1 (.slice (some ⟨g, 0, none⟩) C.pn C.pn) C.pn (flat Pg.enc (ds ++ List.replicate (C.pn - k) zeroPg))
  frm : Frm [] w0 wr
  obj : wr.heap[b]? = some (C.obj 26)
theorem NewIn.step {C : Cf} {w0 : World} {b g k : Nat} {ds : List Pg} {wr w3 : World} {x : Pg} {a3 : Option Addr} {c3 : Nat} (h : NewIn C w0 b g k ds wr) (hk : k < C.pn) (hx : C.ps[k]? = some x) (hb : b ≠ g) (hg : w0.heap.size ≤ g) (hg2 : g < wr.heap.size)
    (s : Ins.at_ w3 a3 x.n c3 x.l) (n3 : NilOk a3 x.n c3) (b3 : Betw wr.heap.size w3.heap.size a3) (f : Frm [] wr w3) : NewIn C w0 b g (k + 1) (ds ++ [⟨a3, x.n, c3, x.l⟩]) (w3.setCell ⟨g, k, none⟩ (.slice a3 x.n c3)) := by
  have f2 : Frm [g] w3 (w3.setCell ⟨g, k, none⟩ (.slice a3 x.n c3)) := (Frm.refl _ _).setCell (a := ⟨g, k, none⟩) (.inl (by simp)) _
  have f3 : Frm [g] wr (w3.setCell ⟨g, k, none⟩ (.slice a3 x.n c3)) := (f.mono (T := [g]) (by simp)).trans f2 (by simp)
  have hsz : (w3.setCell ⟨g, k, none⟩ (.slice a3 x.n c3)).heap.size = w3.heap.size := by simp
  have hfs := f.size
  refine ⟨h.all, by simp [h.len], ?_, ?_, ?_, h.frm.trans f3 (by simpa using hg), ?_⟩
  · rw [List.map_append, h.same, List.take_add_one, hx, List.map_append]; rfl
  · intro p hp
    rw [hsz]
    rcases List.mem_append.1 hp with hp | hp
    · obtain ⟨h1, h2, h3⟩ := h.at_ p hp
      refine ⟨SlAt.frmS h1 f3 (fun y hy hm => ?_), h2, h3.mono (Nat.le_refl _) hfs⟩
      have := h3 y hy
      simp at hm
      omega
    · simp only [List.mem_singleton] at hp
      subst hp
      refine ⟨SlAt.frmS s f2 (fun y hy hm => ?_), n3, b3.mono (by omega) (Nat.le_refl _)⟩
      have := b3 y hy
      simp at hm
      omega
  · have hr := (f.row h.row (by simp)).stored (k * 1 + 0) (.slice a3 x.n c3)
    have hz : (ds ++ List.replicate (C.pn - k) zeroPg)[k]? = some zeroPg := by
      rw [List.getElem?_append_right (by rw [h.len]; exact Nat.le_refl _), h.len, Nat.sub_self, List.getElem?_replicate]
      rw [if_pos (by omega)]
    have e := flat_set1 Pg.enc_len (x' := ⟨a3, x.n, c3, x.l⟩) hz (j := 0) (u := .slice a3 x.n c3) (by omega) rfl
    rw [e] at hr
    have e2 : (ds ++ List.replicate (C.pn - k) zeroPg).set k ⟨a3, x.n, c3, x.l⟩ = (ds ++ [⟨a3, x.n, c3, x.l⟩]) ++ List.replicate (C.pn - (k + 1)) zeroPg := by
      rw [List.set_append_right _ _ (by rw [h.len]; exact Nat.le_refl _), h.len, Nat.sub_self, List.append_assoc, show C.pn - k = (C.pn - (k + 1)) + 1 by omega, List.replicate_succ]
      rfl
    rw [e2] at hr
    simpa using hr.1
  · exact f3.obj h.obj (by simpa using hb)
theorem checkP_len {l : List Ins} (h : (checkP l).2 = 0) : l.length ≤ 64 := by
  unfold checkP at h
  split at h
  · cases h
  · omega

/-- What New has made. -/
def newD (C : Cf) (g : Nat) (ds : List Pg) (a4 : Option Addr) (c4 : Nat) (a5 : Option Addr) (c5 : Nat) : Cf :=
  { C with pa := some ⟨g, 0, none⟩, pc := C.pn, ps := ds, la := a4, lc := c4, sa := a5, sc := c5 }
abbrev newW (C : Cf) (b g : Nat) (a4 : Option Addr) (c4 : Nat) (a5 : Option Addr) (c5 : Nat) (w5 : World) : World :=
  ((w5.setCell ⟨b, 0, none⟩ (.slice (some ⟨g, 0, none⟩) C.pn C.pn)).setCell ⟨b, 1, none⟩ (.slice a4 C.ln c4)).setCell ⟨b, 2, none⟩ (.slice a5 C.sn c5)
theorem new_end {C : Cf} {w wr w4 w5 : World} {g : Nat} {ds : List Pg} {a4 : Option Addr} {c4 : Nat} {a5 : Option Addr} {c5 : Nat} (hin : NewIn C w w.heap.size g C.pn ds wr) (hg : g < wr.heap.size) (hg0 : w.heap.size < g)
    (h4 : SlAt Pl.enc 5 w4 a4 C.ln c4 C.ls ∧ NilOk a4 C.ln c4 ∧ Betw wr.drew.heap.size w4.heap.size a4 ∧ Frm [] wr.drew w4) (h5 : SlAt St.enc 4 w5 a5 C.sn c5 C.ss ∧ NilOk a5 C.sn c5 ∧ Betw w4.heap.size w5.heap.size a5 ∧ Frm [] w4 w5) :
    ModAt w.heap.size ((newW C w.heap.size g a4 c4 a5 c5 w5).alloc ((newD C g ds a4 c4 a5 c5).obj 80)).heap.size ((newW C w.heap.size g a4 c4 a5 c5 w5).alloc ((newD C g ds a4 c4 a5 c5).obj 80)) w5.heap.size (newD C g ds a4 c4 a5 c5) ∧
      C.Like (newD C g ds a4 c4 a5 c5) ∧ Frm [] w ((newW C w.heap.size g a4 c4 a5 c5 w5).alloc ((newD C g ds a4 c4 a5 c5).obj 80)) := by
  obtain ⟨s4, n4, b4, f4⟩ := h4
  obtain ⟨s5, n5, b5, f5⟩ := h5
  have e0 : wr.drew.heap.size = wr.heap.size := rfl
  rw [e0] at b4
  have z4 : wr.heap.size ≤ w4.heap.size := f4.size
  have z5 := f5.size
  have fr4 : Frm [] wr w4 := ⟨f4.os, f4.tape, f4.output, f4.size, f4.block⟩
  have fr5 : Frm [] wr w5 := fr4.trans (T := []) f5 (by simp)
  have fW : Frm [w.heap.size] w5 (newW C w.heap.size g a4 c4 a5 c5 w5) := (((Frm.refl _ _).setCell (a := ⟨w.heap.size, 0, none⟩) (.inl (by simp)) _).setCell (a := ⟨w.heap.size, 1, none⟩) (.inl (by simp)) _).setCell (a := ⟨w.heap.size, 2, none⟩) (.inl (by simp)) _
  have hsz : (newW C w.heap.size g a4 c4 a5 c5 w5).heap.size = w5.heap.size := by simp [newW]
  generalize newW C w.heap.size g a4 c4 a5 c5 w5 = W at fW hsz ⊢
  have fA : Frm [w.heap.size] w5 (W.alloc ((newD C g ds a4 c4 a5 c5).obj 80)) := fW.alloc _
  have hob : (W.alloc ((newD C g ds a4 c4 a5 c5).obj 80)).heap[w5.heap.size]? = some ((newD C g ds a4 c4 a5 c5).obj 80) := by rw [← hsz]; exact obj_new W _
  have hs1 : (W.alloc ((newD C g ds a4 c4 a5 c5).obj 80)).heap.size = w5.heap.size + 1 := by simp [hsz]
  generalize W.alloc ((newD C g ds a4 c4 a5 c5).obj 80) = X at fA hob hs1 ⊢
  have frX : Frm [w.heap.size] wr X := (fr5.mono (T := [w.heap.size]) (by simp)).trans fA (by simp)
  have hne : ∀ {lo hi : Nat} {a : Option Addr}, Betw lo hi a → w.heap.size < lo → ∀ x, a = some x → x.block ∉ [w.heap.size] := fun hb hl x hx hm => by
    have := hb x hx
    simp at hm
    omega
  have hrow := frX.row hin.row (by simp [Value.ownBlock]; omega)
  rw [Nat.sub_self, List.replicate_zero, List.append_nil] at hrow
  have hfin : Frm [] w X := hin.frm.trans frX (by simp)
  refine ⟨⟨hob, by omega, by omega, Nat.le_refl _, ⟨?_, fun p hp => ?_, ?_, ?_⟩, ⟨fun ha => (by cases ha), fun p hp => (hin.at_ p hp).2.1, n4, n5⟩, ⟨fun x hx => ?_, fun p hp => ?_, ?_, ?_⟩⟩, ⟨rfl, ?_, rfl, rfl, rfl, rfl, rfl, rfl, rfl⟩, hfin⟩
  · exact SlAt.of_row Pg.enc_len hrow hin.len
  · exact SlAt.frmS (hin.at_ p hp).1 frX (hne (hin.at_ p hp).2.2 (by omega))
  · exact SlAt.frmS (SlAt.frm s4 f5) fA (hne b4 (by omega))
  · exact SlAt.frmS s5 fA (hne b5 (by omega))
  · cases hx; dsimp only; omega
  · exact (hin.at_ p hp).2.2.mono (by omega) (by omega)
  · exact b4.mono (by omega) (by omega)
  · exact b5.mono (by omega) (by omega)
  · rw [show (newD C g ds a4 c4 a5 c5).ps = ds from rfl, hin.same, List.take_of_length_le (by rw [hin.all]; exact Nat.le_refl _)]

set_option maxHeartbeats 8000000 in
set_option maxRecDepth 100000 in
theorem new_ok {C : Cf} {w : World} (hO : Ops w) (hC : CfAt w C) (hN : CfNil C) (h : checkC C = 0) : Calls Tryd.prog 12 #[C.val] w fun e w' =>
    ∃ (m : Nat) (D : Cf), e = .returned (.tuple #[.pointer (some ⟨m, 0, none⟩), .int .i64 0]) ∧ ModAt w.heap.size w'.heap.size w' m D ∧ C.Like D ∧ Frm [] w w' := by
  have hF0 : Frm [] w (w.alloc (C.obj 26)) := (Frm.refl _ _).alloc _
  have hb0 : (w.alloc (C.obj 26)).heap[w.heap.size]? = some (C.obj 26) := obj_new w _
  have hc := mcheck_any (hO.frm hF0) (hC.frm hF0)
  rw [h] at hc
  have hok := okOf h
  have hp2 := hok.pn2
  have hl2 := hok.ln2
  have hs2 := hok.sn
  have hpl : C.ps.length = C.pn := hC.ps.1
  have HF0 := Lib.hid hF0
  have HB0 := Lib.hid hb0
  have Hc := Lib.hid hc
  have HC := Lib.hid hC
  have HN := Lib.hid hN
  have Hok := Lib.hid hok
  have Hpl := Lib.hid hpl
  clear hF0 hb0 hc hok hO hC hN h hpl
  go_enter Tryd.func12, Tryd.ntmps12
  go_wp2_with fail
  refine Hc.out.mono ?_
  rintro e w1 ⟨rfl, hF⟩
  have HF := Lib.hid (HF0.out.trans (T := []) hF (by simp))
  have HB := Lib.hid (hF.obj HB0.out (by simp))
  have hz1 : w.heap.size < w1.heap.size := by have := hF.size; simp at this; omega
  clear hF
  obtain ⟨c0, c1, c2, c3, c4, c5⟩ := cells6 HB.out
  go_wp2_with (at_make; refine Stop.of ?_)
  refine Stop.go ?_
  obtain ⟨i0, hi0, hi1, hi2, hi3⟩ := info_parts infoProgs
  refine wpList_make_full _ rfl _ _ 22 rfl 0 52 i0 (.slice none 0 0) 1 Tryd.underlying22 hi0 hi1 hi2 .i64 .i64 _ _ C.pn rfl rfl rfl rfl (by rw [hi3]; omega) (by unfold maxLen; omega) (Nat.zero_le _) ?_
  intro w2 hown hgrow
  rw [made_pgs] at hown
  have hf12 : Frm [] w1 w2 := Frm.of_grown hgrow (by simp)
  have hlt12 : w1.heap.size < w2.heap.size := (hown.lt w1.heap.size rfl).2
  have hin : NewIn C w w.heap.size w1.heap.size 0 [] w2 := ⟨Hpl.out, rfl, by simp, by simp, by simpa using hown, HF.out.trans (T := []) hf12 (by simp), hf12.obj HB.out (by simp)⟩
  have Hin := Lib.hid hin
  clear hin hown hgrow hf12 hi0 hi1 hi2 hi3 c0 c1 c2 c3 c4 c5 HB HF
  obtain ⟨c0, c1, c2, c3, c4, c5⟩ := cells6 Hin.out.obj
  go_wp2_with fail
  generalize hg : w1.heap.size = g at *
  have Hg := Lib.hid hg
  clear hg
  go_loopw [20] (fun iv wr => ∃ (k : Nat) (ds : List Pg), k ≤ C.pn ∧ iv = .int .i64 (k : Int) ∧ g < wr.heap.size ∧ NewIn C w w.heap.size g k ds wr) (fun iv _ => C.pn - (intOf iv).toNat)
  case atStart => exact ⟨0, [], Nat.zero_le _, rfl, hlt12, Hin.out⟩
  case round =>
    clear c0 c1 c2 c3 c4 c5 hlt12 Hin
    obtain ⟨k, ds, hk, rfl, hgr, hin⟩ := hrel
    have Hin := Lib.hid hin
    clear hin
    by_cases hlt : k < C.pn
    · obtain ⟨bb, off, x, hca, hbl, hx, p0⟩ := (SlAt.frm HC.out.ps Hin.out.frm).pgAt hlt
      have hxm := List.mem_of_getElem? hx
      have hxi := SlAt.frm (HC.out.is_ x hxm) Hin.out.frm
      have hxn := HN.out.is_ x hxm
      have hx64 : x.n ≤ 64 := by have := checkP_len (Hok.out.ps x hxm); rw [hxi.1] at this; exact this
      have Hcl := Lib.hid (cloneI_any wr x.a x.n x.c x.l hxi (by omega) hxn)
      have Hx := Lib.hid hx
      clear hx hxm hxi hxn
      rw [hca]
      go_wp2_with fail
      refine Hcl.out.mono ?_
      rintro e w3 ⟨a3, c3, rfl, s3, n3, b3, f3⟩
      have hst := Hin.out.step hlt Hx.out (by omega) (by omega) hgr s3 n3 b3 f3
      have hr3 := f3.row Hin.out.row (by simp)
      have hz : (flat Pg.enc (ds ++ List.replicate (C.pn - k) zeroPg))[k]? = some (.slice none 0 0) := by
        have h1 : (ds ++ List.replicate (C.pn - k) zeroPg)[k]? = some zeroPg := by
          rw [List.getElem?_append_right (by rw [Hin.out.len]; exact Nat.le_refl _), Hin.out.len, Nat.sub_self, List.getElem?_replicate]
          rw [if_pos (by omega)]
        have := flat_get Pg.enc_len h1 (j := 0) (u := .slice none 0 0) rfl
        simpa using this
      have q1 : w3.cell? ⟨g, k, none⟩ = some (.slice none 0 0) := by rw [hr3.cellAt _ (by omega)]; exact hz
      have q2 : w3.frozen? ⟨g, k, none⟩ = false := hr3.frozenAt k
      have hg3 : g < w3.heap.size := by have := f3.size; omega
      have Hst := Lib.hid hst
      clear hst hr3 hz s3 n3 b3 f3 p0
      go_wp2_with fail
      go_roundw
      case rel => exact ⟨k + 1, _, by omega, by go_num, by simpa using hg3, Hst.out⟩
      case measure => simp [intOf]; omega
    · obtain rfl : C.pn = k := by omega
      obtain ⟨c0, c1, c2, c3, c4, c5⟩ := cells6 Hin.out.obj
      have fz : ∀ j, wr.frozen? ⟨w.heap.size, j, none⟩ = false := fun j => frozen_of_obj Hin.out.obj j
      have z0 := World.block_lt_of_cell? _ _ c0
      dsimp only at z0
      have hl3 : C.ls.length = C.ln := HC.out.ls.1
      have hs3 : C.ss.length = C.sn := HC.out.ss.1
      have Hcl := Lib.hid (cloneP_any wr.drew C.la C.ln C.lc C.ls (HC.out.frm Hin.out.frm.drew).ls (by omega) HN.out.ls)
      have HD := Lib.hid (HC.out.frm Hin.out.frm.drew).ss
      have HL3 := Lib.hid hl3
      have HS3 := Lib.hid hs3
      clear hl3 hs3 hlt
      go_wp2_with fail
      go_region_with (first
        | (go_at_call 30; refine Hcl.out.mono ?_; rintro e w4 ⟨a4, c4', rfl, s4, n4, b4, f4⟩
           have ho4 : w4.heap[w.heap.size]? = some (C.obj 26) := f4.obj Hin.out.obj (by simp)
           obtain ⟨d0, d1, d2, d3, d4, d5⟩ := cells6 ho4
           have y4 := World.block_lt_of_cell? _ _ d0
           dsimp only at y4
           have H4 := Lib.hid (And.intro s4 (And.intro n4 (And.intro b4 f4)))
           have Hcs := Lib.hid (cloneS_any w4 C.sa C.sn C.sc C.ss (SlAt.frm HD.out f4) (by omega) HN.out.ss)
           clear s4 n4 b4 f4 ho4)
        | (go_at_call 31; refine Hcs.out.mono ?_; rintro e w5 ⟨a5, c5', rfl, s5, n5, b5, f5⟩
           have ho5 : w5.heap[w.heap.size]? = some (C.obj 26) := (H4.out.2.2.2.trans (T := []) f5 (by simp)).obj Hin.out.obj (by simp)
           obtain ⟨e0, e1, e2, e3, e4, e5⟩ := cells6 ho5
           have ez : ∀ j, w5.frozen? ⟨w.heap.size, j, none⟩ = false := fun j => frozen_of_obj ho5 j
           have y5 := World.block_lt_of_cell? _ _ e0
           dsimp only at y5
           have H5 := Lib.hid (And.intro s5 (And.intro n5 (And.intro b5 f5)))
           clear s5 n5 b5 f5 ho5))
      all_goals
        go_wp2_with fail
        go_ret2
        refine ⟨w5.heap.size, newD C g ds a4 c4' a5 c5', ?_, new_end Hin.out hgr (by omega) H4.out H5.out⟩
        simp
end Go.Proofs.YtbkadfdpboghiaaDoor
