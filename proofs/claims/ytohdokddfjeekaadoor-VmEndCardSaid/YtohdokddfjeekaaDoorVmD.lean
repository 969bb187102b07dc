/- Package vm: do. -/
import Derived.Test.YtohdokddfjeekaaDoorVmB
namespace Go.Proofs.YtohdokddfjeekaaDoor
open Go.RowKit Go.Maps

theorem out_full {fan : Int} {l : List Em} (x : Em) (h : ¬ ((outP fan l).length : Int) < fan) : outP fan (l ++ [x]) = outP fan l := by
  unfold outP at *
  rw [List.length_take] at h
  rw [List.take_append_of_le_length (by omega)]
theorem out_room {fan : Int} {l : List Em} (x : Em) (h : ((outP fan l).length : Int) < fan) : outP fan (l ++ [x]) = outP fan l ++ [x] := by
  unfold outP at *
  rw [List.length_take] at h
  rw [List.take_of_length_le (l := l) (by omega), List.take_of_length_le (by rw [List.length_append]; simp; omega)]
theorem out_le (fan : Int) (l : List Em) : (outP fan l).length ≤ l.length := by unfold outP; rw [List.length_take]; omega

section
variable {B : Nat} {w0 w : World} {Q : World → List Nat → Prop} {L : List (Nat × Obj)}
variable {m : Nat} {e : Ev} {pa a : Option Addr} {pc c : Nat} {p : List Ins} {fan pl : Int} {cs : Nat → Int} {l : List Em} {x : Ins} {s : MS}

theorem Holds.placed (hQ : Stable Q) (h : Holds B w0 (sepR (mach0 m e pa pc p fan cs pl a c l) Q) w L) (v : Int) : Holds B w0 (sepR (mach0 m e pa pc p fan cs v a c l) Q) (w.setCell ⟨m, 16, none⟩ (.int .i64 v)) L := by
  have h1 := h.mBox.boxPut (sepR_stable (sepR_stable (rowR_stable _ _ _ _ _) (rowR_stable _ _ _ _ _)) hQ) 16 (.int .i64 v)
  rw [machA_pl] at h1
  exact h1.mBox'
theorem Holds.celled (hQ : Stable Q) (h : Holds B w0 (sepR (mach0 m e pa pc p fan cs pl a c l) Q) w L) {k : Nat} (hk : k < 8) (v : Int) : Holds B w0 (sepR (mach0 m e pa pc p fan (setC cs k v) pl a c l) Q) (w.setCell ⟨m, 8 + k, none⟩ (.int .i64 v)) L := by
  have h1 := h.mBox.boxPut (sepR_stable (sepR_stable (rowR_stable _ _ _ _ _) (rowR_stable _ _ _ _ _)) hQ) (8 + k) (.int .i64 v)
  rw [machA_set hk] at h1
  exact h1.mBox'

/-- What do leaves. -/
abbrev DoGoes (B : Nat) (w0 : World) (m : Nat) (e : Ev) (pa : Option Addr) (pc : Nat) (p : List Ins) (fan : Int) (s : MS) (Q : World → List Nat → Prop) (L : List (Nat × Obj)) : Ending → World → Prop :=
  Goes (.tuple #[]) B w0 (sepR (machR m e pa pc p fan s) Q) L

set_option maxHeartbeats 4000000 in
set_option maxRecDepth 100000 in
theorem do_any (hQ : Stable Q) (h : Holds B w0 (sepR (machR m e pa pc p fan s) Q) w L) (hx : mayE x p.length = 0) (h15 : x.op ≠ 15) (hpl : s.pl < 64) (hse : s.sent.length ≤ 2000) (hL : ∀ q ∈ L, q.1 < w.heap.size) :
    Calls Tryd.prog 16 #[.pointer (some ⟨m, 0, none⟩), x.val] w (DoGoes B w0 m e pa pc p fan (doP e x s) Q L) := by
  obtain ⟨a, c, h1⟩ := h.mOpen
  have hs : Stable (sepR (mach0 m e pa pc p fan s.cs s.pl a c (outP fan s.sent)) Q) := sepR_stable (mach0_stable _ _ _ _ _ _ _ _ _ _ _) hQ
  have hs1 : Stable (sepR (mach0 m e pa pc p fan s.cs ((s.pl : Int) + 1) a c (outP fan s.sent)) Q) := sepR_stable (mach0_stable _ _ _ _ _ _ _ _ _ _ _) hQ
  have hlt : m < w.heap.size := World.block_lt_of_cell? _ _ h1.mCells.at_
  have c16 := h1.mCells.place
  have hne : m ≠ w.heap.size := by omega
  have fz : w.frozen? ⟨m, 16, none⟩ = false := frozen_of_obj h1.mBox.theBox 16
  have e1 : IntKind.i64.wrap ((s.pl : Int) + 1) = (s.pl : Int) + 1 := IntWalk.i64_in _ (by omega)
  have hop := op_cases (may_inv hx).1
  have hm := h1.mCells
  have hp := h1.placed hQ ((s.pl : Int) + 1)
  have h2 := hp.alloc hs1 x.box
  rw [World.size_setCell] at h2
  have H1 := Lib.hid h1
  have Hp := Lib.hid hp
  have H2 := Lib.hid h2
  have Hx := Lib.hid hx
  have HL := Lib.hid hL
  clear h h1 hp h2 hx hL
  by_cases h8 : x.op = 8
  · obtain ⟨k, hk, hxa⟩ := may_jump Hx.out h8
    obtain ⟨op, xa, xb, xc, xd⟩ := x
    dsimp only at h8 hxa
    subst h8 hxa
    have h3 := (Hp.out.placed hQ (k : Int)).alloc (sepR_stable (mach0_stable _ _ _ _ _ _ _ _ _ _ _) hQ) (Ins.mk 8 k xb xc xd).box
    have hdo : doP e ⟨8, k, xb, xc, xd⟩ s = ⟨s.cs, k, s.sent⟩ := rfl
    rw [hdo]
    have H3 := Lib.hid h3
    clear h3 hdo hop hm
    go_enter Tryd.func16, Tryd.ntmps16
    go_wp2_with fail
    go_end0
    exact ⟨rfl, (Holds.mShut (s := ⟨s.cs, k, s.sent⟩) H3.out).sub (fun _ hq => List.mem_cons_of_mem _ hq)⟩
  by_cases h9 : x.op = 9
  · obtain ⟨k, hk, hxb⟩ := may_zero Hx.out h9
    obtain ⟨ka, hka, hxa⟩ := may_a Hx.out h8 h15
    obtain ⟨op, xa, xb, xc, xd⟩ := x
    dsimp only at h9 hxa hxb
    subst h9 hxa hxb
    have cz := (Hp.out.mCells).cell ka hka
    have hka' : (ka : Int) < 8 := by omega
    have c16b := Hp.out.mCells.place
    have fzb : (w.setCell ⟨m, 16, none⟩ (.int .i64 ((s.pl : Int) + 1))).frozen? ⟨m, 16, none⟩ = false := frozen_of_obj Hp.out.mBox.theBox 16
    clear hop hm
    by_cases hz : s.cs ka = 0
    · have hdo : doP e ⟨9, ka, k, xc, xd⟩ s = ⟨s.cs, k, s.sent⟩ := by
        show MS.mk s.cs (if s.cs ka = 0 then k else s.pl + 1) s.sent = _
        rw [if_pos hz]
      rw [hdo]
      have gz : (s.cs ka == 0) = true := by rw [beq_iff_eq]; exact hz
      clear hdo hz
      go_enter Tryd.func16, Tryd.ntmps16
      go_wp2_with fail
      go_quiet (fail)
      go_wp2_with fail
      go_end0
      exact ⟨rfl, (Holds.mShut (s := ⟨s.cs, k, s.sent⟩) ((H2.out.drewN hs1 _).placed hQ (k : Int))).sub (fun _ hq => List.mem_cons_of_mem _ hq)⟩
    · have hdo : doP e ⟨9, ka, k, xc, xd⟩ s = ⟨s.cs, s.pl + 1, s.sent⟩ := by
        show MS.mk s.cs (if s.cs ka = 0 then k else s.pl + 1) s.sent = _
        rw [if_neg hz]
      rw [hdo]
      have gz : (s.cs ka == 0) = false := by rw [beq_eq_false_iff_ne]; exact hz
      clear hdo hz
      go_enter Tryd.func16, Tryd.ntmps16
      go_wp2_with fail
      go_quiet (fail)
      go_wp2_with fail
      go_end0
      exact ⟨rfl, (Holds.mShut (s := ⟨s.cs, s.pl + 1, s.sent⟩) (H2.out.drewN hs1 _)).sub (fun _ hq => List.mem_cons_of_mem _ hq)⟩
  by_cases h14 : x.op = 14
  · obtain ⟨ka, hka, hxa⟩ := may_a Hx.out h8 h15
    obtain ⟨kb, hkb, hxb⟩ := may_b Hx.out (.inr (.inl h14))
    obtain ⟨kc, hkc, hxc⟩ := may_c Hx.out (.inl h14)
    obtain ⟨op, xa, xb, xc, xd⟩ := x
    dsimp only at h14 hxa hxb hxc
    subst h14 hxa hxb hxc
    have hl : (outP fan s.sent).length ≤ 2000 := Nat.le_trans (out_le _ _) hse
    have hdo : doP e ⟨14, ka, kb, kc, xd⟩ s = ⟨s.cs, s.pl + 1, s.sent ++ [⟨s.cs ka, s.cs kb, xd, s.cs kc⟩]⟩ := rfl
    rw [hdo]
    by_cases hf : ((outP fan s.sent).length : Int) < fan
    · have hc := send_ok (op := 14) (d := xd) hQ H2.out hf hl hka hkb hkc
      have eo := out_room ⟨s.cs ka, s.cs kb, xd, s.cs kc⟩ hf
      rw [← eo] at hc
      have Hc := Lib.hid hc
      clear hdo hop hm hc eo hf
      go_enter Tryd.func16, Tryd.ntmps16
      go_wp2_with fail
      refine Hc.out.mono ?_
      rintro e' w2 ⟨rfl, a2, c2, h2⟩
      have H3 := Lib.hid h2
      clear h2
      go_wp2_with fail
      go_end0
      exact ⟨rfl, (Holds.mShut (s := ⟨s.cs, s.pl + 1, s.sent ++ [⟨s.cs ka, s.cs kb, xd, s.cs kc⟩]⟩) H3.out).sub (fun _ hq => List.mem_cons_of_mem _ hq)⟩
    · have hc := send_full (x := ⟨14, ka, kb, kc, xd⟩) hQ H2.out hf
      have eo := out_full ⟨s.cs ka, s.cs kb, xd, s.cs kc⟩ hf
      rw [← eo] at hc
      have Hc := Lib.hid hc
      clear hdo hop hm hc eo hf
      go_enter Tryd.func16, Tryd.ntmps16
      go_wp2_with fail
      refine Hc.out.mono ?_
      rintro e' w2 ⟨rfl, h2⟩
      have H3 := Lib.hid h2
      clear h2
      go_wp2_with fail
      go_end0
      exact ⟨rfl, (Holds.mShut (s := ⟨s.cs, s.pl + 1, s.sent ++ [⟨s.cs ka, s.cs kb, xd, s.cs kc⟩]⟩) H3.out).sub (fun _ hq => List.mem_cons_of_mem _ hq)⟩
  obtain ⟨ka, hka, hxa⟩ := may_a Hx.out h8 h15
  obtain ⟨op, xa, xb, xc, xd⟩ := x
  dsimp only at hxa h8 h9 h14 h15
  subst hxa
  have hdo : doP e ⟨op, ka, xb, xc, xd⟩ s = ⟨setC s.cs ka (valP e s.cs ⟨op, ka, xb, xc, xd⟩), s.pl + 1, s.sent⟩ := by
    unfold doP
    dsimp only
    rw [if_neg h8, if_neg h9, if_neg h14]
    rfl
  rw [hdo]
  have hvv : ∀ W, Holds B w0 (sepR (mach0 m e pa pc p fan s.cs ((s.pl : Int) + 1) a c (outP fan s.sent)) Q) W ((w.heap.size, (Ins.mk op ka xb xc xd).box) :: L) →
      Calls Tryd.prog 21 #[.pointer (some ⟨m, 0, none⟩), (Ins.mk op ka xb xc xd).val] W (Tells (.int .i64 (valP e s.cs ⟨op, ka, xb, xc, xd⟩)) W) := fun W hW => value_any hW.mCells ⟨op, ka, xb, xc, xd⟩ p.length Hx.out ⟨h8, h9, h14, h15⟩
  have g8 : (op == 8) = false := by rw [beq_eq_false_iff_ne]; exact h8
  have g9 : (op == 9) = false := by rw [beq_eq_false_iff_ne]; exact h9
  have g14 : (op == 14) = false := by rw [beq_eq_false_iff_ne]; exact h14
  have hka' : (ka : Int) < 8 := by omega
  generalize valP e s.cs ⟨op, ka, xb, xc, xd⟩ = v at hvv ⊢
  have Hv := Lib.hid hvv
  clear hdo hop hm hvv h8 h9 h14 h15
  go_enter Tryd.func16, Tryd.ntmps16
  go_wp2_with fail
  refine wp_world (fun W => Holds B w0 (sepR (mach0 m e pa pc p fan s.cs ((s.pl : Int) + 1) a c (outP fan s.sent)) Q) W ((w.heap.size, (Ins.mk op ka xb xc xd).box) :: L)) H2.out ?_
  intro W hW
  have hd := hW.drew hs1
  have hkeep : ∀ (R : World → List Nat → Prop) (W' : World), Holds B w0 R W' ((w.heap.size, (Ins.mk op ka xb xc xd).box) :: L) → W'.cell? ⟨w.heap.size, 0, none⟩ = some (.int .i64 op) ∧ W'.cell? ⟨w.heap.size, 1, none⟩ = some (.int .i64 ka) ∧ W'.cell? ⟨w.heap.size, 2, none⟩ = some (.int .i64 xb) ∧ W'.cell? ⟨w.heap.size, 3, none⟩ = some (.int .i64 xc) ∧ W'.cell? ⟨w.heap.size, 4, none⟩ = some (.int .i64 xd) :=
    fun R W' h => cells5 (h.box (k := w.heap.size) (o := (Ins.mk op ka xb xc xd).box) (by simp))
  have K1 := hkeep _ _ hd
  have H3 := Lib.hid hd
  have HK := Lib.hid hkeep
  clear hW hd hkeep H2 H1 Hp Hx HL fz c16
  go_region_held3 (fun w' => w'.cell? ⟨w.heap.size, 0, none⟩ = some (.int .i64 op) ∧ w'.cell? ⟨w.heap.size, 1, none⟩ = some (.int .i64 ka) ∧ w'.cell? ⟨w.heap.size, 2, none⟩ = some (.int .i64 xb) ∧ w'.cell? ⟨w.heap.size, 3, none⟩ = some (.int .i64 xc) ∧ w'.cell? ⟨w.heap.size, 4, none⟩ = some (.int .i64 xd))
    (first | exact K1 | exact HK.out _ _ H4.out | exact HK.out _ _ H5.out)
    ((go_at_call 21
      refine (Hv.out _ H3.out).mono ?_
      rintro e' w4 ⟨rfl, hF⟩
      have h4 := H3.out.made hs1 hF
      have fz4 : ∀ k, w4.frozen? ⟨m, k, none⟩ = false := fun k => frozen_of_obj h4.mBox.theBox k
      have c4 := h4.mCells.cell ka hka
      have lt4 : m < w4.heap.size := lt_of_obj h4.mBox.theBox
      have H4 := Lib.hid h4
      have H5 := Lib.hid (h4.celled hQ hka v)
      clear h4 hF))
  go_wp2_with fail
  go_end0
  exact ⟨rfl, (Holds.mShut (s := ⟨setC s.cs ka v, s.pl + 1, s.sent⟩) H5.out).sub (fun _ hq => List.mem_cons_of_mem _ hq)⟩
end
end Go.Proofs.YtohdokddfjeekaaDoor
