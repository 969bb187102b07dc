/- Is a heap the document's answer's? -/
import Derived.Test.YtclaicpnjllhjaaHeapIter
import Derived.Test.YtclaicpnjllhjaaHeapRef
import Derived.Test.YtclaicpnjllhjaaQuietRound
namespace Go.Proofs.Ytclaicpnjllhjaa
open Go.RowKit Go.Shelf
attribute [local go_sem] Oper.semAt_some

theorem all3_stops (F : Fence) (n : Nat) (h35 : F.fn 35) (hro : F.round = none) (hn : 1 ≤ n) (bx n₀ : Nat) (a : Option Addr) (c : Nat) (S : List Ent) (hS : S.length ≤ 1000) (w : World)
    (hbx : bx < n₀) (hn₀ : n₀ ≤ w.heap.size) (hc : w.cell? ⟨bx, 0, none⟩ = some (.slice a S.length c)) (hsl : SlAt Ent.cells 5 w a S.length c S) (hab : ∀ ad, a = some ad → ad.block < n₀) :
    SeqStopsK F n Try.prog 35 #[.pointer (some ⟨bx, 0, none⟩)] entArgs (Below n₀) (fun ys => ys = S) (fun pre => ∃ k, k ≤ S.length ∧ pre = S.take k) S.length w := fun l J Jx W hW hJ _ hY h0 =>
  all3_in F n h35 hro hn l bx n₀ a c S hS J Jx W hJ hY hbx ((hW.cell (p := ⟨bx, 0, none⟩) (Nat.lt_of_lt_of_le hbx hn₀)).trans hc) (hsl.frm (Frm.of_below hW (Nat.le_refl _))) hab (Nat.le_trans hn₀ hW.size) h0

theorem func_all3 (bx : Nat) (w : World) : (binOp BinOp.eql 38 (.func (.func 35) #[] #[.pointer (some ⟨bx, 0, none⟩)]) .nilFunc).run Try.prog w = .ok (.bool false) w := by kernel_rfl

theorem drewN_keeps (W : World) (n : Nat) : KeepsOthers W (W.drewN n) := ⟨Nat.le_refl _, fun _ _ h _ => h⟩
section
variable {B : Nat} {w0 w : World} {Q : World → List Nat → Prop} {L : List (Nat × Obj)}
abbrev sameR (bx : Nat) (a : Option Addr) (c : Nat) (hb rb : Nat) (S : List Ent) (Q : World → List Nat → Prop) : World → List Nat → Prop :=
  sepR (boxR bx #[.slice a S.length c] 62) (sepR (rowR 68 5 (.slice a S.length c) S.length (flat Ent.cells S)) (sepR (heapR hb S) (sepR (refR rb S) Q)))
theorem sameR_stable (hQ : Stable Q) (bx : Nat) (a : Option Addr) (c : Nat) (hb rb : Nat) (S : List Ent) : Stable (sameR bx a c hb rb S Q) :=
  sepR_stable (boxR_stable _ _ _) (sepR_stable (rowR_stable _ _ _ _ _) (sepR_stable (heapR_stable _ _) (sepR_stable (refR_stable _ _) hQ)))
theorem Holds.sameRef {bx : Nat} {a : Option Addr} {c hb rb : Nat} {S : List Ent} (h : Holds B w0 (sameR bx a c hb rb S Q) w L) :
    ∃ a' c', w.cell? ⟨rb, 0, none⟩ = some (.slice a' S.length c') ∧ rb < w.heap.size ∧ SlAt Ent.cells 5 w a' S.length c' S := by
  obtain ⟨a', c', h1⟩ := (h.drop.drop.drop).refOpen
  obtain ⟨h2, _, h3, h4⟩ := h1.refCells
  exact ⟨a', c', h2, h3, h4⟩
theorem Holds.sameAll {bx : Nat} {a : Option Addr} {c hb rb : Nat} {S : List Ent} (h : Holds B w0 (sameR bx a c hb rb S Q) w L) :
    w.cell? ⟨bx, 0, none⟩ = some (.slice a S.length c) ∧ bx < w.heap.size ∧ SlAt Ent.cells 5 w a S.length c S ∧ ∀ ad, a = some ad → ad.block < w.heap.size := by
  have h1 := h.theBox
  have h2 := h.drop.row
  refine ⟨cells1 h1, lt_of_obj h1, SlAt.of_row ent_len h2 rfl, fun ad ha => ?_⟩
  subst ha
  rcases row_nil_or h2 with ⟨hv, _⟩ | ⟨g, cc, hv, hg, _⟩
  · simp at hv
  · simp only [Value.slice.injEq, Option.some.injEq] at hv
    rw [hv.1]; exact hg

set_option maxHeartbeats 1000000 in
theorem len_same {b : Nat} {S : List Ent} (h : Holds B w0 (sepR (heapR b S) Q) w L) :
    Calls Try.prog 20 #[.pointer (some ⟨b, 0, none⟩)] w fun e w' => e = .returned (.int .i64 (S.length : Int)) ∧ w' = w := by
  obtain ⟨l, hfit, h0⟩ := h.heapOpen
  rw [← hfit.len]
  obtain ⟨ev, M, D, hp, h1⟩ := h0.rawOpen
  obtain ⟨c0, c1, f0, hb⟩ := h1.hCell0
  obtain ⟨a, cap, rfl⟩ := row_slice h1.hRow.row
  clear h h0 h1 hp hfit
  go_enter Try.func20, Try.ntmps20
  go_wp2_with fail
  go_ret
  exact ⟨rfl, rfl⟩

attribute [local go_sem high] key_neq key_guard in
set_option maxHeartbeats 4000000 in
set_option maxRecDepth 100000 in
theorem same_goes (hQ : Stable Q) {hb rb : Nat} {S : List Ent} (h : Holds B w0 (sepR (heapR hb S) (sepR (refR rb S) Q)) w L) (hn : S.length ≤ 200) (hL : ∀ p ∈ L, p.1 < w.heap.size) :
    Calls Try.prog 13 #[.pointer (some ⟨hb, 0, none⟩), .pointer (some ⟨rb, 0, none⟩)] w (Goes (.bool true) B w0 (sepR (heapR hb S) (sepR (refR rb S) Q)) L) := by
  have hs0 := sepR_stable (heapR_stable hb S) (sepR_stable (refR_stable rb S) hQ)
  have hs1 := sepR_stable (refR_stable rb S) hQ
  refine (callsIn_wide (n := 3)).1 ?_
  refine callsIn_of_wp_marks Try.func13 rfl trivial ?_ rfl
  simp only [Try.ntmps13, List.size_toArray, List.length_cons, List.length_nil, Nat.reduceAdd, Nat.reduceSub, Array.replicate_succ, Array.replicate_zero, List.push_toArray, List.append_toArray, List.nil_append, List.cons_append]
  have H0 := Lib.hid ((h.alloc hs0 (.cells #[.pointer (some ⟨rb, 0, none⟩)] 27)).alloc hs0 (.cells #[.bool false] 4))
  have hBw := h.le
  clear h
  gi_wp2_with fail
  refine ⟨trivial, ?_⟩
  refine callsIn_wide.2 ((all_goes hs1 H0.out hn).mono ?_)
  rintro e w1 ⟨bx, a, c, rfl, h1⟩
  have hs := sameR_stable hQ bx a c hb rb S
  have h2 := h1.alloc hs (.cells #[.int .i64 0] 3)
  have hfn := func_all3 bx
  have z1 := lt_of_obj (h1.box (k := w.heap.size) (o := .cells #[.pointer (some ⟨rb, 0, none⟩)] 27) (by simp))
  have z2 := lt_of_obj (h1.box (k := w.heap.size + 1) (o := .cells #[.bool false] 4) (by simp))
  have H1 := Lib.hid h1
  have H2 := Lib.hid h2
  have HL := Lib.hid hL
  clear h1 h2 H0 hL
  gi_wp2_with fail
  have hall := H2.out.sameAll
  have hall1 := H1.out.sameAll
  have h2 := H2.out
  obtain ⟨hc, _, hsl, _⟩ := hall
  obtain ⟨_, hbx, _, hab⟩ := hall1
  have hsz : w1.heap.size ≤ (w1.alloc (.cells #[.int .i64 0] 3)).heap.size := by simp
  have hszz : (w1.alloc (.cells #[.int .i64 0] 3)).heap.size = w1.heap.size + 1 := by simp
  have hnb := obj_new w1 (.cells #[.int .i64 0] 3)
  generalize w1.alloc (.cells #[.int .i64 0] 3) = W0 at h2 hsz hszz hc hsl hnb ⊢
  obtain ⟨nb, hnbe⟩ : ∃ nb, w1.heap.size = nb := ⟨_, rfl⟩
  obtain ⟨b3, hb3⟩ : ∃ b3, w.heap.size = b3 := ⟨_, rfl⟩
  obtain ⟨b4, hb4⟩ : ∃ b4, b3 + 1 = b4 := ⟨_, rfl⟩
  rw [hb3] at h2 z1 z2 hBw
  simp only [World.size_alloc] at h2
  rw [hb3] at h2
  rw [hb4] at h2 z2
  simp only [hb3, hb4]
  rw [hnbe] at h2 hbx hab hsz hszz hnb z1 z2
  simp only [hnbe]
  have HW := Lib.hid h2
  clear h2 hfn H1 H2
  refine wpIn_rangeFunc_ownH (F := Fence.wide) rfl (by omega) (gf := 35) (lb := #[.pointer (some ⟨bx, 0, none⟩)]) rfl trivial (enters_of Try.func35 (by kernel_rfl) rfl)
    (all3_stops Fence.wide _ trivial rfl (by omega) bx nb a c S (by omega) W0 hbx hsz hc hsl hab) belowK_t (belowK_b hsz) (Below.refl _ _) (fun _ => rfl)
    (fun pre W => (pre = S.take pre.length ∧ W.heap[nb]? = some (.cells #[.int .i64 pre.length] 3)) ∧ Frm [nb] W0 W) (fun _ pre _ => ¬ ∃ k, k ≤ S.length ∧ pre = S.take k)
    (OwnFrom.and (OwnFrom.and (ownFrom_pure _ _) (ownFrom_obj _ _ _ (fun pre : List Ent => #[Value.int .i64 pre.length]))) (ownFrom_frm (Nat.le_refl _)))
    (fun c => ownFrom_pure _ _)
    ⟨⟨rfl, hnb⟩, Frm.refl _ _⟩
    (fun x a' W => ∃ Bx, W0.heap.size ≤ Bx ∧ W.heap[Bx]? = some (.cells #[.int .i64 x.k.at_, .int .i64 x.k.src, .int .i64 x.k.sent, .int .i64 x.k.no] 33) ∧ a' = { tmps := #[.pointer (some ⟨hb, 0, none⟩), .pointer (some ⟨rb, 0, none⟩), undef, .pointer (some ⟨b3, 0, none⟩), .pointer (some ⟨b4, 0, none⟩), .func (.func 35) #[] #[.pointer (some ⟨bx, 0, none⟩)], .pointer (some ⟨nb, 0, none⟩), .pointer (some ⟨Bx, 0, none⟩), .int .i64 x.v, .pointer (some ⟨hb, 0, none⟩), .func (.func 35) #[] #[.pointer (some ⟨bx, 0, none⟩)], .func (.func 35) #[] #[.pointer (some ⟨bx, 0, none⟩)], .bool false, .func (.func 35) #[] #[.pointer (some ⟨bx, 0, none⟩)], .agg #[.int .i64 x.k.at_, .int .i64 x.k.src, .int .i64 x.k.sent, .int .i64 x.k.no], .int .i64 x.v, undef, undef, undef, undef, undef, undef, undef, undef, undef, undef, undef, undef, undef, undef, undef, undef, undef, undef, undef, undef, undef, undef, undef, undef, undef, undef, undef, undef, undef, undef, undef, undef, undef, undef, undef, undef, undef, undef, undef, undef, undef, undef, undef, undef, undef, undef], defers := [] })
    (fun x a' _ X Y row hs hg hr => by obtain ⟨Bx, e1, e2, e3⟩ := hs; exact ⟨Bx, e1, ownFrom_obj _ Bx 33 (fun _ : Unit => #[.int .i64 x.k.at_, .int .i64 x.k.src, .int .i64 x.k.sent, .int .i64 x.k.no]) () X Y row e2 hg hr, e3⟩)
    ?assign ?body ?done ?stop
  case assign =>
    rintro l pre x W K ⟨⟨hp, hn1⟩, hf⟩ hK
    have Hn1 := Lib.hid hn1
    have HK := Lib.hid hK
    clear hn1 hK
    gi_wp2
    have hle := hf.size
    exact HK.out _ _ ((KeepsOthers.alloc _ _).from _) ((Below.refl _ W).alloc (by omega) _) ⟨⟨hp, obj_alloc Hn1.out _⟩, hf.alloc _⟩ ⟨W.heap.size, hf.size, obj_new _ _, rfl⟩
  case body =>
    rintro l pre x a' W hl ⟨r, hr⟩ ⟨⟨hp, hn1⟩, hf⟩ ⟨Bx, hBx, hK, rfl⟩ hlt
    have hH := HW.out.frmBox hs hf (by have := HW.out.le; omega) (by
      intro p hp
      rcases List.mem_cons.1 hp with rfl | hp
      · dsimp only; omega
      · rcases List.mem_cons.1 hp with rfl | hp
        · dsimp only; omega
        · have := HL.out p hp; omega) hn1
    obtain ⟨m, hm⟩ : ∃ m, pre.length = m := ⟨_, rfl⟩
    obtain ⟨a', c', c0, hrb, hsr⟩ := hH.sameRef
    have s0 := cells1 hn1
    have f0 : W.frozen? ⟨nb, 0, none⟩ = false := frozen_of_obj hn1 0
    have t0 := cells1 (hH.box (k := b3) (o := .cells #[.pointer (some ⟨rb, 0, none⟩)] 27) (by simp))
    have u0 : W.frozen? ⟨b4, 0, none⟩ = false := frozen_of_obj (hH.box (k := b4) (o := .cells #[.bool false] 4) (by simp)) 0
    have u1 := cells1 (hH.box (k := b4) (o := .cells #[.bool false] 4) (by simp))
    obtain ⟨r0, r1, r2, r3⟩ := cells4 hK
    rw [hm] at hlt s0
    obtain ⟨b1, o1, y, rfl, hb1, hy, hcell⟩ := hsr.at_ hlt
    have p0 := hcell 0 _ rfl
    have p1 := hcell 1 _ rfl
    have p2 := hcell 2 _ rfl
    have p3 := hcell 3 _ rfl
    have p4 := hcell 4 _ rfl
    simp only [Nat.add_zero] at p0
    have gc := hsr.2.1
    have hWs := hf.size
    have zB := lt_of_obj hK
    have zn := lt_of_obj hn1
    have Hp := Lib.hid hp
    have Hn1 := Lib.hid hn1
    have Hy := Lib.hid hy
    have Hf := Lib.hid hf
    have Hm := Lib.hid hm
    have i0 : (0 : Int) ≤ (m : Int) := by omega
    have i1 : (m : Int) < (S.length : Int) := by omega
    have hts : ¬ y = x → ¬ ∃ k, k ≤ S.length ∧ pre ++ [x] = S.take k := by
      rintro hne ⟨k, hk, he⟩
      have h1 : (pre ++ [x])[m]? = some x := by simp [← hm]
      rw [he] at h1
      rw [List.getElem?_take] at h1
      split at h1
      · rw [hy] at h1; exact hne (Option.some.inj h1)
      · cases h1
    have Hts := Lib.hid hts
    clear hr hH hsr hcell hy hp hn1 hK hf hm hts hrb hnb hc hsl hab
    have hgd : decide (S.length ≤ m) = false := by simp; omega
    have hge : decide ((S.length : Int) ≤ (m : Int)) = false := by simp; omega
    cases hd : decide (y.k = x.k)
    · gi_wp2_with fail
      refine wpIn_region_quiet_plain (by kernel_rfl) (by kernel_rfl) (by kernel_rfl) ?_
      repeat (gi_big_quiet_step (fail))
      refine wpQuietIn_nil ?_
      rintro _ ⟨nq, rfl⟩
      gi_wp2_with fail
      exact ⟨((drewN_keeps W nq).trans (KeepsOthers.setCell _ _ _)).from _, Hts.out (by rintro rfl; simp at hd)⟩
    · cases hv : (y.v == x.v)
      · have hv1 : (y.v != x.v) = true := by rw [bne, hv]; rfl
        have hv2 : decide (y.v = x.v) = false := by simpa using hv
        gi_wp2_with fail
        refine wpIn_region_quiet_plain (by kernel_rfl) (by kernel_rfl) (by kernel_rfl) ?_
        repeat (gi_big_quiet_step (fail))
        refine wpQuietIn_nil ?_
        rintro _ ⟨nq, rfl⟩
        gi_wp2_with fail
        exact ⟨((drewN_keeps W nq).trans (KeepsOthers.setCell _ _ _)).from _, Hts.out (by rintro rfl; simp at hv)⟩
      · have hv1 : (y.v != x.v) = false := by rw [bne, hv]; rfl
        have hv2 : decide (y.v = x.v) = true := by simpa using hv
        gi_wp2_with fail
        refine wpIn_region_quiet_plain (by kernel_rfl) (by kernel_rfl) (by kernel_rfl) ?_
        repeat (gi_big_quiet_step (fail))
        refine wpQuietIn_nil ?_
        rintro _ ⟨nq, rfl⟩
        gi_wp2_with fail
        have hxy : y = x := by
          obtain ⟨xk, xv⟩ := x
          obtain ⟨yk, yv⟩ := y
          simp only [decide_eq_true_eq] at hd hv2
          subst hd hv2
          rfl
        have hln : (pre ++ [x]).length = m + 1 := by simp [Hm.out]
        have hfr : Frm [nb] W ((W.drewN nq).setCell ⟨nb, 0, none⟩ (.int .i64 ((m : Int) + 1))) := ((Frm.refl [nb] W).drewN nq).setCell (a := ⟨nb, 0, none⟩) (.inl (by simp)) _
        refine ⟨((drewN_keeps W nq).trans (KeepsOthers.setCell _ _ _)).from _, hfr.below (by omega) (by simp), ⟨?_, ?_⟩, Hf.out.trans hfr (by simp)⟩
        · rw [hln, List.take_add_one, Hy.out, hxy, ← Hm.out, ← Hp.out]; rfl
        · have h5 := obj_setCell (w := W.drewN nq) Hn1.out 0 (.int .i64 ((m : Int) + 1))
          rw [hln]
          exact h5
  case done =>
    rintro D xs W hD hxs ⟨⟨hp, hn1⟩, hf⟩ hKD
    rw [hxs] at hn1
    clear hp hxs
    have hH := HW.out.frmMore hs hf (by have := HW.out.le; omega) (by
      intro p hp
      rcases List.mem_cons.1 hp with rfl | hp
      · dsimp only; omega
      · rcases List.mem_cons.1 hp with rfl | hp
        · dsimp only; omega
        · have := HL.out p hp; omega) hn1 hD hKD
    have s0 := cells1 hn1
    have t0 := cells1 (hH.box (k := b3) (o := .cells #[.pointer (some ⟨rb, 0, none⟩)] 27) (by simp))
    have u0 : W.frozen? ⟨b4, 0, none⟩ = false := frozen_of_obj (hH.box (k := b4) (o := .cells #[.bool false] 4) (by simp)) 0
    have u1 := cells1 (hH.box (k := b4) (o := .cells #[.bool false] 4) (by simp))
    obtain ⟨a', c', c0, hrb, hsr⟩ := hH.sameRef
    have hd3 := Lib.hid ((hH.drew hs).conv Conv.third)
    have H3 := Lib.hid hH
    clear hH hsr hf hn1 hc hsl hab hnb
    have hsm : (IntKind.i64.wrap 1 : Int) = 1 := rfl
    gi_wp2_with fail
    refine wpIn_wide.2 ?_
    go_wp2_with fail
    have n1 : nb ≠ b4 := by omega
    have n2 : b3 ≠ b4 := by omega
    have n3 : rb ≠ b4 := by rintro rfl; rw [c0] at u1; cases u1
    have kf : ∀ v, Frm [b4] W (W.setCell ⟨b4, 0, none⟩ v).drew := fun v => ((Frm.refl [b4] W).setCell (a := ⟨b4, 0, none⟩) (.inl (by simp)) v).drew
    have k1 : ∀ v, (W.setCell ⟨b4, 0, none⟩ v).drew.cell? ⟨nb, 0, none⟩ = some (.int .i64 (S.length : Int)) := fun v => (kf v).cell s0 (by simpa using n1)
    have k2 : ∀ v, (W.setCell ⟨b4, 0, none⟩ v).drew.cell? ⟨b3, 0, none⟩ = some (.pointer (some ⟨rb, 0, none⟩)) := fun v => (kf v).cell t0 (by simpa using n2)
    have k3 : ∀ v, (W.setCell ⟨b4, 0, none⟩ v).drew.cell? ⟨rb, 0, none⟩ = some (.slice a' S.length c') := fun v => (kf v).cell c0 (by simpa using n3)
    have Kf := Lib.hid kf
    have hLb : ∀ p ∈ L, p.1 ≠ b4 ∧ p.1 ≠ D := fun p hp => by have := HL.out p hp; omega
    have HLb := Lib.hid hLb
    clear n1 n2 n3 kf hLb
    go_region_held3 (fun w' => w'.cell? ⟨nb, 0, none⟩ = some (.int .i64 (S.length : Int)) ∧ w'.cell? ⟨b3, 0, none⟩ = some (.pointer (some ⟨rb, 0, none⟩)) ∧ w'.cell? ⟨rb, 0, none⟩ = some (.slice a' S.length c'))
      (first | go_keep | exact ⟨k1 _, k2 _, k3 _⟩)
      ((go_at_call 20; refine (len_same hd3.out).mono ?_; rintro e w6 ⟨rfl, rfl⟩))
    go_wp2_with fail
    gi_wp2_with fail
    have g1 : (W.setCell ⟨b4, 0, none⟩ (.bool true)).drew.heap[D]? = some (.deferred (some [])) := obj_setCell_ne hKD (a := ⟨b4, 0, none⟩) (by dsimp only; omega) _
    have g2 : (W.setCell ⟨b4, 0, none⟩ (.bool true)).drew.heap[b4]? = some (.cells #[.bool true] 4) := obj_setCell (H3.out.box (k := b4) (o := .cells #[.bool false] 4) (by simp)) 0 _
    have h5 := (H3.out.sub (M := (b4, .cells #[.bool false] 4) :: (D, .deferred (some [])) :: L) (fun p hp => by simp at hp ⊢; rcases hp with rfl | rfl | hp <;> simp [*])).frmBox hs (Kf.out (.bool true)) (by omega) (fun p hp => by
      rcases List.mem_cons.1 hp with rfl | hp
      · dsimp only; omega
      · exact (HLb.out p hp).1) g2
    have h6 := (h5.sub (M := (D, .deferred (some [])) :: L) (fun p hp => by simp at hp ⊢; rcases hp with rfl | hp <;> simp [*])).frmBox hs (Frm.of_grown (grownBy_putObj' _ D (.deferred none)) (fun k e => .inl (by simpa using e.symm))) (by omega) (fun p hp => (HLb.out p hp).2) (World.putObj_heap_same (lt_of_obj g1))
    have g3 := cells1 ((World.putObj_heap_other (o := .deferred none) (show b4 ≠ D by omega)).trans g2)
    refine ⟨by simp, .inl ⟨_, _, rfl, run_takeDeferred g1, ?_⟩⟩
    refine ⟨.bool true, by simp [results, Try.results13, go_sem, g3], rfl, ?_⟩
    exact ((h6.sub (M := L) (fun p hp => by simp [hp])).drop).drop
  case stop =>
    rintro D c pre W _ hk h _
    exact absurd hk h
end
end Go.Proofs.Ytclaicpnjllhjaa
