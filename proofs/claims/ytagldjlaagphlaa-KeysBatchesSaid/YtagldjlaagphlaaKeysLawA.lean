/- KeysSort: what its rounds say, and the walk up to its range. -/
import Derived.Test.YtagldjlaagphlaaKeysRSort
import Derived.Test.YtagldjlaagphlaaKeysBatI
namespace Go.Proofs.Ytagldjlaagphlaa
open Go.RowKit Go.Maps Go.Shelf
attribute [local go_sem] Oper.semAt_some

set_option maxHeartbeats 1000000 in
set_option maxRecDepth 100000 in
theorem ksort_out (w : World) (a1 : Option Addr) (n1 c1 : Nat) (h : 60 < n1) : Calls Try.prog 4 #[.slice a1 n1 c1] w (LawTrue w) := by
  have H0 := Lib.hid ((Holds.start w).alloc noneR_stable (.cells #[.bool false] 4))
  go_enter Try.func4, Try.ntmps4
  go_wp2_with fail
  refine (awake_any _).mono ?_
  rintro e v3 ⟨rfl, hf⟩
  have h2 := H0.out.made noneR_stable hf
  have ob := h2.box (k := w.heap.size) (o := .cells #[.bool false] 4) (by simp)
  have u1 := cells1 ob
  have u0 : v3.frozen? ⟨w.heap.size, 0, none⟩ = false := frozen_of_obj ob 0
  have zu := lt_of_obj ob
  have H2 := Lib.hid h2
  have g9 := cells1 (obj_setCell ob 0 (.bool true))
  clear hf h2 ob
  go_wp2_with fail
  exact bodyPost_ret (v := .bool true) (by simp [results, Try.results4, go_sem, g9]) rfl ⟨rfl, H2.out.below.setCell (p := ⟨w.heap.size, 0, none⟩) (Nat.le_refl _) _⟩

theorem func_bat (g : Nat) (w : World) : (binOp BinOp.eql 40 (.func (.func 30) #[] #[.pointer (some ⟨g, 0, none⟩)]) .nilFunc).run Try.prog w = .ok (.bool false) w := by kernel_rfl

/-- The time that was told last. -/
def LastOk (S : List Ev) (p : Nat) (q : Int) : Prop := 0 < p → ∃ (i : Nat) (e : Ev), i < p ∧ S[i]? = some e ∧ q = e.k.at_
def KsI (S : List Ev) (G : Nat) (W0 : World) (pre : List Bt) (W : World) : Prop :=
  Below G W0 W ∧ W.heap[G]? = some (.cells #[.int .i64 ((posn pre : Nat) : Int)] 3) ∧ ∃ q : Int, W.heap[G + 1]? = some (.cells #[.int .i64 q] 3) ∧ LastOk S (posn pre) q
theorem ksI_own (S : List Ev) (G : Nat) (W0 : World) (B : Nat) (h1 : G ≤ W0.heap.size) (h2 : G ≤ B) : OwnFrom B (KsI S G W0) := fun pre X Y row hs hg hr => by
  obtain ⟨a1, a2, q, a3, a4⟩ := hs
  exact ⟨ownFrom_below (β := Unit) h1 h2 () X Y row a1 hg hr, ownFrom_obj (β := Unit) B G 3 (fun _ => #[.int .i64 ((posn pre : Nat) : Int)]) () X Y row a2 hg hr, q,
    ownFrom_obj (β := Unit) B (G + 1) 3 (fun _ => #[.int .i64 q]) () X Y row a3 hg hr, a4⟩

set_option maxHeartbeats 4000000 in
set_option maxRecDepth 100000 in
theorem ksort_in (w : World) (a1 : Option Addr) (n1 c1 : Nat) (l : List Ev) (hl : EvsAt w a1 n1 c1 l) (hnil : a1 = none → n1 = 0 ∧ c1 = 0) (h2 : n1 ≤ 60) :
    Calls Try.prog 4 #[.slice a1 n1 c1] w (LawTrue w) := by
  have gc1 := hl.2.1
  have Hl := Lib.hid hl
  have Hnil := Lib.hid hnil
  clear hl hnil
  refine (callsIn_wide (n := 3)).1 ?_
  refine callsIn_of_wp_marks Try.func4 rfl trivial ?_ rfl
  simp only [Try.ntmps4, List.size_toArray, List.length_cons, List.length_nil, Nat.reduceAdd, Nat.reduceSub, Array.replicate_succ, Array.replicate_zero, List.push_toArray, List.append_toArray, List.nil_append, List.cons_append]
  refine wpIn_wide.2 ?_
  have H0 := Lib.hid ((Holds.start w).alloc noneR_stable (.cells #[.bool false] 4))
  go_wp2_with fail
  refine (rsort_goesN noneR_stable H0.out (Hl.out.frm ((Frm.refl _ _).alloc _)) (by omega)).mono ?_
  rintro e w2 ⟨a2, c2, S, rfl, r1, r2, r3, r4, h2'⟩
  have hR : Stable (sepR (rowR 25 7 (.slice a2 n1 c2) n1 (evCells S)) noneR) := sepR_stable (rowR_stable _ _ _ _ _) noneR_stable
  obtain ⟨T, hT⟩ : ∃ T, w2.heap.size = T := ⟨_, rfl⟩
  have h3 := h2'.alloc hR (.cells #[.slice a2 n1 c2] 35)
  rw [hT] at h3
  have HT := Lib.hid hT
  have R1 := Lib.hid r1
  have R2 := Lib.hid r2
  have R3 := Lib.hid r3
  have R4 := Lib.hid r4
  have H3 := Lib.hid h3
  have Hd := Lib.hid (H3.out.drew hR)
  have hTw : T < (w2.alloc (.cells #[.slice a2 n1 c2] 35)).heap.size := lt_of_obj (H3.out.box (k := T) (o := .cells #[.slice a2 n1 c2] 35) (by simp))
  have hT0 := cells1 (H3.out.box (k := T) (o := .cells #[.slice a2 n1 c2] 35) (by simp))
  clear r1 r2 r3 r4 h2' h3 hT H0
  go_wp2_with fail
  simp only [HT.out]
  go_region_held3 (fun w' => w'.cell? ⟨T, 0, none⟩ = some (.slice a2 n1 c2))
    (first | go_keep | exact hT0 | exact y4 | exact y5)
    ((first
    | (go_at_call 19
       refine (sort_goesN hR Hd.out (Hl.out.frm (Frm.of_below Hd.out.below (Nat.le_refl _))) (by omega) Hnil.out).mono ?_
       rintro e w4 ⟨a4, c4, S4, rfl, q1, q2, q3, q4, h4⟩
       have hS := asc_unique R1.out q1 (R2.out.symm.trans q2)
       rw [← hS] at h4 q3
       have hev := events_any w4 a4 n1 c4 S a2 n1 c2 S (EvsAt.of_row h4.row q3) (EvsAt.of_row h4.row2 R3.out) (by omega)
       rw [show decide (S = S) = true by simp] at hev
       have y4 := cells1 (h4.box (k := T) (o := .cells #[.slice a2 n1 c2] 35) (by simp))
       have H4 := Lib.hid h4
       have Hev := Lib.hid hev
       clear h4 hev hS q1 q2 q3 q4)
    | (go_at_call 18
       refine Hev.out.mono ?_
       rintro e w5 ⟨rfl, hf5⟩
       have H5 := Lib.hid ((H4.out.made (by exact sepR_stable (rowR_stable _ _ _ _ _) hR) hf5).drop)
       have y5 := cells1 (H5.out.box (k := T) (o := .cells #[.slice a2 n1 c2] 35) (by simp))
       clear hf5 H4 Hev y4)))
  go_wp2_with fail
  refine (batches_goes hR H5.out (Hl.out.frm (Frm.of_below H5.out.below (Nat.le_refl _))) (by omega) Hnil.out).mono ?_
  rintro e w6 ⟨a6, c6, S6, g, rfl, q1, q2, q3, q4, h6⟩
  have hS := asc_unique R1.out q1 (R2.out.symm.trans q2)
  subst hS
  have hfn := func_bat g
  have H6 := Lib.hid h6
  clear h6 q1 q2 q3 q4
  go_wp2_with fail
  have hR6 : Stable (sepR (rowR 25 7 (.slice a6 n1 c6) n1 (evCells S)) (sepR (rowR 25 7 (.slice a2 n1 c2) n1 (evCells S)) noneR)) := sepR_stable (rowR_stable _ _ _ _ _) hR
  obtain ⟨G, hG⟩ : ∃ G, w6.heap.size = G := ⟨_, rfl⟩
  have h7 := (H6.out.alloc hR6 (.cells #[.int .i64 0] 3)).alloc hR6 (.cells #[.int .i64 0] 3)
  have hsz : ((w6.alloc (.cells #[.int .i64 0] 3)).alloc (.cells #[.int .i64 0] 3)).heap.size = G + 2 := by simp [hG]
  have hgG : g < G := by rw [← hG]; exact lt_of_obj (H6.out.box (k := g) (o := .cells #[.slice a6 n1 c6] 35) (by simp))
  have hTG : T < G := by rw [← hG]; exact lt_of_obj (H6.out.box (k := T) (o := .cells #[.slice a2 n1 c2] 35) (by simp))
  have hwG : w.heap.size < G := by rw [← hG]; exact lt_of_obj (H6.out.box (k := w.heap.size) (o := .cells #[.bool false] 4) (by simp))
  have hab : ∀ ad, a6 = some ad → ad.block < G := by
    rintro ad rfl
    rw [← hG]
    rcases row_nil_or H6.out.row with ⟨h0, _⟩ | ⟨g', c', hv, hlt, _⟩
    · simp at h0
    · simp only [Value.slice.injEq, Option.some.injEq] at hv
      obtain ⟨rfl, _⟩ := hv
      exact hlt
  have hab2 : ∀ ad, a2 = some ad → ad.block < G := by
    rintro ad rfl
    rw [← hG]
    rcases row_nil_or H6.out.row2 with ⟨h0, _⟩ | ⟨g', c', hv, hlt, _⟩
    · simp at h0
    · simp only [Value.slice.injEq, Option.some.injEq] at hv
      obtain ⟨rfl, _⟩ := hv
      exact hlt
  rw [World.size_alloc, hG] at h7
  simp only [hG]
  clear hfn H6 hG H5 H3 Hd hT0 hTw
  generalize (w6.alloc (.cells #[.int .i64 0] 3)).alloc (.cells #[.int .i64 0] 3) = W0 at h7 hsz ⊢
  have hbc := cells1 (h7.box (k := g) (o := .cells #[.slice a6 n1 c6] 35) (by simp))
  have hbw := cells1 (h7.box (k := T) (o := .cells #[.slice a2 n1 c2] 35) (by simp))
  have hbr := h7.box (k := w.heap.size) (o := .cells #[.bool false] 4) (by simp)
  have hbn := h7.box (k := G) (o := .cells #[.int .i64 0] 3) (by simp)
  have hbl := h7.box (k := G + 1) (o := .cells #[.int .i64 0] 3) (by simp)
  have hsl := EvsAt.of_row h7.row R3.out
  have hsw := EvsAt.of_row h7.row2 R3.out
  have hbe := h7.below
  have Hbw := Lib.hid hbw
  have Hbr := Lib.hid hbr
  have Hsw := Lib.hid hsw
  have Hbe := Lib.hid hbe
  have Hab2 := Lib.hid hab2
  clear h7 hbw hbr hsw hbe hab2
  refine (wpIn_wide (n := 3)).1 ?_
  refine wpIn_rangeFunc_each (F := Fence.wide) rfl (by omega) (gf := 30) (lb := #[.pointer (some ⟨g, 0, none⟩)]) rfl trivial (enters_of Try.func30 (by kernel_rfl) rfl)
    (batOne_each g G a6 c6 n1 S W0 2 R3.out (by omega) R1.out hgG (by omega) hbc hsl hab (by omega)) (fun h k => belowK_t h k) (belowK_b (by omega)) (fun _ => rfl)
    (KsI S G W0) (ksI_own S G W0 _ (by omega) (by omega)) (fun pre x => btEl_own S _ _ pre x) ⟨Below.refl _ _, hbn, 0, hbl, fun h => absurd h (by simp [posn])⟩ ?act1 ?assign ?body ?done
  case assign =>
    intro l x W K hK
    gi_wp2
    exact hK
  case body =>
    rintro l' pre ⟨at_, gx, m, cx, bl⟩ W hl' ⟨hb, hn, q, hq, hlast⟩ ⟨e1, e2, e3, e4, e5, e6, e7⟩
    dsimp only at e1 e2 e3 e5 e6 e7
    obtain ⟨p, hp⟩ : ∃ p, posn pre = p := ⟨_, rfl⟩
    rw [hp] at e1 e4 e5 hn hlast
    have hpn : p + m ≤ n1 := by have := e5.1; rw [R3.out] at this; exact this
    obtain ⟨k, hk⟩ : ∃ k, p + m = k := ⟨_, rfl⟩
    have hwant := Hsw.out.below hb Hab2.out
    obtain ⟨gw, ow, _, haw, hgw, hx0, _⟩ := hwant.at_ (k := p) (by omega)
    subst haw
    have hw2 : SlAt Ev.cells 7 W (some ⟨gw, ow + p * 7, none⟩) (n1 - p) (c2 - p) (S.drop p) := SlAt.drop (enc := Ev.cells) (k := 7) hwant (by omega)
    have hw3 := SlAt.take (enc := Ev.cells) (k := 7) hw2 (show m ≤ n1 - p by omega)
    rw [← e1] at hw3
    have hev := events_any W (some ⟨gx, 0, none⟩) m cx bl (some ⟨gw, ow + p * 7, none⟩) m (c2 - p) bl e7 hw3 (by omega)
    rw [show decide (bl = bl) = true by simp] at hev
    have gc2 := hwant.2.1
    have gcx := e7.2.1
    have s5 := cells1 hn
    have s6 := cells1 hq
    have f5 : W.frozen? ⟨G, 0, none⟩ = false := frozen_of_obj hn 0
    have f6 : W.frozen? ⟨G + 1, 0, none⟩ = false := frozen_of_obj hq 0
    have z5 := lt_of_obj hn
    have z6 := lt_of_obj hq
    have t3 := (hb.cell (p := ⟨T, 0, none⟩) hTG).trans Hbw.out
    have z3 : T < W.heap.size := by omega
    have gl : ((m : Int) == 0) = false := by rw [beq_eq_false_iff_ne]; omega
    have gl' : (m == 0) = false := by rw [beq_eq_false_iff_ne]; omega
    have gsum : IntKind.i64.wrap ((p : Int) + (m : Int)) = (k : Int) := by rw [IntWalk.i64_in _ (by omega)]; omega
    have gk : decide ((k : Int) > (n1 : Int)) = false := by rw [decide_eq_false_iff_not]; omega
    have gk1 : (0 : Int) ≤ (p : Int) := by omega
    have gk2 : (p : Int) ≤ (k : Int) := by omega
    have gk3 : (k : Int) ≤ (c2 : Int) := by omega
    have hkm : k - p = m := by omega
    have hpc : p < c2 := by omega
    have ge : (at_ != at_) = false := by simp
    have f18 : (Fence.wide.inRound l').fn 18 := trivial
    have Hev := Lib.hid hev
    have Hb := Lib.hid hb
    have Hn := Lib.hid hn
    have Hq := Lib.hid hq
    have Hp := Lib.hid hp
    have Hk := Lib.hid hk
    have HE3 := Lib.hid e3
    have HE1 := Lib.hid e1
    have HE4 := Lib.hid e4
    have HE7 := Lib.hid e7
    clear hev hb hn hq hp hk hw2 hw3 hwant hx0 e1 e3 e4 e5 e7 hgw hbn hbl hbc hsl hab
    have hcut : 0 < p → decide (at_ ≤ q) = false := fun h0 => by
      obtain ⟨i, e, hi, he, rfl⟩ := hlast h0
      rw [decide_eq_false_iff_not]
      have h1 : bl[0]? = S[p]? := by rw [HE1.out, List.getElem?_take, if_pos (by omega), List.getElem?_drop]; rfl
      obtain ⟨f, hf⟩ : ∃ f, S[p]? = some f := ⟨_, List.getElem?_eq_getElem (by have := R3.out; omega)⟩
      have h2 := HE4.out.2 i p e f hi (Nat.le_refl _) he hf
      have h3 := HE3.out f (List.mem_of_getElem? (h1.trans hf))
      omega
    have Hcut := Lib.hid hcut
    clear hcut hlast
    have hgp : (decide ((p : Int) > 0) = false ∧ decide (0 < p) = false) ∨ (decide ((p : Int) > 0) = true ∧ decide (0 < p) = true ∧ decide (at_ ≤ q) = false) := by
      by_cases hp0 : 0 < p
      · exact .inr ⟨by rw [decide_eq_true_eq]; omega, by rw [decide_eq_true_eq]; omega, Hcut.out hp0⟩
      · exact .inl ⟨by rw [decide_eq_false_iff_not]; omega, by rw [decide_eq_false_iff_not]; omega⟩
    have gk' : decide (n1 < k) = false := by rw [decide_eq_false_iff_not]; omega
    clear Hcut
    rcases hgp with ⟨gp, gp'⟩ | ⟨gp, gp', gq⟩
    all_goals
      gi_wp2_with fail
      refine ⟨trivial, ?_⟩
      refine CallsIn.inRound l' (callsIn_wide.2 (Hev.out.mono ?_))
      rintro e w8 ⟨rfl, hf8⟩
      have hn8 := hf8.obj Hn.out (by simp)
      have hq8 := hf8.obj Hq.out (by simp)
      have Hn8 := Lib.hid hn8
      have Hq8 := Lib.hid hq8
      have s5 := cells1 hn8
      have f5 : w8.frozen? ⟨G, 0, none⟩ = false := frozen_of_obj hn8 0
      have f6 : w8.frozen? ⟨G + 1, 0, none⟩ = false := frozen_of_obj hq8 0
      have s6 := cells1 hq8
      have z5 := lt_of_obj hn8
      have z6 := lt_of_obj hq8
      have hk8 : KeepsFrom W0.heap.size W w8 := ⟨hf8.size, fun k o _ hk _ => hf8.obj hk (by simp)⟩
      have Hk8 := Lib.hid hk8
      have Hb8 := Lib.hid (hf8.below (B := G) (by omega) (by simp))
      have HE8 := Lib.hid (HE7.out.frm hf8)
      clear hn8 hq8 hk8 hf8 t3 z3
      gi_wp2_with fail
      gi_loopw [9] (fun iv wr => ∃ i : Nat, i ≤ m ∧ iv = .int .i64 (i : Int) ∧ w8 = wr) (fun iv _ => m - (intOf iv).toNat)
      case atStart => exact ⟨0, Nat.zero_le _, rfl, rfl⟩
      case round =>
        obtain ⟨i, hi, rfl, rfl⟩ := hrel
        by_cases hlt : i < m
        · obtain ⟨_, _, y, he1, _, hy, p0, _⟩ := HE8.out.at_ hlt
          simp only [Option.some.injEq, Addr.mk.injEq, and_true] at he1
          obtain ⟨rfl, rfl⟩ := he1
          have hya := HE3.out y (List.mem_of_getElem? hy)
          rw [hya] at p0
          simp only [Nat.zero_add] at p0
          have i0 : (0 : Int) ≤ (i : Int) := by omega
          have i1 : (i : Int) < (m : Int) := by omega
          clear hy hya
          gi_wp2_with fail
          go_roundw
          case rel => exact ⟨i + 1, by omega, by go_num, by first | rfl | trivial⟩
          case measure => simp [intOf]; omega
        · obtain rfl : i = m := by omega
          gi_wp2_with fail
          have hw := ((Hb8.out.setCell (p := ⟨G, 0, none⟩) (Nat.le_refl _) (.int .i64 (k : Int))).setCell (p := ⟨G + 1, 0, none⟩) (Nat.le_succ _) (.int .i64 at_))
          have hpx : posn (pre ++ [⟨at_, gx, i, cx, bl⟩]) = k := by rw [posn_more, Hp.out]; exact Hk.out
          refine ⟨(Hk8.out.trans ((KeepsOthers.setCell _ _ _).from _)).trans ((KeepsOthers.setCell _ _ _).from _), hw, Hb.out.trans hw, ?_, at_, ?_, ?_⟩
          · rw [hpx]
            exact obj_setCell_ne (obj_setCell Hn8.out 0 (.int .i64 (k : Int))) (a := ⟨G + 1, 0, none⟩) (by dsimp only; omega) _
          · exact obj_setCell (obj_setCell_ne Hq8.out (a := ⟨G, 0, none⟩) (by dsimp only; omega) _) 0 (.int .i64 at_)
          · intro _
            rw [hpx]
            obtain ⟨f, hf⟩ : ∃ f, S[p]? = some f := ⟨_, List.getElem?_eq_getElem (by have := R3.out; have := Hk.out; omega)⟩
            have h1 : bl[0]? = S[p]? := by rw [HE1.out, List.getElem?_take, if_pos (by omega), List.getElem?_drop]; rfl
            exact ⟨p, f, by have := Hk.out; omega, hf, (HE3.out f (List.mem_of_getElem? (h1.trans hf))).symm⟩
  case done =>
    rintro D xs W hD hxs ⟨hb, hn, q, hq, _⟩ hKD
    rw [hxs] at hn
    have s5 := cells1 hn
    have t3 := (hb.cell (p := ⟨T, 0, none⟩) hTG).trans Hbw.out
    have ub : W.heap[w.heap.size]? = some (.cells #[.bool false] 4) := (hb.block _ hwG).trans Hbr.out
    have z5 := lt_of_obj hn
    have z3 : T < W.heap.size := by omega
    have ge : ((n1 : Int) == (n1 : Int)) = true := by simp
    have Hb := Lib.hid hb
    have Hub := Lib.hid ub
    have HKD := Lib.hid hKD
    clear hb hn hq ub hKD hbn hbl hbc hsl hab hxs
    go_wp2_with fail
    refine (awake_any _).mono ?_
    rintro e w9 ⟨rfl, hf9⟩
    have ub9 := hf9.obj Hub.out (by simp)
    have u1 := cells1 ub9
    have u0 : w9.frozen? ⟨w.heap.size, 0, none⟩ = false := frozen_of_obj ub9 0
    have zu := lt_of_obj ub9
    have Hub9 := Lib.hid ub9
    have HD9 := Lib.hid (hf9.obj HKD.out (by simp))
    have H9 := Lib.hid ((Hbe.out.trans (Hb.out.mono (by omega))).trans (hf9.below (B := w.heap.size) (by omega) (by simp)))
    clear ub9 hf9 s5 t3 z5 z3
    go_wp2_with fail
    have g1 : (w9.setCell ⟨w.heap.size, 0, none⟩ (.bool true)).heap[D]? = some (.deferred (some [])) := obj_setCell_ne HD9.out (a := ⟨w.heap.size, 0, none⟩) (by dsimp only; omega) _
    have g2 : (w9.setCell ⟨w.heap.size, 0, none⟩ (.bool true)).heap[w.heap.size]? = some (.cells #[.bool true] 4) := obj_setCell Hub9.out 0 _
    have g3 := cells1 ((World.putObj_heap_other (o := .deferred none) (show w.heap.size ≠ D by omega)).trans g2)
    refine ⟨by simp, .inl ⟨_, _, rfl, run_takeDeferred g1, ?_⟩⟩
    refine ⟨.bool true, by simp [results, Try.results4, go_sem, g3], rfl, ?_⟩
    exact (H9.out.setCell (p := ⟨w.heap.size, 0, none⟩) (Nat.le_refl _) _).trans (belowK_b (w := w) (Nat.le_refl _) _ D _ _ (by omega) g1 rfl rfl)
end Go.Proofs.Ytagldjlaagphlaa
