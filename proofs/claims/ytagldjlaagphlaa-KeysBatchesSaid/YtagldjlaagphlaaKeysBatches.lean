/- KeysBatches, walked. -/
import Derived.Test.YtagldjlaagphlaaKeysLawA
import Derived.Test.YtagldjlaagphlaaAppIn
namespace Go.Proofs.Ytagldjlaagphlaa
open Go.RowKit Go.Maps Go.Shelf
attribute [local go_sem] Oper.semAt_some

theorem part_filter {S bl : List Ev} {p m : Nat} {t : Int} (h0 : bl = (S.drop p).take m) (h1 : 1 ≤ m) (h2 : ∀ e ∈ bl, e.k.at_ = t) (h3 : Part S p) (h4 : Part S (p + m)) : S.filter (fun e => decide (e.k.at_ = t)) = bl := by
  have hlen := h4.1
  obtain ⟨f, hf⟩ : ∃ f, S[p]? = some f := ⟨_, List.getElem?_eq_getElem (by omega)⟩
  have hf1 : bl[0]? = some f := by rw [h0, List.getElem?_take, if_pos (by omega), List.getElem?_drop]; exact hf
  have hft := h2 f (List.mem_of_getElem? hf1)
  have e1 : S = S.take p ++ (bl ++ S.drop (p + m)) := by
    rw [h0, show S.drop (p + m) = (S.drop p).drop m by simp [List.drop_drop, Nat.add_comm], List.take_append_drop, List.take_append_drop]
  rw [e1, List.filter_append, List.filter_append]
  have f1 : (S.take p).filter (fun e => decide (e.k.at_ = t)) = [] := by
    rw [List.filter_eq_nil_iff]
    intro a ha hd
    obtain ⟨i, hi, rfl⟩ := List.mem_iff_getElem.1 ha
    rw [List.length_take] at hi
    rw [List.getElem_take, decide_eq_true_eq] at hd
    have := h3.2 i p _ f (by omega) (Nat.le_refl _) (List.getElem?_eq_getElem (by omega)) hf
    omega
  have f2 : (S.drop (p + m)).filter (fun e => decide (e.k.at_ = t)) = [] := by
    rw [List.filter_eq_nil_iff]
    intro a ha hd
    obtain ⟨i, hi, rfl⟩ := List.mem_iff_getElem.1 ha
    rw [List.length_drop] at hi
    rw [List.getElem_drop, decide_eq_true_eq] at hd
    have := h4.2 p (p + m + i) f _ (by omega) (by omega) hf (List.getElem?_eq_getElem (by omega))
    omega
  have f3 : bl.filter (fun e => decide (e.k.at_ = t)) = bl := List.filter_eq_self.2 fun a ha => by rw [decide_eq_true_eq]; exact h2 a ha
  rw [f1, f2, f3, List.nil_append, List.append_nil]
theorem Alike.filter {l r : List Ev} (h : Alike l r) (f : Ev → Bool) : Alike (l.filter f) (r.filter f) := fun k => by
  have hc : ∀ (l : List Ev), (l.filter f).filter (fun e => decide (e.k = k)) = (l.filter (fun e => decide (e.k = k))).filter f := fun l => by
    rw [List.filter_filter, List.filter_filter]
    exact List.filter_congr fun x _ => Bool.and_comm _ _
  rw [hc l, hc r, h k]

/-- The events of one time among the first i. -/
abbrev atT (t : Int) (l : List Ev) : List Ev := l.filter (fun e => decide (e.k.at_ = t))
theorem atT_yes {t : Int} {l : List Ev} {i : Nat} {x : Ev} (hx : l[i]? = some x) (h : x.k.at_ = t) : atT t (l.take (i + 1)) = atT t (l.take i) ++ [x] := by
  rw [List.take_add_one, hx]
  simp [atT, List.filter_append, h]
theorem atT_no {t : Int} {l : List Ev} {i : Nat} {x : Ev} (hx : l[i]? = some x) (h : x.k.at_ ≠ t) : atT t (l.take (i + 1)) = atT t (l.take i) := by
  rw [List.take_add_one, hx]
  simp [atT, List.filter_append, h]
theorem atT_len (t : Int) (l : List Ev) (i : Nat) : (atT t (l.take i)).length ≤ i := Nat.le_trans (List.length_filter_le _ _) (by rw [List.length_take]; omega)

def KbI (G : Nat) (W0 : World) (pre : List Bt) (W : World) : Prop := Below G W0 W ∧ W.heap[G]? = some (.cells #[.int .i64 ((posn pre : Nat) : Int)] 3)
theorem kbI_own (G : Nat) (W0 : World) (B : Nat) (h1 : G ≤ W0.heap.size) (h2 : G ≤ B) : OwnFrom B (KbI G W0) := fun pre X Y row hs hg hr =>
  ⟨ownFrom_below (β := Unit) h1 h2 () X Y row hs.1 hg hr, ownFrom_obj (β := Unit) B G 3 (fun _ => #[.int .i64 ((posn pre : Nat) : Int)]) () X Y row hs.2 hg hr⟩
/-- Behind i of all events. -/
def KbW (W : World) (N : Nat) (t : Int) (all : List Ev) (wv iv : Value) (wr : World) : Prop :=
  ∃ (i q : Nat) (a : Option Addr) (c : Nat), i ≤ N ∧ q ≤ i ∧ iv = .int .i64 (i : Int) ∧ wv = .slice a q c ∧ (atT t (all.take i)).length = q ∧ Holds W.heap.size W (sepR (rowR 25 7 (.slice a q c) q (evCells (atT t (all.take i)))) noneR) wr []

set_option maxHeartbeats 1000000 in
set_option maxRecDepth 100000 in
theorem kbat_out (w : World) (a1 : Option Addr) (n1 c1 : Nat) (a2 : Option Addr) (n2 c2 : Nat) (h : 30 < n1 ∨ 30 < n2) : Calls Try.prog 10 #[.slice a1 n1 c1, .slice a2 n2 c2] w (LawTrue w) := by
  have hg : 30 < n1 ∨ (¬ 30 < n1 ∧ 30 < n2) := by omega
  have H0 := Lib.hid ((Holds.start w).alloc noneR_stable (.cells #[.bool false] 4))
  clear h
  rcases hg with g1 | ⟨g1, g2⟩
  all_goals
    go_enter Try.func10, Try.ntmps10
    go_wp2_with fail
    refine (awake_any _).mono ?_
    rintro e v3 ⟨rfl, hf⟩
    have h2 := H0.out.made noneR_stable hf
    have ob := h2.box (k := w.heap.size) (o := .cells #[.bool false] 4) (by simp)
    have u1 := cells1 ob
    have u0 : v3.frozen? ⟨w.heap.size, 0, none⟩ = false := frozen_of_obj ob 0
    have zu := lt_of_obj ob
    have H2 := Lib.hid h2
    have g9 := cells1 (obj_setCell ob 0 (.bool true))
    clear hf h2 ob
    go_wp2_with fail
    exact bodyPost_ret (v := .bool true) (by simp [results, Try.results10, go_sem, g9]) rfl ⟨rfl, H2.out.below.setCell (p := ⟨w.heap.size, 0, none⟩) (Nat.le_refl _) _⟩

set_option maxHeartbeats 4000000 in
set_option maxRecDepth 100000 in
theorem kbat_in (w : World) (a1 : Option Addr) (n1 c1 : Nat) (l1 : List Ev) (a2 : Option Addr) (n2 c2 : Nat) (l2 : List Ev) (hl1 : EvsAt w a1 n1 c1 l1) (hl2 : EvsAt w a2 n2 c2 l2) (hnil1 : a1 = none → n1 = 0 ∧ c1 = 0) (hnil2 : a2 = none → n2 = 0 ∧ c2 = 0)
    (h1 : n1 ≤ 30) (h2 : n2 ≤ 30) : Calls Try.prog 10 #[.slice a1 n1 c1, .slice a2 n2 c2] w (LawTrue w) := by
  have Hl1 := Lib.hid hl1
  have Hl2 := Lib.hid hl2
  have Hnil1 := Lib.hid hnil1
  have Hnil2 := Lib.hid hnil2
  obtain ⟨i1, hj0, hj1, hj2, hj3⟩ := info_parts infoEvent
  have J0 := Lib.hid hj0
  have J1 := Lib.hid hj1
  have J2 := Lib.hid hj2
  have J3 := Lib.hid hj3
  clear hl1 hl2 hnil1 hnil2 hj0 hj1 hj2 hj3
  refine (callsIn_wide (n := 3)).1 ?_
  refine callsIn_of_wp_marks Try.func10 rfl trivial ?_ rfl
  simp only [Try.ntmps10, List.size_toArray, List.length_cons, List.length_nil, Nat.reduceAdd, Nat.reduceSub, Array.replicate_succ, Array.replicate_zero, List.push_toArray, List.append_toArray, List.nil_append, List.cons_append]
  refine wpIn_wide.2 ?_
  have h0 := ((Holds.start w).alloc noneR_stable (.cells #[.bool false] 4)).alloc noneR_stable (.cells #[.slice none 0 0] 35)
  simp only [World.size_alloc] at h0
  have H0 := Lib.hid (h0.nilRow 25 7)
  clear h0
  go_wp2_with (at_builtin; refine Stop.of ?_)
  refine Stop.go ?_
  have hA := H0.out
  refine wpList_append_sl (enc := Ev.cells) _ rfl _ _ 35 rfl 25 i1 (.agg #[.int .i64 0, .int .i64 0, .int .i64 0, .int .i64 0, .int .i64 0, .int .i64 0, .int .i64 0]) 7 56 Try.underlying35 J0.out J1.out J2.out J3.out rfl (by decide) (.slice none 0 0) 0 [] rfl hA.row a1 n1 c1 l1 rfl (Hl1.out.frm (Frm.of_below hA.below (Nat.le_refl _))) Hnil1.out ev_len ev_one (by unfold maxLen; omega) (by omega) ?_
  intro a3 c3 w3 hown hF hnew
  have hB := hA.appended noneR_stable hown hF hnew
  simp only [Nat.zero_add, List.nil_append, flat_ev] at hB ⊢
  obtain ⟨T, hT⟩ : ∃ T, w.heap.size + 1 = T := ⟨_, rfl⟩
  rw [hT] at hB
  simp only [hT]
  have hob := hB.box (k := T) (o := .cells #[.slice none 0 0] 35) (by simp)
  have y5 := cells1 hob
  have v5 : w3.frozen? ⟨T, 0, none⟩ = false := frozen_of_obj hob 0
  have z5 := lt_of_obj hob
  have hC : Holds w.heap.size w (sepR (rowR 25 7 (.slice a3 n1 c3) n1 (evCells l1)) noneR) (w3.setCell ⟨T, 0, none⟩ (.slice a3 n1 c3)) [(T, .cells #[.slice a3 n1 c3] 35), (w.heap.size, .cells #[.bool false] 4)] :=
    Holds.put (L := []) (sepR_stable (rowR_stable _ _ _ _ _) noneR_stable) hB (by omega) (by simp) (by intro p hp; simp only [List.mem_cons, List.not_mem_nil, or_false] at hp; subst hp; dsimp only; omega) 0 (.slice a3 n1 c3)
  have HC := Lib.hid hC
  have HT := Lib.hid hT
  clear hA hown hF hnew hB hob hC H0
  go_wp2_with (at_builtin; refine Stop.of ?_)
  refine Stop.go ?_
  have hA := HC.out
  refine wpList_append_sl (enc := Ev.cells) _ rfl _ _ 35 rfl 25 i1 (.agg #[.int .i64 0, .int .i64 0, .int .i64 0, .int .i64 0, .int .i64 0, .int .i64 0, .int .i64 0]) 7 56 Try.underlying35 J0.out J1.out J2.out J3.out rfl (by decide) (.slice a3 n1 c3) n1 (evCells l1) rfl hA.row a2 n2 c2 l2 rfl (Hl2.out.frm (Frm.of_below hA.below (Nat.le_refl _))) Hnil2.out ev_len ev_one (by unfold maxLen; omega) (by omega) ?_
  intro a4 c4 w4 hown hF hnew
  have hB := hA.appended noneR_stable hown hF hnew
  obtain ⟨N, hN⟩ : ∃ N, n1 + n2 = N := ⟨_, rfl⟩
  obtain ⟨al, hal⟩ : ∃ al, l1 ++ l2 = al := ⟨_, rfl⟩
  rw [flat_ev, ← evCells_append, hal, hN] at hB
  rw [hN]
  have haln : al.length = N := by rw [← hal, ← hN, List.length_append, Hl1.out.1, Hl2.out.1]
  have hob := hB.box (k := T) (o := .cells #[.slice a3 n1 c3] 35) (by simp)
  have y5 := cells1 hob
  have v5 : w4.frozen? ⟨T, 0, none⟩ = false := frozen_of_obj hob 0
  have z5 := lt_of_obj hob
  have hT := HT.out
  have hC : Holds w.heap.size w (sepR (rowR 25 7 (.slice a4 N c4) N (evCells al)) noneR) (w4.setCell ⟨T, 0, none⟩ (.slice a4 N c4)) [(T, .cells #[.slice a4 N c4] 35), (w.heap.size, .cells #[.bool false] 4)] :=
    Holds.put (L := []) (sepR_stable (rowR_stable _ _ _ _ _) noneR_stable) hB (by omega) (by simp) (by intro p hp; simp only [List.mem_cons, List.not_mem_nil, or_false] at hp; subst hp; dsimp only; omega) 0 (.slice a4 N c4)
  have hN60 : N ≤ 60 := by omega
  have HC2 := Lib.hid hC
  have Haln := Lib.hid haln
  have hR : Stable (sepR (rowR 25 7 (.slice a4 N c4) N (evCells al)) noneR) := sepR_stable (rowR_stable _ _ _ _ _) noneR_stable
  clear hA hown hF hnew hB hob hC HC hT hN hal haln
  go_wp2_with fail
  refine (batches_goes hR HC2.out (EvsAt.of_row HC2.out.row Haln.out) (by omega) (row_nil_cap HC2.out.row)).mono ?_
  rintro e w6 ⟨a6, c6, S, g, rfl, q1, q2, q3, q4, h6⟩
  have hfn := func_bat g
  have H6 := Lib.hid h6
  have R1 := Lib.hid q1
  have R2 := Lib.hid q2
  have R3 := Lib.hid q3
  clear h6 q1 q2 q3 q4 y5 v5 z5 HC2
  go_wp2_with fail
  have hR6 : Stable (sepR (rowR 25 7 (.slice a6 N c6) N (evCells S)) (sepR (rowR 25 7 (.slice a4 N c4) N (evCells al)) noneR)) := sepR_stable (rowR_stable _ _ _ _ _) hR
  obtain ⟨G, hG⟩ : ∃ G, w6.heap.size = G := ⟨_, rfl⟩
  have h7 := H6.out.alloc hR6 (.cells #[.int .i64 0] 3)
  have hsz : (w6.alloc (.cells #[.int .i64 0] 3)).heap.size = G + 1 := by simp [hG]
  have hgG : g < G := by rw [← hG]; exact lt_of_obj (H6.out.box (k := g) (o := .cells #[.slice a6 N c6] 35) (by simp))
  have hTG : T < G := by rw [← hG]; exact lt_of_obj (H6.out.box (k := T) (o := .cells #[.slice a4 N c4] 35) (by simp))
  have hwG : w.heap.size < G := by rw [← hG]; exact lt_of_obj (H6.out.box (k := w.heap.size) (o := .cells #[.bool false] 4) (by simp))
  have hab : ∀ ad, a6 = some ad → ad.block < G := by
    rintro ad rfl
    rw [← hG]
    rcases row_nil_or H6.out.row with ⟨h0, _⟩ | ⟨g', c', hv, hlt, _⟩
    · simp at h0
    · simp only [Value.slice.injEq, Option.some.injEq] at hv
      obtain ⟨rfl, _⟩ := hv
      exact hlt
  have hab2 : ∀ ad, a4 = some ad → ad.block < G := by
    rintro ad rfl
    rw [← hG]
    rcases row_nil_or H6.out.row2 with ⟨h0, _⟩ | ⟨g', c', hv, hlt, _⟩
    · simp at h0
    · simp only [Value.slice.injEq, Option.some.injEq] at hv
      obtain ⟨rfl, _⟩ := hv
      exact hlt
  rw [hG] at h7
  simp only [hG]
  clear hfn H6 hG
  generalize w6.alloc (.cells #[.int .i64 0] 3) = W0 at h7 hsz ⊢
  have hbc := cells1 (h7.box (k := g) (o := .cells #[.slice a6 N c6] 35) (by simp))
  have hbw := cells1 (h7.box (k := T) (o := .cells #[.slice a4 N c4] 35) (by simp))
  have hbr := h7.box (k := w.heap.size) (o := .cells #[.bool false] 4) (by simp)
  have hbn := h7.box (k := G) (o := .cells #[.int .i64 0] 3) (by simp)
  have hsl := EvsAt.of_row h7.row R3.out
  have hsw := EvsAt.of_row h7.row2 Haln.out
  have hbe := h7.below
  have Hbw := Lib.hid hbw
  have Hbr := Lib.hid hbr
  have Hsw := Lib.hid hsw
  have Hbe := Lib.hid hbe
  have Hab2 := Lib.hid hab2
  clear h7 hbw hbr hsw hbe hab2
  refine (wpIn_wide (n := 3)).1 ?_
  refine wpIn_rangeFunc_each (F := Fence.wide) rfl (by omega) (gf := 30) (lb := #[.pointer (some ⟨g, 0, none⟩)]) rfl trivial (enters_of Try.func30 (by kernel_rfl) rfl)
    (batOne_each g G a6 c6 N S W0 2 R3.out (by omega) R1.out hgG (by omega) hbc hsl hab (by omega)) (fun h k => belowK_t h k) (belowK_b (by omega)) (fun _ => rfl)
    (KbI G W0) (kbI_own G W0 _ (by omega) (by omega)) (fun pre x => btEl_own S _ _ pre x) ⟨Below.refl _ _, hbn⟩ ?act1 ?assign ?body ?done
  case assign =>
    intro l x W K hK
    gi_wp2
    exact hK
  case body =>
    rintro l' pre ⟨at_, gx, m, cx, bl⟩ W hl' ⟨hb, hn⟩ ⟨e1, e2, e3, e4, e5, e6, e7⟩
    dsimp only at e1 e2 e3 e5 e6 e7
    obtain ⟨p, hp⟩ : ∃ p, posn pre = p := ⟨_, rfl⟩
    rw [hp] at e1 e4 e5 hn
    have hpn : p + m ≤ N := by have := e5.1; rw [R3.out] at this; exact this
    obtain ⟨k, hk⟩ : ∃ k, p + m = k := ⟨_, rfl⟩
    have hall := Hsw.out.below hb Hab2.out
    have t3 := (hb.cell (p := ⟨T, 0, none⟩) hTG).trans Hbw.out
    have z3 : T < W.heap.size := by have := hb.size; omega
    have hfl := part_filter e1 e2 e3 e4 e5
    have gsum : IntKind.i64.wrap ((p : Int) + (m : Int)) = (k : Int) := by rw [IntWalk.i64_in _ (by omega)]; omega
    have gcx := e7.2.1
    have Hall := Lib.hid hall
    have Hb := Lib.hid hb
    have Hn := Lib.hid hn
    have Hp := Lib.hid hp
    have Hk := Lib.hid hk
    have HE7 := Lib.hid e7
    have Hfl := Lib.hid hfl
    have Ht3 := Lib.hid t3
    have hloop : KbW W N at_ al (.slice none 0 0) (.int .i64 0) W := ⟨0, 0, none, 0, Nat.zero_le _, Nat.le_refl _, rfl, rfl, by simp, (Holds.start W).nilRow 25 7⟩
    have Hloop := Lib.hid hloop
    clear hall hb hn hp hk e1 e3 e4 e5 e7 hfl hloop hbn hbc hsl hab t3
    gi_wp2_with fail
    gi_loopw [10, 11] (fun wv iv wr => KbW W N at_ al wv iv wr) (fun _ iv _ => N - (intOf iv).toNat)
    case atStart => exact Hloop.out
    case round =>
      obtain ⟨i, q, a7, c7, hi, hqi, rfl, rfl, hlq, hH⟩ := hrel
      have HH := Lib.hid hH
      have Hlq := Lib.hid hlq
      have hft : Frm [] W wr := Frm.of_below hH.below (Nat.le_refl _)
      have t4 := hft.cell Ht3.out (by simp)
      have z4 : T < wr.heap.size := by have := hft.size; omega
      have Hft := Lib.hid hft
      clear hH hlq hft Hloop
      by_cases hlt : i < N
      · obtain ⟨b1, o1, x, ha4, hb1, hx, p0, p1, p2, p3, p4, p5, p6⟩ := (Hall.out.frm Hft.out).at_ hlt
        subst ha4
        have gca := Hall.out.2.1
        have Hx := Lib.hid hx
        have i0 : (0 : Int) ≤ (i : Int) := by omega
        have i1' : (i : Int) < (N : Int) := by omega
        clear hx
        by_cases hat : x.k.at_ = at_
        · have ge : (x.k.at_ == at_) = true := by rw [beq_iff_eq]; exact hat
          have Hat := Lib.hid hat
          clear hat
          gi_wp2_with (gi_at_builtin; refine Stop.of ?_)
          refine Stop.go ?_
          have hA1 := HH.out.made (sepR_stable (rowR_stable _ _ _ _ _) noneR_stable) ((Frm.refl _ _).alloc (.cells #[.int .i64 x.k.at_, .int .i64 x.k.src, .int .i64 x.k.sent, .int .i64 x.k.no, .int .i64 x.dst, .int .i64 x.kind, .int .i64 x.data] 25))
          refine wpListIn_append_foot _ rfl _ _ 35 rfl 25 i1 (.agg #[.int .i64 0, .int .i64 0, .int .i64 0, .int .i64 0, .int .i64 0, .int .i64 0, .int .i64 0]) 7 56 Try.underlying35 J0.out J1.out J2.out J3.out rfl (by decide) (.slice a7 q c7) q (evCells (atT at_ (al.take i))) rfl hA1.row ⟨wr.heap.size, 0, none⟩ 1 1 x.cells rfl rfl (cells_at _ x.cells 25 _ rfl) (ev_one x) (by unfold maxLen; omega) (by omega) ?_
          intro a8 c8 w8 hown hF hnew
          have hA2 := hA1.appended noneR_stable hown hF hnew
          rw [show evCells (atT at_ (al.take i)) ++ x.cells = evCells (atT at_ (al.take (i + 1))) by rw [atT_yes Hx.out Hat.out, evCells_append]; rfl] at hA2
          have HA2 := Lib.hid hA2
          clear hA1 hown hF hnew hA2 p0 p1 p2 p3 p4 p5 p6
          gi_wp2_with fail
          go_roundw
          case rel => exact ⟨i + 1, q + 1, a8, c8, by omega, by omega, by go_num, rfl, by rw [atT_yes Hx.out Hat.out, List.length_append, Hlq.out]; rfl, HA2.out⟩
          case measure => simp [intOf]; omega
        · have ge : (x.k.at_ == at_) = false := by rw [beq_eq_false_iff_ne]; exact hat
          have Hat := Lib.hid hat
          clear hat
          gi_wp2_with fail
          go_roundw
          case rel => exact ⟨i + 1, q, a7, c7, by omega, by omega, by go_num, rfl, by rw [atT_no Hx.out Hat.out]; exact Hlq.out, by rw [atT_no Hx.out Hat.out]; exact HH.out⟩
          case measure => simp [intOf]; omega
      · obtain rfl : i = N := by omega
        have htk : al.take i = al := List.take_of_length_le (by rw [Haln.out]; exact Nat.le_refl _)
        have hh := HH.out
        have hlq := Hlq.out
        rw [htk] at hh hlq
        have HW2 := Lib.hid hh
        have Hlq2 := Lib.hid hlq
        have hRw : Stable (sepR (rowR 25 7 (.slice a7 q c7) q (evCells (atT at_ al))) noneR) := sepR_stable (rowR_stable _ _ _ _ _) noneR_stable
        clear hh hlq htk HH Hlq
        gi_wp2_with fail
        refine ⟨trivial, ?_⟩
        refine CallsIn.inRound l' (callsIn_wide.2 ((sort_goesN hRw HW2.out (EvsAt.of_row HW2.out.row Hlq2.out) (by omega) (row_nil_cap HW2.out.row)).mono ?_))
        rintro e w8 ⟨a8, c8, r, rfl, q1, q2, q3, q4, h8⟩
        have hr : r = bl := by
          refine asc_unique q1 ?_ ?_
          · rw [← Hfl.out]
            exact List.Pairwise.sublist List.filter_sublist R1.out
          · rw [← Hfl.out]
            exact q2.symm.trans (R2.out.filter _)
        subst hr
        have hf8 : Frm [] W w8 := Frm.of_below h8.below (Nat.le_refl _)
        have hev := events_any w8 (some ⟨gx, 0, none⟩) m cx r a8 q c8 r (HE7.out.frm hf8) (EvsAt.of_row h8.row q3) (by omega)
        rw [show decide (r = r) = true by simp] at hev
        have Hev := Lib.hid hev
        have Hf8 := Lib.hid hf8
        clear q1 q2 q3 q4 h8 hf8 hev HW2 Hlq2 t4 z4
        gi_wp2_with fail
        refine ⟨trivial, ?_⟩
        refine CallsIn.inRound l' (callsIn_wide.2 (Hev.out.mono ?_))
        rintro e w9 ⟨rfl, hf9⟩
        have hf := Hf8.out.trans hf9 (by simp)
        have hn9 := hf.obj Hn.out (by simp)
        have Hn9 := Lib.hid hn9
        have s5 := cells1 hn9
        have f5 : w9.frozen? ⟨G, 0, none⟩ = false := frozen_of_obj hn9 0
        have z5 := lt_of_obj hn9
        have hbs := Hb.out.size
        have hk9 : KeepsFrom W0.heap.size W w9 := ⟨hf.size, fun k o _ hk _ => hf.obj hk (by simp)⟩
        have Hk9 := Lib.hid hk9
        have Hb9 := Lib.hid (hf.below (B := G) (by omega) (by simp))
        clear hn9 hk9 hf hf9
        gi_wp2_with fail
        have hw := Hb9.out.setCell (p := ⟨G, 0, none⟩) (Nat.le_refl _) (.int .i64 (k : Int))
        refine ⟨Hk9.out.trans ((KeepsOthers.setCell _ _ _).from _), hw, Hb.out.trans hw, ?_⟩
        have hpx : posn (pre ++ [⟨at_, gx, m, cx, r⟩]) = k := by rw [posn_more, Hp.out]; exact Hk.out
        rw [hpx]
        exact obj_setCell Hn9.out 0 (.int .i64 (k : Int))
  case done =>
    rintro D xs W hD hxs ⟨hb, hn⟩ hKD
    rw [hxs] at hn
    have s5 := cells1 hn
    have t3 := (hb.cell (p := ⟨T, 0, none⟩) hTG).trans Hbw.out
    have ub : W.heap[w.heap.size]? = some (.cells #[.bool false] 4) := (hb.block _ hwG).trans Hbr.out
    have z5 := lt_of_obj hn
    have z3 : T < W.heap.size := by omega
    have ge : ((N : Int) == (N : Int)) = true := by simp
    have Hb := Lib.hid hb
    have Hub := Lib.hid ub
    have HKD := Lib.hid hKD
    clear hb hn ub hKD hbn hbc hsl hab hxs
    go_wp2_with fail
    refine (awake_any _).mono ?_
    rintro e w9 ⟨rfl, hf9⟩
    have ub9 := hf9.obj Hub.out (by simp)
    have u1 := cells1 ub9
    have u0 : w9.frozen? ⟨w.heap.size, 0, none⟩ = false := frozen_of_obj ub9 0
    have zu := lt_of_obj ub9
    have Hub9 := Lib.hid ub9
    have HD9 := Lib.hid (hf9.obj HKD.out (by simp))
    have H9 := Lib.hid ((Hbe.out.trans (Hb.out.mono (by omega))).trans (hf9.below (B := w.heap.size) (by omega) (by simp)))
    clear ub9 hf9 s5 t3 z5 z3
    go_wp2_with fail
    have g1 : (w9.setCell ⟨w.heap.size, 0, none⟩ (.bool true)).heap[D]? = some (.deferred (some [])) := obj_setCell_ne HD9.out (a := ⟨w.heap.size, 0, none⟩) (by dsimp only; omega) _
    have g2 : (w9.setCell ⟨w.heap.size, 0, none⟩ (.bool true)).heap[w.heap.size]? = some (.cells #[.bool true] 4) := obj_setCell Hub9.out 0 _
    have g3 := cells1 ((World.putObj_heap_other (o := .deferred none) (show w.heap.size ≠ D by omega)).trans g2)
    refine ⟨by simp, .inl ⟨_, _, rfl, run_takeDeferred g1, ?_⟩⟩
    refine ⟨.bool true, by simp [results, Try.results10, go_sem, g3], rfl, ?_⟩
    exact (H9.out.setCell (p := ⟨w.heap.size, 0, none⟩) (Nat.le_refl _) _).trans (belowK_b (w := w) (Nat.le_refl _) _ D _ _ (by omega) g1 rfl rfl)
end Go.Proofs.Ytagldjlaagphlaa
