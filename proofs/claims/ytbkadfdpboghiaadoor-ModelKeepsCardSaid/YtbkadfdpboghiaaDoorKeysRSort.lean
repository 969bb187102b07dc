/- The document's Sort: each is put where it belongs. (Made by wip/tools/gen_keys_rsort.py.) -/
import Derived.Test.YtbkadfdpboghiaaDoorSortV
import Derived.Test.YtbkadfdpboghiaaDoorApp
namespace Go.Proofs.YtbkadfdpboghiaaDoor
open Go.RowKit Go.Maps

theorem ev_len (x : Ev) : x.cells.length = 7 := rfl
theorem ev_one (x : Ev) : ∀ u ∈ x.cells, u.oneCell' = true := by simp [Ev.cells, Value.oneCell']
theorem flat_ev (l : List Ev) : flat Ev.cells l = evCells l := by
  induction l with
  | nil => rfl
  | cons x l ih => simp [flat, evCells, Ev.cells, ih]
theorem EvsAt.sl {w : World} {a : Option Addr} {n cap : Nat} {l : List Ev} (h : EvsAt w a n cap l) : SlAt Ev.cells 7 w a n cap l := h
theorem SlAt.ev {w : World} {a : Option Addr} {n cap : Nat} {l : List Ev} (h : SlAt Ev.cells 7 w a n cap l) : EvsAt w a n cap l := h

theorem rs_less {out : List Ev} {x y : Ev} {m : Nat} (h1 : ∀ z ∈ out.take m, x.k.lt z.k = false) (hy : out[m]? = some y) (h : x.k.lt y.k = false) : ∀ z ∈ out.take (m + 1), x.k.lt z.k = false := by
  intro z hz
  rw [List.take_add_one, hy] at hz
  rcases List.mem_append.1 hz with hz | hz
  · exact h1 z hz
  · simp at hz; subst hz; exact h
theorem rs_more {out : List Ev} {x y : Ev} {m : Nat} (hA : Asc out) (hy : out[m]? = some y) (h : x.k.lt y.k = true) : ∀ z ∈ out.drop m, x.k.lt z.k = true := by
  obtain ⟨hm, hy'⟩ := List.getElem?_eq_some_iff.1 hy
  have h1 : Asc (out.drop m) := List.Pairwise.sublist (List.drop_sublist _ _) hA
  have h2 : out.drop m = y :: out.drop (m + 1) := by rw [← hy']; exact List.drop_eq_getElem_cons hm
  rw [h2] at h1 ⊢
  intro z hz
  rcases List.mem_cons.1 hz with rfl | hz
  · exact h
  · exact lt_le_trans h ((asc_cons.1 h1).1 z hz)
theorem rs_step {l out : List Ev} {x : Ev} {k m : Nat} (hx : l[k]? = some x) (hA : Asc out) (hl : Alike (l.take k) out) (h1 : ∀ z ∈ out.take m, x.k.lt z.k = false) (h2 : ∀ z ∈ out.drop m, x.k.lt z.k = true) :
    Asc (out.take m ++ [x] ++ out.drop m) ∧ Alike (l.take (k + 1)) (out.take m ++ [x] ++ out.drop m) := by
  refine ⟨insert_done (by rw [List.take_append_drop]; exact hA) (fun y hy => h1 y (List.mem_of_getLast? hy)) h2, ?_⟩
  have e : l.take (k + 1) = l.take k ++ [x] := by rw [List.take_add_one, hx]; rfl
  rw [e]
  refine (hl.append (Alike.refl [x])).trans ?_
  have h3 : Alike (out.drop m ++ [x]) ([x] ++ out.drop m) := Alike.swap fun a ha b hb => by
    simp at hb
    subst hb
    exact lt_asc_ne (h2 a ha)
  have h4 := (Alike.refl (out.take m)).append h3
  rw [← List.append_assoc, ← List.append_assoc, List.take_append_drop] at h4
  exact h4
theorem rs_len {out : List Ev} {x : Ev} {k m : Nat} (h : out.length = k) (hm : m ≤ k) : (out.take m ++ [x] ++ out.drop m).length = k + 1 := by
  rw [List.length_append, List.length_append, List.length_take, List.length_drop, List.length_singleton]; omega

def RsO (B : Nat) (w0 : World) (n : Nat) (l : List Ev) (ov iv : Value) (wr : World) : Prop :=
  ∃ (k : Nat) (a : Option Addr) (c : Nat) (out : List Ev), k ≤ n ∧ iv = .int .i64 (k : Int) ∧ ov = .slice a k c ∧ out.length = k ∧ Asc out ∧ Alike (l.take k) out ∧ (k = 0 → a = none ∧ c = 0) ∧ Holds B w0 (sepR (rowR 65 7 (.slice a k c) k (evCells out)) noneR) wr []
def RsI (B : Nat) (w0 : World) (k : Nat) (a : Option Addr) (c : Nat) (out : List Ev) (x : Ev) (nv : Value) (wr : World) : Prop :=
  ∃ m : Nat, m ≤ k ∧ nv = .int .i64 (m : Int) ∧ (∀ z ∈ out.take m, x.k.lt z.k = false) ∧ Holds B w0 (sepR (rowR 65 7 (.slice a k c) k (evCells out)) noneR) wr []

set_option maxHeartbeats 4000000 in
set_option maxRecDepth 100000 in
theorem rsort_any (w : World) (al : Option Addr) (n cl : Nat) (l : List Ev) (hl : EvsAt w al n cl l) (hn : n ≤ 400) : Calls Tryd.prog 39 #[.slice al n cl] w (SortDoes l w) := by
  have hl1 := hl.1
  have gc1 := hl.2.1
  have hNQ : ∀ {a : Option Addr} {n c : Nat} {xs : List Value}, Stable (sepR (rowR 65 7 (.slice a n c) n xs) noneR) := sepR_stable (rowR_stable _ _ _ _ _) noneR_stable
  have Hl := Lib.hid hl
  have Hl1 := Lib.hid hl1
  have hloop : RsO w.heap.size w n l (.slice none 0 0) (.int .i64 0) w := ⟨0, none, 0, [], Nat.zero_le _, rfl, rfl, rfl, asc_nil, Alike.refl _, fun _ => ⟨rfl, rfl⟩, (Holds.start w).nilRow 65 7⟩
  have Hloop := Lib.hid hloop
  obtain ⟨i1, hj0, hj1, hj2, hj3⟩ := info_parts infoEvent
  have J0 := Lib.hid hj0
  have J1 := Lib.hid hj1
  have J2 := Lib.hid hj2
  have J3 := Lib.hid hj3
  clear hl hl1 hloop hj0 hj1 hj2 hj3
  go_enter Tryd.func39, Tryd.ntmps39
  go_wp2_with fail
  go_loopw [3, 4] (fun ov iv wr => RsO w.heap.size w n l ov iv wr) (fun _ iv _ => n - (intOf iv).toNat)
  case atStart => exact Hloop.out
  case round =>
    obtain ⟨k, a, c, out, hk, rfl, rfl, ho, hA, hlk, hnil, hH⟩ := hrel
    have HH := Lib.hid hH
    have Ho := Lib.hid ho
    have HA := Lib.hid hA
    have Hlk := Lib.hid hlk
    have Hnil := Lib.hid hnil
    clear hH ho hA hlk hnil Hloop
    by_cases hlt : k < n
    · obtain ⟨x, hx⟩ : ∃ x, l[k]? = some x := ⟨_, List.getElem?_eq_getElem (by have := Hl1.out; omega)⟩
      have Hx := Lib.hid hx
      have hloop : RsI w.heap.size w k a c out x (.int .i64 0) wr := ⟨0, Nat.zero_le _, rfl, by simp, HH.out⟩
      have Hloop := Lib.hid hloop
      clear hx hloop HH
      go_wp2_with fail
      go_loopw [5] (fun nv wr => RsI w.heap.size w k a c out x nv wr) (fun nv _ => k - (intOf nv).toNat)
      case atStart => exact Hloop.out
      case round =>
        obtain ⟨m, hm, rfl, hle, hH⟩ := hrel
        have HI := Lib.hid hH
        have Hle := Lib.hid hle
        clear hH hle Hloop
        by_cases hlt2 : m < k
        · obtain ⟨ga, rfl, hga, hca⟩ := row_addr HI.out.row (by omega)
          obtain ⟨b1, o1, x', rfl, hb1, hx', p0, p1, p2, p3, p4, p5, p6⟩ := (Hl.out.frm (Frm.of_below HI.out.below (Nat.le_refl _))).at_ hlt
          rw [Hx.out] at hx'
          obtain rfl := Option.some.inj hx'
          obtain ⟨_, _, y, he1, _, hy, q0, q1, q2, q3, q4, q5, q6⟩ := (EvsAt.of_row HI.out.row Ho.out).at_ hlt2
          simp only [Option.some.injEq, Addr.mk.injEq, and_true] at he1
          obtain ⟨rfl, rfl⟩ := he1
          simp only [Nat.zero_add] at q0 q1 q2 q3
          have Hy := Lib.hid hy
          have gd : decide ((m : Int) < (k : Int)) = true := by rw [decide_eq_true_eq]; omega
          have gd' : decide (m < k) = true := by rw [decide_eq_true_eq]; omega
          have gb1 : (0 : Int) ≤ (m : Int) := by omega
          have gb2 : (m : Int) < (k : Int) := by omega
          have gb3 : (0 : Int) ≤ (k : Int) := by omega
          have gb4 : (k : Int) < (n : Int) := by omega
          clear hx' hy p4 p5 p6 q4 q5 q6
          cases hd : x.k.lt y.k
          all_goals
            have hc := less_any x.k y.k
            rw [hd] at hc
            have Hc := Lib.hid hc
            have Hd := Lib.hid hd
            clear hc hd
          · go_wp2_with fail
            go_region_held3 (fun w' => w'.cell? ⟨b1, o1 + k * 7, none⟩ = some (.int .i64 x.k.at_) ∧ w'.cell? ⟨b1, o1 + k * 7 + 1, none⟩ = some (.int .i64 x.k.src) ∧ w'.cell? ⟨b1, o1 + k * 7 + 2, none⟩ = some (.int .i64 x.k.sent) ∧ w'.cell? ⟨b1, o1 + k * 7 + 3, none⟩ = some (.int .i64 x.k.no) ∧
                w'.cell? ⟨ga, m * 7, none⟩ = some (.int .i64 y.k.at_) ∧ w'.cell? ⟨ga, m * 7 + 1, none⟩ = some (.int .i64 y.k.src) ∧ w'.cell? ⟨ga, m * 7 + 2, none⟩ = some (.int .i64 y.k.sent) ∧ w'.cell? ⟨ga, m * 7 + 3, none⟩ = some (.int .i64 y.k.no))
              (first | go_keep | exact ⟨hf.cell p0 (by simp), hf.cell p1 (by simp), hf.cell p2 (by simp), hf.cell p3 (by simp), hf.cell q0 (by simp), hf.cell q1 (by simp), hf.cell q2 (by simp), hf.cell q3 (by simp)⟩)
              ((go_at_call 47; refine (Hc.out _).mono ?_; rintro e w6 ⟨rfl, hf⟩))
            have h4 := (show Holds w.heap.size w _ w6 _ from by first | exact (HI.out.drewN hNQ _).made hNQ hf | exact ((HI.out.drewN hNQ _).drew hNQ).made hNQ hf | exact (HI.out.drew hNQ).made hNQ hf)
            have H4 := Lib.hid h4
            clear h4 hf
            go_wp2_with fail
            go_roundw
            case rel => exact ⟨m + 1, by omega, by go_num, rs_less Hle.out Hy.out Hd.out, H4.out⟩
            case measure => simp [intOf]; omega
          · have hmo := rs_more HA.out Hy.out Hd.out
            have Hmo := Lib.hid hmo
            clear hmo
            go_wp2_with fail
            go_region_held3 (fun w' => w'.cell? ⟨b1, o1 + k * 7, none⟩ = some (.int .i64 x.k.at_) ∧ w'.cell? ⟨b1, o1 + k * 7 + 1, none⟩ = some (.int .i64 x.k.src) ∧ w'.cell? ⟨b1, o1 + k * 7 + 2, none⟩ = some (.int .i64 x.k.sent) ∧ w'.cell? ⟨b1, o1 + k * 7 + 3, none⟩ = some (.int .i64 x.k.no) ∧
                w'.cell? ⟨ga, m * 7, none⟩ = some (.int .i64 y.k.at_) ∧ w'.cell? ⟨ga, m * 7 + 1, none⟩ = some (.int .i64 y.k.src) ∧ w'.cell? ⟨ga, m * 7 + 2, none⟩ = some (.int .i64 y.k.sent) ∧ w'.cell? ⟨ga, m * 7 + 3, none⟩ = some (.int .i64 y.k.no))
              (first | go_keep | exact ⟨hf.cell p0 (by simp), hf.cell p1 (by simp), hf.cell p2 (by simp), hf.cell p3 (by simp), hf.cell q0 (by simp), hf.cell q1 (by simp), hf.cell q2 (by simp), hf.cell q3 (by simp)⟩)
              ((go_at_call 47; refine (Hc.out _).mono ?_; rintro e w6 ⟨rfl, hf⟩))
            have h4 := (show Holds w.heap.size w _ w6 _ from by first | exact (HI.out.drewN hNQ _).made hNQ hf | exact ((HI.out.drewN hNQ _).drew hNQ).made hNQ hf | exact (HI.out.drew hNQ).made hNQ hf)
            have H4 := Lib.hid h4
            clear h4 hf p0 p1 p2 p3 q0 q1 q2 q3 gd gd' Hc
            have hmc : m < c := by omega
            have hmc' : (m : Int) ≤ (c : Int) := by omega
            have hmk' : (m : Int) ≤ (k : Int) := by omega
            have hsl : SlAt Ev.cells 7 w6 (some ⟨ga, 0, none⟩) m c (out.take m) := (EvsAt.of_row H4.out.row Ho.out).sl.take hm
            have HN := Lib.hid (H4.out.nilRow 65 7)
            have Hsl := Lib.hid hsl
            clear hsl
            go_wp2_with (at_builtin; refine Stop.of ?_)
            refine Stop.go ?_
            refine wpList_append_sl (enc := Ev.cells) _ rfl _ _ 43 rfl 65 i1 (.agg #[.int .i64 0, .int .i64 0, .int .i64 0, .int .i64 0, .int .i64 0, .int .i64 0, .int .i64 0]) 7 56 Tryd.underlying43 J0.out J1.out J2.out J3.out rfl (by decide) (.slice none 0 0) 0 [] rfl HN.out.row (some ⟨ga, 0, none⟩) m c (out.take m) rfl Hsl.out (by simp) ev_len ev_one (by unfold maxLen; omega) (by omega) ?_
            intro a3 c3 w3 hown hF hnew
            have h1 := HN.out.appended hNQ hown hF hnew
            simp only [Nat.zero_add, List.nil_append, flat_ev] at h1 ⊢
            have H1 := Lib.hid h1
            clear hown hF hnew h1 Hsl HN
            obtain ⟨b1, o1, x', hal, hb1, hx', p0, p1, p2, p3, p4, p5, p6⟩ := (Hl.out.frm (Frm.of_below H1.out.below (Nat.le_refl _))).at_ hlt
            rw [Hx.out] at hx'
            obtain rfl := Option.some.inj hx'
            simp only [Option.some.injEq, Addr.mk.injEq, and_true] at hal
            obtain ⟨rfl, rfl⟩ := hal
            clear hx'
            go_wp2_with (at_builtin; refine Stop.of ?_)
            refine Stop.go ?_
            have h5 := H1.out.alloc (sepR_stable (rowR_stable _ _ _ _ _) hNQ) (.cells #[.int .i64 x.k.at_, .int .i64 x.k.src, .int .i64 x.k.sent, .int .i64 x.k.no, .int .i64 x.dst, .int .i64 x.kind, .int .i64 x.data] 65)
            refine wpList_append_foot _ rfl _ _ 43 rfl 65 i1 (.agg #[.int .i64 0, .int .i64 0, .int .i64 0, .int .i64 0, .int .i64 0, .int .i64 0, .int .i64 0]) 7 56 Tryd.underlying43 J0.out J1.out J2.out J3.out rfl (by decide) (.slice a3 m c3) m (evCells (out.take m)) rfl h5.row ⟨_, 0, none⟩ 1 1 x.cells rfl rfl (cells_at _ x.cells _ _ (by simp)) (ev_one x) (by unfold maxLen; omega) (by omega) ?_
            intro a4 c4 w4 hown hF hnew
            have h6 := (h5.appended hNQ hown hF hnew).sub (M := []) (by simp)
            rw [show evCells (out.take m) ++ x.cells = evCells (out.take m ++ [x]) by rw [evCells_append]; rfl] at h6
            have H6 := Lib.hid h6
            clear hown hF hnew h5 h6 H1 p0 p1 p2 p3 p4 p5 p6
            have hsl : SlAt Ev.cells 7 w4 (some ⟨ga, 0 + m * 7, none⟩) (k - m) (c - m) (out.drop m) := (EvsAt.of_row H6.out.row2 Ho.out).sl.drop hm
            simp only [Nat.zero_add] at hsl
            have Hsl := Lib.hid hsl
            clear hsl
            go_wp2_with (at_builtin; refine Stop.of ?_)
            refine Stop.go ?_
            refine wpList_append_sl (enc := Ev.cells) _ rfl _ _ 43 rfl 65 i1 (.agg #[.int .i64 0, .int .i64 0, .int .i64 0, .int .i64 0, .int .i64 0, .int .i64 0, .int .i64 0]) 7 56 Tryd.underlying43 J0.out J1.out J2.out J3.out rfl (by decide) (.slice a4 (m + 1) c4) (m + 1) (evCells (out.take m ++ [x])) rfl H6.out.row (some ⟨ga, m * 7, none⟩) (k - m) (c - m) (out.drop m) rfl Hsl.out (by simp) ev_len ev_one (by unfold maxLen; omega) (by omega) ?_
            intro a5 c5 w5 hown hF hnew
            have h7 := H6.out.appended hNQ hown hF hnew
            have hst := rs_step Hx.out HA.out Hlk.out Hle.out Hmo.out
            have hn1 : m + 1 + (k - m) = k + 1 := by omega
            rw [flat_ev, ← evCells_append, hn1] at h7
            rw [hn1]
            have H7 := Lib.hid (sepR_assoc h7).drop
            have Hst := Lib.hid hst
            clear hown hF hnew h7 hst hn1 H6 Hsl
            go_wp2_with fail
            go_roundw
            case rel => exact ⟨k + 1, a5, c5, _, by omega, by go_num, rfl, rs_len Ho.out hm, Hst.out.1, Hst.out.2, by omega, H7.out⟩
            case measure => simp [intOf]; omega
        · obtain rfl : m = k := by omega
          have hmo : ∀ z ∈ out.drop m, x.k.lt z.k = true := by
            rw [List.drop_of_length_le (by rw [Ho.out]; exact Nat.le_refl _)]
            simp
          have Hmo := Lib.hid hmo
          have gd : decide ((m : Int) < (m : Int)) = false := by simp
          have gd' : decide (m < m) = false := by simp
          clear hmo
          have hmk' : (m : Int) ≤ (m : Int) := by omega
          rcases Nat.eq_zero_or_pos m with h0 | h0
          · obtain ⟨ha, hc⟩ := Hnil.out h0
            subst ha hc h0
            go_wp2_with fail
            go_quiet (fail)
            have H4 := Lib.hid (HI.out.drewN hNQ nq)
            generalize wr.drewN nq = w6 at H4 ⊢
            have hsl : SlAt Ev.cells 7 w6 none 0 0 (out.take 0) := (EvsAt.of_row H4.out.row Ho.out).sl.take (Nat.le_refl _)
            have HN := Lib.hid (H4.out.nilRow 65 7)
            have Hsl := Lib.hid hsl
            clear hsl
            go_wp2_with (at_builtin; refine Stop.of ?_)
            refine Stop.go ?_
            refine wpList_append_sl (enc := Ev.cells) _ rfl _ _ 43 rfl 65 i1 (.agg #[.int .i64 0, .int .i64 0, .int .i64 0, .int .i64 0, .int .i64 0, .int .i64 0, .int .i64 0]) 7 56 Tryd.underlying43 J0.out J1.out J2.out J3.out rfl (by decide) (.slice none 0 0) 0 [] rfl HN.out.row none 0 0 (out.take 0) rfl Hsl.out (by simp) ev_len ev_one (by unfold maxLen; omega) (by omega) ?_
            intro a3 c3 w3 hown hF hnew
            have h1 := HN.out.appended hNQ hown hF hnew
            simp only [Nat.zero_add, List.nil_append, flat_ev] at h1 ⊢
            have H1 := Lib.hid h1
            clear hown hF hnew h1 Hsl HN
            obtain ⟨b1, o1, x', hal, hb1, hx', p0, p1, p2, p3, p4, p5, p6⟩ := (Hl.out.frm (Frm.of_below H1.out.below (Nat.le_refl _))).at_ hlt
            rw [Hx.out] at hx'
            obtain rfl := Option.some.inj hx'
            subst hal
            simp only [Nat.zero_mul, Nat.add_zero] at p0 p1 p2 p3 p4 p5 p6
            clear hx'
            go_wp2_with (at_builtin; refine Stop.of ?_)
            refine Stop.go ?_
            have h5 := H1.out.alloc (sepR_stable (rowR_stable _ _ _ _ _) hNQ) (.cells #[.int .i64 x.k.at_, .int .i64 x.k.src, .int .i64 x.k.sent, .int .i64 x.k.no, .int .i64 x.dst, .int .i64 x.kind, .int .i64 x.data] 65)
            refine wpList_append_foot _ rfl _ _ 43 rfl 65 i1 (.agg #[.int .i64 0, .int .i64 0, .int .i64 0, .int .i64 0, .int .i64 0, .int .i64 0, .int .i64 0]) 7 56 Tryd.underlying43 J0.out J1.out J2.out J3.out rfl (by decide) (.slice a3 0 c3) 0 (evCells (out.take 0)) rfl h5.row ⟨_, 0, none⟩ 1 1 x.cells rfl rfl (cells_at _ x.cells _ _ (by simp)) (ev_one x) (by unfold maxLen; omega) (by omega) ?_
            intro a4 c4 w4 hown hF hnew
            have h6 := (h5.appended hNQ hown hF hnew).sub (M := []) (by simp)
            rw [show evCells (out.take 0) ++ x.cells = evCells (out.take 0 ++ [x]) by rw [evCells_append]; rfl] at h6
            have H6 := Lib.hid h6
            clear hown hF hnew h5 h6 H1 p0 p1 p2 p3 p4 p5 p6
            have hsl : SlAt Ev.cells 7 w4 none 0 0 (out.drop 0) := by
              rw [List.eq_nil_of_length_eq_zero Ho.out]
              exact SlAt.nil _ _ _ _
            have Hsl := Lib.hid hsl
            clear hsl
            go_wp2_with (at_builtin; refine Stop.of ?_)
            refine Stop.go ?_
            refine wpList_append_sl (enc := Ev.cells) _ rfl _ _ 43 rfl 65 i1 (.agg #[.int .i64 0, .int .i64 0, .int .i64 0, .int .i64 0, .int .i64 0, .int .i64 0, .int .i64 0]) 7 56 Tryd.underlying43 J0.out J1.out J2.out J3.out rfl (by decide) (.slice a4 (0 + 1) c4) (0 + 1) (evCells (out.take 0 ++ [x])) rfl H6.out.row none 0 0 (out.drop 0) rfl Hsl.out (by simp) ev_len ev_one (by unfold maxLen; omega) (by omega) ?_
            intro a5 c5 w5 hown hF hnew
            have h7 := H6.out.appended hNQ hown hF hnew
            have hst := rs_step Hx.out HA.out Hlk.out Hle.out Hmo.out
            have hn1 : 0 + 1 + 0 = 0 + 1 := by omega
            rw [flat_ev, ← evCells_append, hn1] at h7
            rw [hn1]
            have H7 := Lib.hid (sepR_assoc h7).drop
            have Hst := Lib.hid hst
            clear hown hF hnew h7 hst hn1 H6 Hsl
            go_wp2_with fail
            go_roundw
            case rel => exact ⟨0 + 1, a5, c5, _, by omega, by go_num, rfl, rs_len Ho.out (Nat.le_refl _), Hst.out.1, Hst.out.2, by omega, H7.out⟩
            case measure => simp [intOf]; omega
          · obtain ⟨ga, rfl, hga, hca⟩ := row_addr HI.out.row h0
            have hmc' : (m : Int) ≤ (c : Int) := by omega
            by_cases hmc : m < c
            · go_wp2_with fail
              go_quiet (fail)
              have H4 := Lib.hid (HI.out.drewN hNQ nq)
              generalize wr.drewN nq = w6 at H4 ⊢
              have hsl : SlAt Ev.cells 7 w6 (some ⟨ga, 0, none⟩) m c (out.take m) := (EvsAt.of_row H4.out.row Ho.out).sl.take hm
              have HN := Lib.hid (H4.out.nilRow 65 7)
              have Hsl := Lib.hid hsl
              clear hsl
              go_wp2_with (at_builtin; refine Stop.of ?_)
              refine Stop.go ?_
              refine wpList_append_sl (enc := Ev.cells) _ rfl _ _ 43 rfl 65 i1 (.agg #[.int .i64 0, .int .i64 0, .int .i64 0, .int .i64 0, .int .i64 0, .int .i64 0, .int .i64 0]) 7 56 Tryd.underlying43 J0.out J1.out J2.out J3.out rfl (by decide) (.slice none 0 0) 0 [] rfl HN.out.row (some ⟨ga, 0, none⟩) m c (out.take m) rfl Hsl.out (by simp) ev_len ev_one (by unfold maxLen; omega) (by omega) ?_
              intro a3 c3 w3 hown hF hnew
              have h1 := HN.out.appended hNQ hown hF hnew
              simp only [Nat.zero_add, List.nil_append, flat_ev] at h1 ⊢
              have H1 := Lib.hid h1
              clear hown hF hnew h1 Hsl HN
              obtain ⟨b1, o1, x', hal, hb1, hx', p0, p1, p2, p3, p4, p5, p6⟩ := (Hl.out.frm (Frm.of_below H1.out.below (Nat.le_refl _))).at_ hlt
              rw [Hx.out] at hx'
              obtain rfl := Option.some.inj hx'
              subst hal
              clear hx'
              go_wp2_with (at_builtin; refine Stop.of ?_)
              refine Stop.go ?_
              have h5 := H1.out.alloc (sepR_stable (rowR_stable _ _ _ _ _) hNQ) (.cells #[.int .i64 x.k.at_, .int .i64 x.k.src, .int .i64 x.k.sent, .int .i64 x.k.no, .int .i64 x.dst, .int .i64 x.kind, .int .i64 x.data] 65)
              refine wpList_append_foot _ rfl _ _ 43 rfl 65 i1 (.agg #[.int .i64 0, .int .i64 0, .int .i64 0, .int .i64 0, .int .i64 0, .int .i64 0, .int .i64 0]) 7 56 Tryd.underlying43 J0.out J1.out J2.out J3.out rfl (by decide) (.slice a3 m c3) m (evCells (out.take m)) rfl h5.row ⟨_, 0, none⟩ 1 1 x.cells rfl rfl (cells_at _ x.cells _ _ (by simp)) (ev_one x) (by unfold maxLen; omega) (by omega) ?_
              intro a4 c4 w4 hown hF hnew
              have h6 := (h5.appended hNQ hown hF hnew).sub (M := []) (by simp)
              rw [show evCells (out.take m) ++ x.cells = evCells (out.take m ++ [x]) by rw [evCells_append]; rfl] at h6
              have H6 := Lib.hid h6
              clear hown hF hnew h5 h6 H1 p0 p1 p2 p3 p4 p5 p6
              have hsl : SlAt Ev.cells 7 w4 (some ⟨ga, 0 + m * 7, none⟩) (m - m) (c - m) (out.drop m) := (EvsAt.of_row H6.out.row2 Ho.out).sl.drop (Nat.le_refl _)
              simp only [Nat.zero_add, Nat.sub_self] at hsl
              have Hsl := Lib.hid hsl
              clear hsl
              go_wp2_with (at_builtin; refine Stop.of ?_)
              refine Stop.go ?_
              refine wpList_append_sl (enc := Ev.cells) _ rfl _ _ 43 rfl 65 i1 (.agg #[.int .i64 0, .int .i64 0, .int .i64 0, .int .i64 0, .int .i64 0, .int .i64 0, .int .i64 0]) 7 56 Tryd.underlying43 J0.out J1.out J2.out J3.out rfl (by decide) (.slice a4 (m + 1) c4) (m + 1) (evCells (out.take m ++ [x])) rfl H6.out.row (some ⟨ga, m * 7, none⟩) 0 (c - m) (out.drop m) rfl Hsl.out (by simp) ev_len ev_one (by unfold maxLen; omega) (by omega) ?_
              intro a5 c5 w5 hown hF hnew
              have h7 := H6.out.appended hNQ hown hF hnew
              have hst := rs_step Hx.out HA.out Hlk.out Hle.out Hmo.out
              have hn1 : m + 1 + 0 = m + 1 := by omega
              rw [flat_ev, ← evCells_append, hn1] at h7
              rw [hn1]
              have H7 := Lib.hid (sepR_assoc h7).drop
              have Hst := Lib.hid hst
              clear hown hF hnew h7 hst hn1 H6 Hsl
              go_wp2_with fail
              go_roundw
              case rel => exact ⟨m + 1, a5, c5, _, by omega, by go_num, rfl, rs_len Ho.out hm, Hst.out.1, Hst.out.2, by omega, H7.out⟩
              case measure => simp [intOf]; omega
            · obtain rfl : m = c := by omega
              go_wp2_with fail
              go_quiet (fail)
              have H4 := Lib.hid (HI.out.drewN hNQ nq)
              generalize wr.drewN nq = w6 at H4 ⊢
              have hsl : SlAt Ev.cells 7 w6 (some ⟨ga, 0, none⟩) m m (out.take m) := (EvsAt.of_row H4.out.row Ho.out).sl.take hm
              have HN := Lib.hid (H4.out.nilRow 65 7)
              have Hsl := Lib.hid hsl
              clear hsl
              go_wp2_with (at_builtin; refine Stop.of ?_)
              refine Stop.go ?_
              refine wpList_append_sl (enc := Ev.cells) _ rfl _ _ 43 rfl 65 i1 (.agg #[.int .i64 0, .int .i64 0, .int .i64 0, .int .i64 0, .int .i64 0, .int .i64 0, .int .i64 0]) 7 56 Tryd.underlying43 J0.out J1.out J2.out J3.out rfl (by decide) (.slice none 0 0) 0 [] rfl HN.out.row (some ⟨ga, 0, none⟩) m m (out.take m) rfl Hsl.out (by simp) ev_len ev_one (by unfold maxLen; omega) (by omega) ?_
              intro a3 c3 w3 hown hF hnew
              have h1 := HN.out.appended hNQ hown hF hnew
              simp only [Nat.zero_add, List.nil_append, flat_ev] at h1 ⊢
              have H1 := Lib.hid h1
              clear hown hF hnew h1 Hsl HN
              obtain ⟨b1, o1, x', hal, hb1, hx', p0, p1, p2, p3, p4, p5, p6⟩ := (Hl.out.frm (Frm.of_below H1.out.below (Nat.le_refl _))).at_ hlt
              rw [Hx.out] at hx'
              obtain rfl := Option.some.inj hx'
              subst hal
              clear hx'
              go_wp2_with (at_builtin; refine Stop.of ?_)
              refine Stop.go ?_
              have h5 := H1.out.alloc (sepR_stable (rowR_stable _ _ _ _ _) hNQ) (.cells #[.int .i64 x.k.at_, .int .i64 x.k.src, .int .i64 x.k.sent, .int .i64 x.k.no, .int .i64 x.dst, .int .i64 x.kind, .int .i64 x.data] 65)
              refine wpList_append_foot _ rfl _ _ 43 rfl 65 i1 (.agg #[.int .i64 0, .int .i64 0, .int .i64 0, .int .i64 0, .int .i64 0, .int .i64 0, .int .i64 0]) 7 56 Tryd.underlying43 J0.out J1.out J2.out J3.out rfl (by decide) (.slice a3 m c3) m (evCells (out.take m)) rfl h5.row ⟨_, 0, none⟩ 1 1 x.cells rfl rfl (cells_at _ x.cells _ _ (by simp)) (ev_one x) (by unfold maxLen; omega) (by omega) ?_
              intro a4 c4 w4 hown hF hnew
              have h6 := (h5.appended hNQ hown hF hnew).sub (M := []) (by simp)
              rw [show evCells (out.take m) ++ x.cells = evCells (out.take m ++ [x]) by rw [evCells_append]; rfl] at h6
              have H6 := Lib.hid h6
              clear hown hF hnew h5 h6 H1 p0 p1 p2 p3 p4 p5 p6
              have hsl : SlAt Ev.cells 7 w4 (some ⟨ga, 0, none⟩) 0 0 (out.drop m) := by
                rw [List.drop_of_length_le (by rw [Ho.out]; exact Nat.le_refl _)]
                exact SlAt.nil _ _ _ _
              have Hsl := Lib.hid hsl
              clear hsl
              go_wp2_with (at_builtin; refine Stop.of ?_)
              refine Stop.go ?_
              refine wpList_append_sl (enc := Ev.cells) _ rfl _ _ 43 rfl 65 i1 (.agg #[.int .i64 0, .int .i64 0, .int .i64 0, .int .i64 0, .int .i64 0, .int .i64 0, .int .i64 0]) 7 56 Tryd.underlying43 J0.out J1.out J2.out J3.out rfl (by decide) (.slice a4 (m + 1) c4) (m + 1) (evCells (out.take m ++ [x])) rfl H6.out.row (some ⟨ga, 0, none⟩) 0 0 (out.drop m) rfl Hsl.out (by simp) ev_len ev_one (by unfold maxLen; omega) (by omega) ?_
              intro a5 c5 w5 hown hF hnew
              have h7 := H6.out.appended hNQ hown hF hnew
              have hst := rs_step Hx.out HA.out Hlk.out Hle.out Hmo.out
              have hn1 : m + 1 + 0 = m + 1 := by omega
              rw [flat_ev, ← evCells_append, hn1] at h7
              rw [hn1]
              have H7 := Lib.hid (sepR_assoc h7).drop
              have Hst := Lib.hid hst
              clear hown hF hnew h7 hst hn1 H6 Hsl
              go_wp2_with fail
              go_roundw
              case rel => exact ⟨m + 1, a5, c5, _, by omega, by go_num, rfl, rs_len Ho.out hm, Hst.out.1, Hst.out.2, by omega, H7.out⟩
              case measure => simp [intOf]; omega
    · obtain rfl : k = n := by omega
      have htk : l.take k = l := List.take_of_length_le (by rw [Hl1.out]; exact Nat.le_refl _)
      have hlk := Hlk.out
      rw [htk] at hlk
      have Hlk2 := Lib.hid hlk
      clear hlk htk
      go_wp2_with fail
      go_ret
      exact ⟨a, c, out, by rw [Hl1.out]; rfl, HA.out, Hlk2.out, by rw [Ho.out, Hl1.out], by rw [Hl1.out]; exact (sepR_comm HH.out).drop⟩

/-- What the document's Sort does, beside what is held: it is what Sort does. -/
theorem rsort_goesN {R : World → List Nat → Prop} {B : Nat} {w0 w : World} {L : List (Nat × Obj)} (hR : Stable R) (h : Holds B w0 R w L) {a : Option Addr} {n cap : Nat} {l : List Ev} (hl : EvsAt w a n cap l) (hn : n ≤ 400) :
    Calls Tryd.prog 39 #[.slice a n cap] w (SortGoesN l n B w0 R L) := by
  refine (rsort_any w a n cap l hl hn).mono fun e w' hd => ?_
  obtain ⟨a', c', r, rfl, h1, h2, h3, h4⟩ := hd
  rw [hl.1] at h3 h4 ⊢
  exact ⟨a', c', r, rfl, h1, h2, h3, row_nil_cap h4.sepNone.row, h.join hR h4⟩
end Go.Proofs.YtbkadfdpboghiaaDoor
