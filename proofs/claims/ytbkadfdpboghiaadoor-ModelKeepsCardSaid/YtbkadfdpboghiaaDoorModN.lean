/- Package model: Events; the document's Events. -/
import Derived.Test.YtbkadfdpboghiaaDoorModM
namespace Go.Proofs.YtbkadfdpboghiaaDoor
open Go.RowKit Go.Maps

/-- A start as an event. -/
def mkEv (i : Nat) (s : St) : Ev := ⟨⟨s.at_, -1, -1, (i : Int)⟩, s.dst, s.kind, s.data⟩
def evsOf (ss : List St) : List Ev := ss.mapIdx mkEv
theorem evsOf_len (ss : List St) : (evsOf ss).length = ss.length := by simp [evsOf]
theorem evsOf_get {ss : List St} {i : Nat} {s : St} (h : ss[i]? = some s) : (evsOf ss)[i]? = some (mkEv i s) := by simp [evsOf, h]
def zeroEv : Ev := ⟨⟨0, 0, 0, 0⟩, 0, 0, 0⟩
/-- What Events makes: what there is at first, in order. -/
def EvsMade (ss : List St) (n : Nat) (w : World) (e : Ending) (w' : World) : Prop :=
  ∃ (a : Option Addr) (c : Nat) (r : List Ev), e = .returned (.slice a n c) ∧ Asc r ∧ Alike (evsOf ss) r ∧ r.length = n ∧ w'.ownsRow 0 65 7 (.slice a n c) n (evCells r) ∧ Betw w.heap.size w'.heap.size a ∧ Frm [] w w'
theorem made_evs (n : Nat) : (madeCells (Value.agg #[.int .i64 0, .int .i64 0, .int .i64 0, .int .i64 0, .int .i64 0, .int .i64 0, .int .i64 0]).cells (n * 7)).toList = evCells (List.replicate n zeroEv) := by
  rw [← flat_ev]
  exact made_flatG ev_len (by omega) _ zeroEv rfl n
theorem evs_put {l : List Ev} {k n : Nat} {e : Ev} (hl : l.length = n) (hk : k < n) (he : l[k]? = some e) : (l.take k ++ List.replicate (n - k) zeroEv).set k e = l.take (k + 1) ++ List.replicate (n - (k + 1)) zeroEv := by
  have h1 : (l.take k).length = k := by rw [List.length_take]; omega
  rw [List.set_append_right _ _ (by omega), h1, Nat.sub_self, show n - k = (n - (k + 1)) + 1 by omega, List.replicate_succ, List.set_cons_zero, List.take_add_one, he, Option.toList_some, List.append_assoc]
  rfl
theorem sorted_made {ss : List St} {n : Nat} {w w1 w2 : World} {e : Ending} (hss : ss.length = n) (hd : SortDoes (evsOf ss) w1 e w2) (hf : Frm [] w w1) : EvsMade ss n w e w2 := by
  obtain ⟨a, c, r, rfl, h1, h2, h3, h4⟩ := hd
  rw [evsOf_len, hss] at h3 h4
  have h5 := h4.sepNone
  refine ⟨a, c, r, by rw [evsOf_len, hss], h1, h2, h3, h5.row, (betw_of h5).mono hf.size (Nat.le_refl _), hf.trans (T := []) (Frm.of_below h4.below (Nat.le_refl _)) (by simp)⟩

set_option maxHeartbeats 4000000 in
set_option maxRecDepth 100000 in
theorem events_in {lo hi m : Nat} {w : World} {D : Cf} (h : ModAt lo hi w m D) (hn : D.sn ≤ 300) : Calls Tryd.prog 19 #[.pointer (some ⟨m, 0, none⟩)] w (EvsMade D.ss D.sn w) := by
  have hss : D.ss.length = D.sn := h.at_.ss.1
  obtain ⟨c0, c1, c2, c3, c4, c5⟩ := cells6 h.obj
  have z0 := World.block_lt_of_cell? _ _ c0
  dsimp only at z0
  have HM := Lib.hid h
  have Hss := Lib.hid hss
  have H0 := Lib.hid (Holds.start w)
  clear h hss c0 c1 c3 c4 c5
  go_enter Tryd.func19, Tryd.ntmps19
  go_wp2_with (at_make; refine Stop.of ?_)
  refine Stop.go ?_
  obtain ⟨i0, hi0, hi1, hi2, hi3⟩ := info_parts infoEvent
  refine wpList_make_full _ rfl _ _ 43 rfl w.heap.size 65 i0 (.agg #[.int .i64 0, .int .i64 0, .int .i64 0, .int .i64 0, .int .i64 0, .int .i64 0, .int .i64 0]) 7 Tryd.underlying43 hi0 hi1 hi2 .i64 .i64 _ _ D.sn rfl rfl rfl rfl (by rw [hi3]; omega) (by unfold maxLen; omega) (Nat.le_refl _) ?_
  intro w2 hown hgrow
  rw [made_evs] at hown
  have h1 := H0.out.newRow noneR_stable hown hgrow
  have hf12 : Frm [] w w2 := Frm.of_grown hgrow (by simp)
  have c2' := hf12.cell c2 (by simp)
  have z2 : m < w2.heap.size := by have := hf12.size; omega
  have H1 := Lib.hid h1
  clear hown hgrow hf12 hi0 hi1 hi2 hi3 c2 H0 h1
  go_wp2_with fail
  go_loopw [21] (fun iv wr => ∃ k : Nat, k ≤ D.sn ∧ iv = .int .i64 (k : Int) ∧ Holds w.heap.size w (sepR (evR w.heap.size D.sn D.sn ((evsOf D.ss).take k ++ List.replicate (D.sn - k) zeroEv)) noneR) wr []) (fun iv _ => D.sn - (intOf iv).toNat)
  case atStart => exact ⟨0, Nat.zero_le _, rfl, H1.out⟩
  case round =>
    clear c2' z2
    obtain ⟨k, hk, rfl, hh⟩ := hrel
    have HH := Lib.hid hh
    clear hh
    by_cases hlt : k < D.sn
    · obtain ⟨b, off, x, hca, hbl, hx, p0, p1, p2, p3⟩ := HM.out.at_.ss.stAt hlt
      have q0 := (HH.out.oldCell hbl).trans p0
      have q1 := (HH.out.oldCell hbl).trans p1
      have q2 := (HH.out.oldCell hbl).trans p2
      have q3 := (HH.out.oldCell hbl).trans p3
      have hle := HH.out.le
      have hbl' : b < wr.heap.size := by omega
      have hst : Stable (sepR (evR w.heap.size D.sn D.sn ((evsOf D.ss).take k ++ List.replicate (D.sn - k) zeroEv)) noneR) := sepR_stable (evR_stable _ _ _ _) noneR_stable
      have hz : ((evsOf D.ss).take k ++ List.replicate (D.sn - k) zeroEv)[k]? = some zeroEv := by
        have hl : ((evsOf D.ss).take k).length = k := by rw [List.length_take, evsOf_len, Hss.out]; omega
        rw [List.getElem?_append_right (by omega), hl, Nat.sub_self, List.getElem?_replicate, if_pos (by omega)]
      have hg3 := (HH.out.row.lt w.heap.size rfl).2
      obtain ⟨r0, r1, r2, r3, r4, r5, r6⟩ := HH.out.evAt hz
      have fz : ∀ j, wr.frozen? ⟨w.heap.size, j, none⟩ = false := fun j => HH.out.row.frozenAt j
      have Hx := Lib.hid hx
      rw [hca]
      clear hz hx p0 p1 p2 p3 hst
      go_wp2_with fail
      go_roundw
      case rel =>
        have hl : ((evsOf D.ss).take k ++ List.replicate (D.sn - k) zeroEv).length = D.sn := by rw [List.length_append, List.length_take, evsOf_len, Hss.out, List.length_replicate]; omega
        have h5 := HH.out.putEv noneR_stable (i := k) (by omega) (mkEv k x)
        rw [evs_put (by rw [evsOf_len, Hss.out]) hlt (evsOf_get Hx.out)] at h5
        have h6 := h5.made (sepR_stable (evR_stable _ _ _ _) noneR_stable) ((Frm.refl [] _).alloc (.cells #[.int .i64 x.dst, .int .i64 x.at_, .int .i64 x.kind, .int .i64 x.data] 61))
        exact ⟨k + 1, by omega, by go_num, h6⟩
      case measure => simp [intOf]; omega
    · obtain rfl : k = D.sn := by omega
      have hall : (evsOf D.ss).take D.sn ++ List.replicate (D.sn - D.sn) zeroEv = evsOf D.ss := by rw [Nat.sub_self, List.replicate_zero, List.append_nil, List.take_of_length_le (by rw [evsOf_len, Hss.out]; exact Nat.le_refl _)]
      have hh := HH.out
      rw [hall] at hh
      have Hs := Lib.hid (sort_any wr (some ⟨w.heap.size, 0, none⟩) D.sn D.sn (evsOf D.ss) (EvsAt.of_row hh.row (by rw [evsOf_len, Hss.out])) (by omega) (by simp))
      have HF := Lib.hid (Frm.of_below (S := []) hh.below (Nat.le_refl _))
      clear hh hall HH
      go_wp2_with fail
      refine Hs.out.mono ?_
      intro e w4 hd
      have hm := sorted_made Hss.out hd HF.out
      obtain ⟨a, c, r, rfl, hrest⟩ := hm
      have Hrest := Lib.hid hrest
      clear hd hrest
      go_wp2_with fail
      go_ret
      exact ⟨a, c, r, rfl, Hrest.out⟩

set_option maxHeartbeats 4000000 in
set_option maxRecDepth 100000 in
theorem revents_any {w : World} {D : Cf} (h : CfAt w D) (hn : D.sn ≤ 300) : Calls Tryd.prog 20 #[D.val] w (EvsMade D.ss D.sn w) := by
  have hss : D.ss.length = D.sn := h.ss.1
  have HC := Lib.hid h
  have Hss := Lib.hid hss
  have H0 := Lib.hid (((Holds.start w).alloc noneR_stable (D.obj 33)).nilRow 65 7)
  obtain ⟨i1, hj0, hj1, hj2, hj3⟩ := info_parts infoEvent
  have Hi := Lib.hid (And.intro hj0 (And.intro hj1 (And.intro hj2 hj3)))
  clear h hss hj0 hj1 hj2 hj3
  go_enter Tryd.func20, Tryd.ntmps20
  go_wp2_with fail
  go_loopw [3, 4] (fun ov iv wr => ∃ (k : Nat) (a : Option Addr) (c : Nat), k ≤ D.sn ∧ iv = .int .i64 (k : Int) ∧ ov = .slice a k c ∧ Holds w.heap.size w (sepR (rowR 65 7 (.slice a k c) k (evCells ((evsOf D.ss).take k))) noneR) wr [(w.heap.size, D.obj 33)]) (fun _ iv _ => D.sn - (intOf iv).toNat)
  case atStart => exact ⟨0, none, 0, Nat.zero_le _, rfl, rfl, H0.out⟩
  case round =>
    obtain ⟨k, a1, c1, hk, rfl, rfl, hh⟩ := hrel
    have HH := Lib.hid hh
    have hob := hh.box (k := w.heap.size) (o := D.obj 33) (by simp)
    obtain ⟨c0, c1', c2, c3, c4, c5⟩ := cells6 hob
    have z0 := World.block_lt_of_cell? _ _ c0
    dsimp only at z0
    clear hh hob c0 c1' c3 c4 c5
    by_cases hlt : k < D.sn
    · obtain ⟨b, off, x, hca, hbl, hx, p0, p1, p2, p3⟩ := HC.out.ss.stAt hlt
      have q0 := (HH.out.oldCell hbl).trans p0
      have q1 := (HH.out.oldCell hbl).trans p1
      have q2 := (HH.out.oldCell hbl).trans p2
      have q3 := (HH.out.oldCell hbl).trans p3
      have hbl' : b < wr.heap.size := by have := HH.out.le; omega
      have hst : Stable (sepR (rowR 65 7 (.slice a1 k c1) k (evCells ((evsOf D.ss).take k))) noneR) := sepR_stable (rowR_stable _ _ _ _ _) noneR_stable
      have h5 := (HH.out.alloc hst (.cells #[.int .i64 x.dst, .int .i64 x.at_, .int .i64 x.kind, .int .i64 x.data] 73)).alloc hst (.cells (mkEv k x).cells.toArray 65)
      have H5 := Lib.hid h5
      have Hx := Lib.hid hx
      rw [hca] at c2
      clear hca hx p0 p1 p2 p3 hst h5
      go_wp2_with (at_builtin; refine Stop.of ?_)
      refine Stop.go ?_
      refine wpList_append_foot _ rfl _ _ 43 rfl 65 i1 (.agg #[.int .i64 0, .int .i64 0, .int .i64 0, .int .i64 0, .int .i64 0, .int .i64 0, .int .i64 0]) 7 56 Tryd.underlying43 Hi.out.1 Hi.out.2.1 Hi.out.2.2.1 Hi.out.2.2.2 rfl (by decide) (.slice a1 k c1) k (evCells ((evsOf D.ss).take k)) rfl H5.out.row ⟨_, 0, none⟩ 1 1 (mkEv k x).cells rfl rfl (cells_at _ (mkEv k x).cells _ _ (by simp)) (ev_one (mkEv k x)) (by unfold maxLen; omega) (by omega) ?_
      intro a3 c3 w3 hown hF hnew
      have h6 := H5.out.appended noneR_stable hown hF hnew
      have e2 : evCells ((evsOf D.ss).take k) ++ (mkEv k x).cells = evCells ((evsOf D.ss).take (k + 1)) := by
        rw [List.take_add_one, evsOf_get Hx.out, Option.toList_some, evCells_append]; rfl
      rw [e2] at h6
      have H6 := Lib.hid h6
      clear hown hF hnew h6 e2 c2 q0 q1 q2 q3
      go_wp2_with fail
      go_roundw
      case rel => exact ⟨k + 1, a3, c3, by omega, by go_num, rfl, H6.out.sub (by simp)⟩
      case measure => simp [intOf]; omega
    · obtain rfl : k = D.sn := by omega
      have hh := HH.out
      rw [List.take_of_length_le (by rw [evsOf_len, Hss.out]; exact Nat.le_refl _)] at hh
      have Hs := Lib.hid (rsort_any wr a1 D.sn c1 (evsOf D.ss) (EvsAt.of_row hh.row (by rw [evsOf_len, Hss.out])) (by omega))
      have HF := Lib.hid (Frm.of_below (S := []) hh.below (Nat.le_refl _))
      clear hh HH
      go_wp2_with fail
      refine Hs.out.mono ?_
      intro e w4 hd
      have hm := sorted_made Hss.out hd HF.out
      obtain ⟨a, c, r, rfl, hrest⟩ := hm
      have Hrest := Lib.hid hrest
      clear hd hrest
      go_wp2_with fail
      go_ret
      exact ⟨a, c, r, rfl, Hrest.out⟩
end Go.Proofs.YtbkadfdpboghiaaDoor
