/- The document's answer: Push, Upto; what is told. -/
import Derived.Test.YthamnalpkjjnlaaRingRef
namespace Go.Proofs.Ythamnalpkjjnlaa
open Go.RowKit Go.Maps

theorem cnt_before {p : Int → Bool} {S : List It} {i : Nat} {x : It} (hx : S[i]? = some x) (h : i < cnt p S) : p x.at_ = false := by
  unfold cnt at h
  induction S generalizing i with
  | nil => simp at hx
  | cons y S ih =>
    rw [List.takeWhile_cons] at h
    cases hy : p y.at_ with
    | true => rw [hy] at h; simp at h
    | false =>
      rw [hy] at h
      cases i with
      | zero => simp at hx; subst hx; exact hy
      | succ i => exact ih (by simpa using hx) (by simpa using h)
theorem cnt_at {p : Int → Bool} {S : List It} {x : It} (hx : S[cnt p S]? = some x) : p x.at_ = true := by
  unfold cnt at hx
  induction S with
  | nil => simp at hx
  | cons y S ih =>
    rw [List.takeWhile_cons] at hx
    cases hy : p y.at_ with
    | true => rw [hy] at hx; simp at hx; subst hx; exact hy
    | false => rw [hy] at hx; simp at hx; exact ih hx
theorem cnt_after {p : Int → Bool} (hp : ∀ x y, x ≤ y → p x = true → p y = true) {S : List It} (hS : Rise S) {i : Nat} {x : It} (hx : S[i]? = some x) (h : cnt p S ≤ i) : p x.at_ = true := by
  have hil := (List.getElem?_eq_some_iff.1 hx).1
  obtain ⟨y, hy⟩ : ∃ y, S[cnt p S]? = some y := ⟨_, List.getElem?_eq_getElem (by omega)⟩
  exact hp _ _ (hS.get hy hx h) (cnt_at hy)

section
variable {B : Nat} {w0 w : World} {Q : World → List Nat → Prop} {L : List (Nat × Obj)}
theorem Holds.offAppend (hQ : Stable Q) {a : Option Addr} {n c : Nat} {S : List It} (h : Holds B w0 (sepR (OffAt a n c S) Q) w L) (hn : n ≤ 10000) (x : It) {sb : Nat} (hx : w.heap[sb]? = some (.cells #[.int .i64 x.at_, .int .i64 x.v] 44)) (ty : TypeId) :
    ∃ (a' : Option Addr) (c' : Nat) (w' : World), (Builtin.append_ #[30, 30] ty #[.slice a n c, .slice (some ⟨sb, 0, none⟩) 1 1]).run Try.prog w = .ok (.slice a' (n + 1) c') w' ∧ Holds B w0 (sepR (OffAt a' (n + 1) c' (S ++ [x])) Q) w' L := by
  obtain ⟨F1, hR, _, _, hk⟩ := h.split hQ
  obtain ⟨a', c', w', F', h1, h2, h3, h4⟩ := off_append hR hn x hx ty
  exact ⟨a', c', w', h1, hk _ _ F' h2 h3 h4 h2.lt⟩

set_option maxHeartbeats 2000000 in
theorem rpush_early {b room : Nat} {S : List It} (h : Holds B w0 (sepR (refR b room S) Q) w L) (hr : S.length ≤ 4096) {t v : Int} (he : early S t) :
    Calls Try.prog 26 #[.pointer (some ⟨b, 0, none⟩), .int .i64 t, .int .i64 v] w (Goes (.int .i64 18) B w0 (sepR (refR b room S) Q) L) := by
  obtain ⟨x, hx, hlt⟩ := he
  have hSl := (List.getElem?_eq_some_iff.1 hx).1
  obtain ⟨a, c, hb, hsl, hnil⟩ := h.refAt
  obtain ⟨g, off, y, rfl, hg, hy, hcell⟩ := hsl.at_ (i := S.length - 1) (by omega)
  rw [hx] at hy
  cases hy
  have p0 := hcell 0 _ rfl
  simp only [Nat.add_zero] at p0
  obtain ⟨c0, c1⟩ := cells2 hb
  have hbl := lt_of_obj hb
  have hcap := hsl.2.1
  have g1 : decide ((S.length : Int) > 0) = true := by rw [decide_eq_true_eq]; omega
  have g1' : (0 : Int) < (S.length : Int) := by omega
  have e1 : IntKind.i64.wrap ((S.length : Int) - 1) = ((S.length - 1 : Nat) : Int) := by rw [IntWalk.i64_in _ (by omega)]; omega
  have i0 : (0 : Int) ≤ ((S.length - 1 : Nat) : Int) := by omega
  have i1 : ((S.length - 1 : Nat) : Int) < (S.length : Int) := by omega
  have g2 : decide (t < x.at_) = true := by rw [decide_eq_true_eq]; exact hlt
  have H0 := Lib.hid h
  clear h hb hsl hnil hcell hx hSl
  go_enter Try.func26, Try.ntmps26
  go_wp2_with fail
  go_ret
  exact ⟨rfl, H0.out⟩

set_option maxHeartbeats 2000000 in
theorem rpush_full {b room : Nat} {S : List It} (h : Holds B w0 (sepR (refR b room S) Q) w L) {t v : Int} (he : ¬ early S t) (hr : S.length = room) (hr1 : 1 ≤ room) (hr2 : room ≤ 4096) :
    Calls Try.prog 26 #[.pointer (some ⟨b, 0, none⟩), .int .i64 t, .int .i64 v] w (Goes (.int .i64 11) B w0 (sepR (refR b room S) Q) L) := by
  rcases notEarly he with h0 | ⟨x, hx, hlt, hpos⟩
  · omega
  obtain ⟨a, c, hb, hsl, hnil⟩ := h.refAt
  obtain ⟨c0, c1⟩ := cells2 hb
  have hbl := lt_of_obj hb
  have hcap := hsl.2.1
  have g1 : decide ((S.length : Int) > 0) = true := by rw [decide_eq_true_eq]; omega
  have g1' : (0 : Int) < (S.length : Int) := by omega
  have e1 : IntKind.i64.wrap ((S.length : Int) - 1) = ((S.length - 1 : Nat) : Int) := by rw [IntWalk.i64_in _ (by omega)]; omega
  have i0 : (0 : Int) ≤ ((S.length - 1 : Nat) : Int) := by omega
  have i1 : ((S.length - 1 : Nat) : Int) < (S.length : Int) := by omega
  have g2 : decide (t < x.at_) = false := by rw [decide_eq_false_iff_not]; exact hlt
  obtain ⟨g, off, y, rfl, hg, hy, hcell⟩ := hsl.at_ (i := S.length - 1) (by omega)
  rw [hx] at hy
  cases hy
  have p0 := hcell 0 _ rfl
  simp only [Nat.add_zero] at p0
  have g3 : decide ((S.length : Int) ≥ (room : Int)) = true := by rw [decide_eq_true_eq]; omega
  have g3' : (room : Int) ≤ (S.length : Int) := by omega
  have H0 := Lib.hid h
  clear h hb hsl hnil hcell hx he hlt hpos hr
  go_enter Try.func26, Try.ntmps26
  go_wp2_with fail
  go_ret
  exact ⟨rfl, H0.out⟩

set_option maxHeartbeats 4000000 in
theorem rpush_ok (hQ : Stable Q) {b room : Nat} {S : List It} (h : Holds B w0 (sepR (refR b room S) Q) w L) {t v : Int} (he : ¬ early S t) (hr : S.length < room) (hr2 : room ≤ 4096) :
    Calls Try.prog 26 #[.pointer (some ⟨b, 0, none⟩), .int .i64 t, .int .i64 v] w (Goes (.int .i64 0) B w0 (sepR (refR b room (S ++ [⟨t, v⟩])) Q) L) := by
  have hs := sepR_stable (refR_stable b room S) hQ
  have h1 := h.made hs ((Frm.refl _ _).alloc (.cells #[.int .i64 t, .int .i64 v] 44))
  obtain ⟨a0, ca, h2⟩ := h1.refOpen
  have hQb : Stable (sepR (boxR b #[.int .i64 (room : Int), .slice a0 S.length ca] 32) Q) := sepR_stable (boxR_stable _ _ _) hQ
  obtain ⟨a4, c4, w4, hrun, h4⟩ := (h2.conv Conv.exch).offAppend hQb (by omega) ⟨t, v⟩ (obj_new w _) 30
  have h5 := h4.conv Conv.exch
  have hb5 := h5.theBox
  have z1 := (cells2 hb5).2
  have fz := fun k => frozen_of_obj hb5 k
  have hbl5 := lt_of_obj hb5
  have h6 := h5.boxPut (sepR_stable (OffAt_stable _ _ _ _) hQ) 1 (.slice a4 (S.length + 1) c4)
  have hfin : Holds B w0 (sepR (refR b room (S ++ [⟨t, v⟩])) Q) (w4.setCell ⟨b, 1, none⟩ (.slice a4 (S.length + 1) c4)) L := by
    refine Holds.refShut (a := a4) (c := c4) ?_
    rw [show (S ++ [(⟨t, v⟩ : It)]).length = S.length + 1 by simp]
    exact h6
  obtain ⟨c0', c1'⟩ := cells2 h2.theBox
  have hbx := h2.theBox
  have hb0 : w.heap[b]? = some (.cells #[.int .i64 (room : Int), .slice a0 S.length ca] 32) := by
    obtain ⟨a, c, hb, _⟩ := h.refAt
    have := obj_alloc hb (.cells #[.int .i64 t, .int .i64 v] 44)
    rw [hbx] at this
    rw [this]
    exact hb
  obtain ⟨c0, c1⟩ := cells2 hb0
  have hbl := lt_of_obj hb0
  have hsl := (h2.conv Conv.exch).off.1
  have g3 : decide ((S.length : Int) ≥ (room : Int)) = false := by rw [decide_eq_false_iff_not]; omega
  have g3' : ¬ (room : Int) ≤ (S.length : Int) := by omega
  have Hrun := Lib.hid hrun
  have Hfin := Lib.hid hfin
  rcases notEarly he with h0 | ⟨x, hx, hlt, hpos⟩
  · have g1 : decide ((S.length : Int) > 0) = false := by rw [decide_eq_false_iff_not]; omega
    have g1' : ¬ (0 : Int) < (S.length : Int) := by omega
    clear h h1 h2 hrun h4 h5 hb5 h6 hfin hbx hb0 hsl he h0 c0' c1' hr
    go_enter Try.func26, Try.ntmps26
    go_wp2_with (refine Lib.wpList_append_run _ rfl _ _ _ _ rfl _ _ rfl rfl _ _ Hrun.out ?_)
    go_ret
    exact ⟨rfl, Hfin.out⟩
  · obtain ⟨a, c, hb, hsl2, _⟩ := h.refAt
    rw [hb0] at hb
    simp only [Option.some.injEq, Obj.cells.injEq, and_true, Array.mk.injEq, List.cons.injEq, true_and, Value.slice.injEq] at hb
    obtain ⟨rfl, rfl⟩ := hb
    obtain ⟨g, off, y, ha, hg, hy, hcell⟩ := hsl2.at_ (i := S.length - 1) (by omega)
    rw [hx] at hy
    cases hy
    subst ha
    have p0 := hcell 0 _ rfl
    simp only [Nat.add_zero] at p0
    have hcap := hsl2.2.1
    have g1 : decide ((S.length : Int) > 0) = true := by rw [decide_eq_true_eq]; omega
    have g1' : (0 : Int) < (S.length : Int) := by omega
    have e1 : IntKind.i64.wrap ((S.length : Int) - 1) = ((S.length - 1 : Nat) : Int) := by rw [IntWalk.i64_in _ (by omega)]; omega
    have i0 : (0 : Int) ≤ ((S.length - 1 : Nat) : Int) := by omega
    have i1 : ((S.length - 1 : Nat) : Int) < (S.length : Int) := by omega
    have g2 : decide (t < x.at_) = false := by rw [decide_eq_false_iff_not]; exact hlt
    clear h h1 h2 hrun h4 h5 hb5 h6 hfin hbx hb0 hsl he c0' c1' hr hlt hpos hsl2 hcell hx
    go_enter Try.func26, Try.ntmps26
    go_wp2_with (refine Lib.wpList_append_run _ rfl _ _ _ _ rfl _ _ rfl rfl _ _ Hrun.out ?_)
    go_ret
    exact ⟨rfl, Hfin.out⟩

theorem rpush_goes (hQ : Stable Q) {b room : Nat} {S : List It} (h : Holds B w0 (sepR (refR b room S) Q) w L) (hm : S.length ≤ room) (hr1 : 1 ≤ room) (hr2 : room ≤ 4096) (t v : Int) :
    Calls Try.prog 26 #[.pointer (some ⟨b, 0, none⟩), .int .i64 t, .int .i64 v] w (Goes (.int .i64 (pushE room S t)) B w0 (sepR (refR b room (pushS room S ⟨t, v⟩)) Q) L) := by
  unfold pushE pushS
  by_cases he : early S t
  · rw [if_pos he, if_pos he]
    exact rpush_early h (by omega) he
  · rw [if_neg he, if_neg he]
    by_cases hf : S.length = room
    · rw [if_pos hf, if_pos hf]
      exact rpush_full h he hf hr1 hr2
    · rw [if_neg hf, if_neg hf]
      exact rpush_ok hQ h he (by omega) hr2
end
end Go.Proofs.Ythamnalpkjjnlaa
