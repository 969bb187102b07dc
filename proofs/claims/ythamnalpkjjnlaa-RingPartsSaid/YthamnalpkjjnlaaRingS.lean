/- A ring's search: the closures, sort.Search, ahead, Upto. -/
import Derived.Test.YthamnalpkjjnlaaRingA
import Derived.Deep.RegionHeld3
import Derived.Deep.DrawnRows
import Derived.BigRegion
namespace Go.Proofs.Ythamnalpkjjnlaa
open Go.RowKit Go.Maps

set_option maxHeartbeats 400000 in
theorem cBack_any {w : World} {bx : Nat} {x : Int} (hx : w.cell? ⟨bx, 0, none⟩ = some (.int .i64 x)) (t : Int) : Calls Try.prog 36 #[.int .i64 t, .pointer (some ⟨bx, 0, none⟩)] w fun e w' => e = .returned (.bool (decide (t ≥ x))) ∧ w' = w := by
  go_enter Try.func36, Try.ntmps36
  go_wp2_with fail
  go_ret
  exact ⟨rfl, rfl⟩
set_option maxHeartbeats 400000 in
theorem cFront_any {w : World} {bx : Nat} {x : Int} (hx : w.cell? ⟨bx, 0, none⟩ = some (.int .i64 x)) (t : Int) : Calls Try.prog 38 #[.int .i64 t, .pointer (some ⟨bx, 0, none⟩)] w fun e w' => e = .returned (.bool (decide (t ≥ x))) ∧ w' = w := by
  go_enter Try.func38, Try.ntmps38
  go_wp2_with fail
  go_ret
  exact ⟨rfl, rfl⟩
set_option maxHeartbeats 400000 in
theorem cUpto_any {w : World} {bx : Nat} {x : Int} (hx : w.cell? ⟨bx, 0, none⟩ = some (.int .i64 x)) (t : Int) : Calls Try.prog 41 #[.int .i64 t, .pointer (some ⟨bx, 0, none⟩)] w fun e w' => e = .returned (.bool (decide (t > x))) ∧ w' = w := by
  go_enter Try.func41, Try.ntmps41
  go_wp2_with fail
  go_ret
  exact ⟨rfl, rfl⟩

/-- A closure over times. -/
structure Late (g : FuncId) (bx : Nat) (p : Int → Bool) (w : World) : Prop where
  id : g = 36 ∨ g = 38 ∨ g = 41
  says : ∀ w', Frm [] w w' → ∀ t, Calls Try.prog g #[.int .i64 t, .pointer (some ⟨bx, 0, none⟩)] w' fun e w'' => e = .returned (.bool (p t)) ∧ w'' = w'

theorem it_field (x : It) (w : World) : (Instr.field 66 (.agg #[.int .i64 x.at_, .int .i64 x.v]) 0).run Try.prog w = .ok (.int .i64 x.at_) w := by kernel_rfl
set_option maxHeartbeats 1000000 in
theorem ahead1_B {w : World} {b room : Nat} {S : List It} (h : RingAt w b room S) {i : Nat} {x : It} (hx : S[i]? = some x) {bx lb rb : Nat} {p : Int → Bool}
    (hg : ∀ w', Frm [] w w' → ∀ t, Calls Try.prog 36 #[.int .i64 t, .pointer (some ⟨bx, 0, none⟩)] w' fun e w'' => e = .returned (.bool (p t)) ∧ w'' = w')
    (hl : w.cell? ⟨lb, 0, none⟩ = some (.func (.func 36) #[] #[.pointer (some ⟨bx, 0, none⟩)])) (hr : w.cell? ⟨rb, 0, none⟩ = some (.pointer (some ⟨b, 0, none⟩))) :
    Calls Try.prog 47 #[.int .i64 (i : Int), .pointer (some ⟨lb, 0, none⟩), .pointer (some ⟨rb, 0, none⟩)] w (Says (.bool (p x.at_)) w) := by
  have hgs := fun w' (hf : Frm [] w w') => get_says (h.frm hf) hx
  have hcs := fun w' (hf : Frm [] w w') => hg w' hf x.at_
  have Hgs := Lib.hid hgs
  have Hcs := Lib.hid hcs
  generalize p x.at_ = pv at Hcs ⊢
  have hfd := it_field x
  clear h hx hgs hcs hg
  go_enter Try.func47, Try.ntmps47
  go_wp2_with fail
  go_region_held3 (fun w' => w'.cell? ⟨lb, 0, none⟩ = some (.func (.func 36) #[] #[.pointer (some ⟨bx, 0, none⟩)]) ∧ w'.cell? ⟨rb, 0, none⟩ = some (.pointer (some ⟨b, 0, none⟩)))
    (first | go_keep | exact ⟨hf.cell hl (by simp), hf.cell hr (by simp)⟩)
    ((first | (go_at_call 42; refine (Hgs.out _ ?_).mono ?_; (exact (Frm.refl _ _).drew); rintro e w1 ⟨rfl, hf⟩) | (refine (Hcs.out _ ?_).mono ?_; (exact ((Frm.refl _ _).drew).trans hf (by simp)); rintro e w2 ⟨rfl, rfl⟩)))
  go_wp2_with fail
  go_ret
  exact ⟨rfl, ((Frm.refl _ _).drew).trans hf (by simp)⟩
set_option maxHeartbeats 1000000 in
theorem ahead1_F {w : World} {b room : Nat} {S : List It} (h : RingAt w b room S) {i : Nat} {x : It} (hx : S[i]? = some x) {bx lb rb : Nat} {p : Int → Bool}
    (hg : ∀ w', Frm [] w w' → ∀ t, Calls Try.prog 38 #[.int .i64 t, .pointer (some ⟨bx, 0, none⟩)] w' fun e w'' => e = .returned (.bool (p t)) ∧ w'' = w')
    (hl : w.cell? ⟨lb, 0, none⟩ = some (.func (.func 38) #[] #[.pointer (some ⟨bx, 0, none⟩)])) (hr : w.cell? ⟨rb, 0, none⟩ = some (.pointer (some ⟨b, 0, none⟩))) :
    Calls Try.prog 47 #[.int .i64 (i : Int), .pointer (some ⟨lb, 0, none⟩), .pointer (some ⟨rb, 0, none⟩)] w (Says (.bool (p x.at_)) w) := by
  have hgs := fun w' (hf : Frm [] w w') => get_says (h.frm hf) hx
  have hcs := fun w' (hf : Frm [] w w') => hg w' hf x.at_
  have Hgs := Lib.hid hgs
  have Hcs := Lib.hid hcs
  generalize p x.at_ = pv at Hcs ⊢
  have hfd := it_field x
  clear h hx hgs hcs hg
  go_enter Try.func47, Try.ntmps47
  go_wp2_with fail
  go_region_held3 (fun w' => w'.cell? ⟨lb, 0, none⟩ = some (.func (.func 38) #[] #[.pointer (some ⟨bx, 0, none⟩)]) ∧ w'.cell? ⟨rb, 0, none⟩ = some (.pointer (some ⟨b, 0, none⟩)))
    (first | go_keep | exact ⟨hf.cell hl (by simp), hf.cell hr (by simp)⟩)
    ((first | (go_at_call 42; refine (Hgs.out _ ?_).mono ?_; (exact (Frm.refl _ _).drew); rintro e w1 ⟨rfl, hf⟩) | (refine (Hcs.out _ ?_).mono ?_; (exact ((Frm.refl _ _).drew).trans hf (by simp)); rintro e w2 ⟨rfl, rfl⟩)))
  go_wp2_with fail
  go_ret
  exact ⟨rfl, ((Frm.refl _ _).drew).trans hf (by simp)⟩
set_option maxHeartbeats 1000000 in
theorem ahead1_U {w : World} {b room : Nat} {S : List It} (h : RingAt w b room S) {i : Nat} {x : It} (hx : S[i]? = some x) {bx lb rb : Nat} {p : Int → Bool}
    (hg : ∀ w', Frm [] w w' → ∀ t, Calls Try.prog 41 #[.int .i64 t, .pointer (some ⟨bx, 0, none⟩)] w' fun e w'' => e = .returned (.bool (p t)) ∧ w'' = w')
    (hl : w.cell? ⟨lb, 0, none⟩ = some (.func (.func 41) #[] #[.pointer (some ⟨bx, 0, none⟩)])) (hr : w.cell? ⟨rb, 0, none⟩ = some (.pointer (some ⟨b, 0, none⟩))) :
    Calls Try.prog 47 #[.int .i64 (i : Int), .pointer (some ⟨lb, 0, none⟩), .pointer (some ⟨rb, 0, none⟩)] w (Says (.bool (p x.at_)) w) := by
  have hgs := fun w' (hf : Frm [] w w') => get_says (h.frm hf) hx
  have hcs := fun w' (hf : Frm [] w w') => hg w' hf x.at_
  have Hgs := Lib.hid hgs
  have Hcs := Lib.hid hcs
  generalize p x.at_ = pv at Hcs ⊢
  have hfd := it_field x
  clear h hx hgs hcs hg
  go_enter Try.func47, Try.ntmps47
  go_wp2_with fail
  go_region_held3 (fun w' => w'.cell? ⟨lb, 0, none⟩ = some (.func (.func 41) #[] #[.pointer (some ⟨bx, 0, none⟩)]) ∧ w'.cell? ⟨rb, 0, none⟩ = some (.pointer (some ⟨b, 0, none⟩)))
    (first | go_keep | exact ⟨hf.cell hl (by simp), hf.cell hr (by simp)⟩)
    ((first | (go_at_call 42; refine (Hgs.out _ ?_).mono ?_; (exact (Frm.refl _ _).drew); rintro e w1 ⟨rfl, hf⟩) | (refine (Hcs.out _ ?_).mono ?_; (exact ((Frm.refl _ _).drew).trans hf (by simp)); rintro e w2 ⟨rfl, rfl⟩)))
  go_wp2_with fail
  go_ret
  exact ⟨rfl, ((Frm.refl _ _).drew).trans hf (by simp)⟩

/-- Any of the three. -/
def AheadFn (g : FuncId) : Prop := g = 36 ∨ g = 38 ∨ g = 41
theorem ahead1_says {w : World} {b room : Nat} {S : List It} (h : RingAt w b room S) {i : Nat} {x : It} (hx : S[i]? = some x) {g : FuncId} {bx lb rb : Nat} {p : Int → Bool} (hid : AheadFn g)
    (hg : ∀ w', Frm [] w w' → ∀ t, Calls Try.prog g #[.int .i64 t, .pointer (some ⟨bx, 0, none⟩)] w' fun e w'' => e = .returned (.bool (p t)) ∧ w'' = w')
    (hl : w.cell? ⟨lb, 0, none⟩ = some (.func (.func g) #[] #[.pointer (some ⟨bx, 0, none⟩)])) (hr : w.cell? ⟨rb, 0, none⟩ = some (.pointer (some ⟨b, 0, none⟩))) :
    Calls Try.prog 47 #[.int .i64 (i : Int), .pointer (some ⟨lb, 0, none⟩), .pointer (some ⟨rb, 0, none⟩)] w (Says (.bool (p x.at_)) w) := by
  rcases hid with rfl | rfl | rfl
  · exact ahead1_B h hx hg hl hr
  · exact ahead1_F h hx hg hl hr
  · exact ahead1_U h hx hg hl hr

/-- How many of the first ones are not yet late. -/
def cnt (p : Int → Bool) (S : List It) : Nat := (S.takeWhile fun x => !p x.at_).length
theorem cnt_le (p : Int → Bool) (S : List It) : cnt p S ≤ S.length := (List.takeWhile_sublist _).length_le
theorem cnt_of {p : Int → Bool} {S : List It} {k : Nat} (hk : k ≤ S.length) (h1 : ∀ i x, i < k → S[i]? = some x → p x.at_ = false) (h2 : ∀ x, S[k]? = some x → p x.at_ = true) : cnt p S = k := by
  unfold cnt
  induction S generalizing k with
  | nil => simp at hk; subst hk; rfl
  | cons y S ih =>
    cases k with
    | zero =>
      have := h2 y rfl
      rw [List.takeWhile_cons, this]
      rfl
    | succ k =>
      have := h1 0 y (by omega) rfl
      rw [List.takeWhile_cons, this]
      simp only [Bool.not_false, if_true, List.length_cons]
      rw [ih (k := k) (by simpa using hk) (fun i x hi hx => h1 (i + 1) x (by omega) hx) (fun x hx => h2 x hx)]

set_option maxHeartbeats 1000000 in
/-- sort.Search, of a question that only makes memory. -/
theorem search_says {w : World} {n : Nat} (hn : n ≤ 4096) {lb rb : Nat} (q : Nat → Bool)
    (hq : ∀ w', Frm [] w w' → ∀ i, i < n → Calls Try.prog 47 #[.int .i64 (i : Int), .pointer (some ⟨lb, 0, none⟩), .pointer (some ⟨rb, 0, none⟩)] w' (Says (.bool (q i)) w'))
    (hm : ∀ i j, i ≤ j → j < n → q i = true → q j = true) :
    Calls Try.prog 46 #[.int .i64 (n : Int), .func (.func 47) #[] #[.pointer (some ⟨lb, 0, none⟩), .pointer (some ⟨rb, 0, none⟩)]] w
      fun e w' => (∃ k : Nat, e = .returned (.int .i64 (k : Int)) ∧ k ≤ n ∧ (∀ i, i < k → q i = false) ∧ (∀ i, k ≤ i → i < n → q i = true)) ∧ Frm [] w w' := by
  have Hq := Lib.hid hq
  have Hm := Lib.hid hm
  clear hq hm
  go_enter Try.func46, Try.ntmps46
  go_wp2
  go_loopw [5, 6] (fun s5 s6 wr => ∃ lo hi : Nat, s5 = .int .i64 (lo : Int) ∧ s6 = .int .i64 (hi : Int) ∧ lo ≤ hi ∧ hi ≤ n ∧ (∀ i, i < lo → q i = false) ∧ (∀ i, hi ≤ i → i < n → q i = true) ∧ Frm [] w wr)
    (fun s5 s6 _ => (intOf s6).toNat - (intOf s5).toNat)
  case atStart => exact ⟨0, n, rfl, rfl, Nat.zero_le _, Nat.le_refl _, fun i hi => absurd hi (Nat.not_lt_zero _), fun i h1 h2 => by omega, Frm.refl _ _⟩
  case round =>
    obtain ⟨lo, hi, rfl, rfl, hlh, hin, hlo, hhi, hF⟩ := hrel
    have Hlo := Lib.hid hlo
    have Hhi := Lib.hid hhi
    have HF := Lib.hid hF
    clear hlo hhi hF
    by_cases hlt : lo < hi
    · obtain ⟨m, hm⟩ : ∃ m : Nat, m = (lo + hi) / 2 := ⟨_, rfl⟩
      have hc := Hq.out _ HF.out m (by omega)
      rw [show (m : Int) = ((lo : Int) + (hi : Int)) / 2 by omega] at hc
      have HM := Lib.hid hm
      cases hp : q m <;> rw [hp] at hc
      · have Hc := Lib.hid hc
        have Hp := Lib.hid hp
        clear hc hp hm
        go_wp2_with fail
        refine Hc.out.mono ?_
        rintro e w1 ⟨rfl, hf⟩
        have HF1 := Lib.hid (HF.out.trans hf (by simp))
        clear hf Hc
        go_wp2_with fail
        have hm := HM.out
        go_roundw
        case rel =>
          refine ⟨m + 1, hi, by rw [show ((lo : Int) + (hi : Int)) / 2 + 1 = ((m + 1 : Nat) : Int) by omega], rfl, by omega, hin, fun i hi' => ?_, Hhi.out, HF1.out⟩
          cases hqi : q i with
          | false => rfl
          | true => have := Hm.out i m (by omega) (by omega) hqi; rw [Hp.out] at this; cases this
        case measure => simp [intOf]; omega
      · have Hc := Lib.hid hc
        have Hp := Lib.hid hp
        clear hc hp hm
        go_wp2_with fail
        refine Hc.out.mono ?_
        rintro e w1 ⟨rfl, hf⟩
        have HF1 := Lib.hid (HF.out.trans hf (by simp))
        clear hf Hc
        go_wp2_with fail
        have hm := HM.out
        go_roundw
        case rel =>
          exact ⟨lo, m, rfl, by rw [show ((lo : Int) + (hi : Int)) / 2 = (m : Int) by omega], by omega, by omega, Hlo.out, fun i h1 h2 => Hm.out m i h1 h2 Hp.out, HF1.out⟩
        case measure => simp [intOf]; omega
    · obtain rfl : hi = lo := by omega
      go_wp2_with fail
      go_ret
      exact ⟨⟨hi, rfl, hin, Hlo.out, Hhi.out⟩, HF.out⟩

set_option maxHeartbeats 1000000 in
/-- How many things come ahead of the first late one. -/
theorem ahead_says {w : World} {b room : Nat} {S : List It} (h : RingAt w b room S) (hS : Rise S) {g : FuncId} {bx : Nat} {p : Int → Bool} (hid : AheadFn g) (hp : ∀ x y, x ≤ y → p x = true → p y = true)
    (hg : ∀ w', Frm [] w w' → ∀ t, Calls Try.prog g #[.int .i64 t, .pointer (some ⟨bx, 0, none⟩)] w' fun e w'' => e = .returned (.bool (p t)) ∧ w'' = w') :
    Calls Try.prog 35 #[.pointer (some ⟨b, 0, none⟩), .func (.func g) #[] #[.pointer (some ⟨bx, 0, none⟩)]] w (Says (.int .i64 (cnt p S : Int)) w) := by
  have hF0 := ((Frm.refl [] w).alloc (.cells #[.pointer (some ⟨b, 0, none⟩)] 23)).alloc (.cells #[.func (.func g) #[] #[.pointer (some ⟨bx, 0, none⟩)]] 69)
  have hl := len_says (h.frm hF0)
  have hm := h.many
  have hrb : ((w.alloc (.cells #[.pointer (some ⟨b, 0, none⟩)] 23)).alloc (.cells #[.func (.func g) #[] #[.pointer (some ⟨bx, 0, none⟩)]] 69)).cell? ⟨w.heap.size, 0, none⟩ = some (.pointer (some ⟨b, 0, none⟩)) := cells1 (obj_alloc (obj_new w _) _)
  have hlb : ((w.alloc (.cells #[.pointer (some ⟨b, 0, none⟩)] 23)).alloc (.cells #[.func (.func g) #[] #[.pointer (some ⟨bx, 0, none⟩)]] 69)).cell? ⟨w.heap.size + 1, 0, none⟩ = some (.func (.func g) #[] #[.pointer (some ⟨bx, 0, none⟩)]) := by
    have := cells1 (obj_new (w.alloc (.cells #[.pointer (some ⟨b, 0, none⟩)] 23)) (.cells #[.func (.func g) #[] #[.pointer (some ⟨bx, 0, none⟩)]] 69))
    simp only [World.size_alloc] at this
    exact this
  have hs := search_says (w := (w.alloc (.cells #[.pointer (some ⟨b, 0, none⟩)] 23)).alloc (.cells #[.func (.func g) #[] #[.pointer (some ⟨bx, 0, none⟩)]] 69)) hm (lb := w.heap.size + 1) (rb := w.heap.size)
    (fun i => p ((S[i]?).getD zeroIt).at_)
    (fun w' hf i hi => by
      obtain ⟨x, hx⟩ : ∃ x, S[i]? = some x := ⟨_, List.getElem?_eq_getElem hi⟩
      rw [hx]
      exact ahead1_says ((h.frm hF0).frm hf) hx hid (fun w'' hf' => hg w'' ((hF0.trans hf (by simp)).trans hf' (by simp))) (hf.cell hlb (by simp)) (hf.cell hrb (by simp)))
    (fun i j hij hj hpi => by
      obtain ⟨x, hx⟩ : ∃ x, S[i]? = some x := ⟨_, List.getElem?_eq_getElem (by omega)⟩
      obtain ⟨y, hy⟩ : ∃ y, S[j]? = some y := ⟨_, List.getElem?_eq_getElem hj⟩
      rw [hx] at hpi
      rw [hy]
      exact hp _ _ (hS.get hx hy hij) hpi)
  have Hl := Lib.hid hl
  have Hs := Lib.hid hs
  have HF0 := Lib.hid hF0
  clear hl hs hF0 h hS hg hp hid hlb
  go_enter Try.func35, Try.ntmps35
  go_wp2_with fail
  refine Hl.out.mono ?_
  rintro e w1 ⟨rfl, rfl⟩
  go_wp2_with fail
  refine Hs.out.mono ?_
  rintro e w2 ⟨⟨k, rfl, hk, h1, h2⟩, hf⟩
  have hc : cnt p S = k := cnt_of hk (fun i x hi hx => by have := h1 i hi; rw [hx] at this; exact this) (fun x hx => by
    have hkl := (List.getElem?_eq_some_iff.1 hx).1
    have := h2 k (Nat.le_refl _) hkl
    rw [hx] at this
    exact this)
  have Hf := Lib.hid (HF0.out.trans hf (by simp))
  have Hcn := Lib.hid hc
  clear hf h1 h2 hk hc
  go_wp2_with fail
  go_ret
  exact ⟨by rw [Hcn.out]; rfl, Hf.out⟩

set_option maxHeartbeats 1000000 in
theorem upto_says {w : World} {b room : Nat} {S : List It} (h : RingAt w b room S) (hS : Rise S) (t : Int) :
    Calls Try.prog 21 #[.pointer (some ⟨b, 0, none⟩), .int .i64 t] w (Says (tellT S (cnt (fun x => decide (x > t)) S)) w) := by
  have hF0 := (Frm.refl [] w).alloc (.cells #[.int .i64 t] 3)
  have hbx := cells1 (obj_new w (.cells #[.int .i64 t] 3))
  have ha := ahead_says (h.frm hF0) hS (g := 41) (bx := w.heap.size) (p := fun x => decide (x > t)) (.inr (.inr rfl)) (fun x y hxy hx => by simp at hx ⊢; omega) (fun w' hf u => cUpto_any (hf.cell hbx (by simp)) u)
  have ht := fun w' (hf : Frm [] w w') => tell_says (h.frm hf) (cnt_le (fun x => decide (x > t)) S)
  generalize cnt (fun x => decide (x > t)) S = k at ha ht ⊢
  have Ha := Lib.hid ha
  have Ht := Lib.hid ht
  have HF0 := Lib.hid hF0
  clear ha ht hF0 h hS hbx
  go_enter Try.func21, Try.ntmps21
  go_wp2_with fail
  refine Ha.out.mono ?_
  rintro e w1 ⟨rfl, hf⟩
  have Hf := Lib.hid (HF0.out.trans hf (by simp))
  clear hf
  go_wp2_with fail
  refine (Ht.out _ Hf.out).mono ?_
  rintro e w2 ⟨rfl, hf⟩
  have Hf2 := Lib.hid (Hf.out.trans hf (by simp))
  clear hf
  dsimp only [tellT]
  go_wp2_with fail
  exact bodyPost_ret (v := tellT S k) (by simp [results, Try.results21, go_sem]) rfl ⟨rfl, Hf2.out⟩
end Go.Proofs.Ythamnalpkjjnlaa
