/- Batches: the events of one time, together; its iterator hands out a copy of each. -/
import Derived.Test.YtagldjlaagphlaaSortV
import Derived.Test.YtagldjlaagphlaaApp
import Derived.Test.YtagldjlaagphlaaEach
import Derived.RangeFuncBound
import Derived.RangeFuncCalls
import Derived.RangeFuncLeaves
import Derived.Shelf.Abstract
import Derived.Shelf.RegionOpen
import Derived.OwnWalkIn
import Derived.TacticsInMore
import Derived.LoopNIn
import Derived.LoopIn
namespace Go.Proofs.Ytagldjlaagphlaa
open Go.RowKit Go.Maps Go.Shelf
attribute [local go_sem] Oper.semAt_some

/-- The first m are of one time, the next one is of another one. -/
def Tog (l : List Ev) (m : Nat) : Prop :=
  1 ≤ m ∧ m ≤ l.length ∧ ∀ h, l[0]? = some h → (∀ (i : Nat) (e : Ev), i < m → l[i]? = some e → e.k.at_ = h.k.at_) ∧ ∀ e, l[m]? = some e → e.k.at_ ≠ h.k.at_
theorem asc_at {l : List Ev} (h : Asc l) {i k : Nat} {a b : Ev} (hik : i ≤ k) (hi : l[i]? = some a) (hk : l[k]? = some b) : a.k.at_ ≤ b.k.at_ := by
  rcases Nat.lt_or_eq_of_le hik with hlt | rfl
  · have h1 : b.k.lt a.k = false := by
      unfold Asc at h
      rw [List.pairwise_iff_getElem] at h
      obtain ⟨hi', rfl⟩ := List.getElem?_eq_some_iff.1 hi
      obtain ⟨hk', rfl⟩ := List.getElem?_eq_some_iff.1 hk
      exact h i k hi' hk' hlt
    have h2 : ¬ (b.k.lt a.k = true) := by rw [h1]; simp
    rw [lt_iff] at h2
    omega
  · rw [hi] at hk
    cases hk
    exact Int.le_refl _
/-- Behind p events the time is another one. -/
def Part (S : List Ev) (p : Nat) : Prop := p ≤ S.length ∧ ∀ (i k : Nat) (a b : Ev), i < p → p ≤ k → S[i]? = some a → S[k]? = some b → a.k.at_ < b.k.at_
theorem part_more {S : List Ev} {p m : Nat} (hA : Asc S) (hp : Part S p) (ht : Tog (S.drop p) m) : Part S (p + m) := by
  obtain ⟨h1, h2⟩ := hp
  obtain ⟨t1, t2, t3⟩ := ht
  rw [List.length_drop] at t2
  refine ⟨by omega, fun i k a b hi hk ha hb => ?_⟩
  by_cases hip : i < p
  · exact h2 i k a b hip (by omega) ha hb
  · obtain ⟨f, hf⟩ : ∃ f, S[p]? = some f := ⟨_, List.getElem?_eq_getElem (by omega)⟩
    obtain ⟨t4, t5⟩ := t3 f (by rw [List.getElem?_drop]; exact hf)
    have e1 := t4 (i - p) a (by omega) (by rw [List.getElem?_drop, show p + (i - p) = i by omega]; exact ha)
    obtain ⟨g, hg⟩ : ∃ g, S[p + m]? = some g := ⟨_, List.getElem?_eq_getElem (by have := (List.getElem?_eq_some_iff.1 hb).1; omega)⟩
    have e2 := t5 g (by rw [List.getElem?_drop]; exact hg)
    have e3 := asc_at hA (by omega) hf hg
    have e4 := asc_at hA hk hg hb
    omega

set_option maxHeartbeats 1000000 in
theorem tog_any (w : World) (a : Option Addr) (n cap : Nat) (l : List Ev) (hl : EvsAt w a n cap l) (hn : n ≤ 400) (h0 : 0 < n) :
    Calls Try.prog 31 #[.slice a n cap] w fun e w' => ∃ m : Nat, e = .returned (.int .i64 (m : Int)) ∧ Tog l m ∧ Frm [] w w' := by
  obtain ⟨b1, o1, h, rfl, hb1, hh, z0, _⟩ := hl.at_ h0
  simp only [Nat.zero_mul, Nat.add_zero] at z0
  have hl1 := hl.1
  have gc1 := hl.2.1
  have Hl := Lib.hid hl
  have Hl1 := Lib.hid hl1
  have Hh := Lib.hid hh
  have Z0 := Lib.hid z0
  have gi0 : (0 : Int) < (n : Int) := by omega
  clear hl hl1 hh z0
  go_enter Try.func31, Try.ntmps31
  go_wp2_with fail
  go_loopw [3] (fun nv wr => ∃ m : Nat, 1 ≤ m ∧ m ≤ n ∧ nv = .int .i64 (m : Int) ∧ (∀ (i : Nat) (e : Ev), i < m → l[i]? = some e → e.k.at_ = h.k.at_) ∧ Frm [] w wr) (fun nv _ => n - (intOf nv).toNat)
  case atStart =>
    refine ⟨1, Nat.le_refl _, h0, rfl, fun i e hi he => ?_, Frm.refl _ _⟩
    obtain rfl : i = 0 := by omega
    rw [Hh.out] at he
    cases he
    rfl
  case round =>
    obtain ⟨m, hm1, hm, rfl, hall, hF⟩ := hrel
    have HF := Lib.hid hF
    have Hall := Lib.hid hall
    clear hF hall
    by_cases hlt : m < n
    · have q0 := HF.out.cell Z0.out (by simp)
      obtain ⟨_, _, x, he1, _, hx, p0, _⟩ := (Hl.out.frm HF.out).at_ hlt
      simp only [Option.some.injEq, Addr.mk.injEq, and_true] at he1
      obtain ⟨rfl, rfl⟩ := he1
      have Hx := Lib.hid hx
      have gd : decide ((m : Int) < (n : Int)) = true := by rw [decide_eq_true_eq]; omega
      have gd' : decide (m < n) = true := by rw [decide_eq_true_eq]; omega
      have gb1 : (0 : Int) ≤ (m : Int) := by omega
      have gb2 : (m : Int) < (n : Int) := by omega
      clear hx
      by_cases hat : x.k.at_ = h.k.at_
      · have ge : (x.k.at_ == h.k.at_) = true := by rw [beq_iff_eq]; exact hat
        have Hat := Lib.hid hat
        clear hat
        go_wp2_with fail
        go_quiet (fail)
        go_wp2_with fail
        go_roundw
        case rel =>
          refine ⟨m + 1, by omega, by omega, by go_num, fun i e hi he => ?_, HF.out.drewN _⟩
          by_cases hik : i < m
          · exact Hall.out i e hik he
          · obtain rfl : i = m := by omega
            rw [Hx.out] at he
            cases he
            exact Hat.out
        case measure => simp [intOf]; omega
      · have ge : (x.k.at_ == h.k.at_) = false := by rw [beq_eq_false_iff_ne]; exact hat
        have Hat := Lib.hid hat
        clear hat
        go_wp2_with fail
        go_quiet (fail)
        go_wp2_with fail
        go_ret
        refine ⟨m, rfl, ⟨hm1, by rw [Hl1.out]; exact hm, fun g hg => ?_⟩, HF.out.drewN _⟩
        rw [Hh.out] at hg
        cases hg
        exact ⟨Hall.out, fun e he => by rw [Hx.out] at he; cases he; exact Hat.out⟩
    · obtain rfl : m = n := by omega
      have gd : decide ((m : Int) < (m : Int)) = false := by simp
      have gd' : decide (m < m) = false := by simp
      go_wp2_with fail
      go_quiet (fail)
      go_wp2_with fail
      go_ret
      refine ⟨m, rfl, ⟨hm1, by rw [Hl1.out]; exact Nat.le_refl _, fun g hg => ?_⟩, HF.out.drewN _⟩
      rw [Hh.out] at hg
      cases hg
      exact ⟨Hall.out, fun e he => absurd (List.getElem?_eq_some_iff.1 he).1 (by rw [Hl1.out]; omega)⟩

/-- What Batches does, beside what is held: a box that holds what is in order, and a function of it. -/
def BatGoes (l : List Ev) (n : Nat) (B : Nat) (w0 : World) (R : World → List Nat → Prop) (L : List (Nat × Obj)) (e : Ending) (w' : World) : Prop :=
  ∃ (a : Option Addr) (c : Nat) (r : List Ev) (g : Nat), e = .returned (.func (.func 30) #[] #[.pointer (some ⟨g, 0, none⟩)]) ∧ Asc r ∧ Alike l r ∧ r.length = n ∧ (a = none → n = 0 ∧ c = 0) ∧
    Holds B w0 (sepR (rowR 25 7 (.slice a n c) n (evCells r)) R) w' ((g, .cells #[.slice a n c] 35) :: L)
set_option maxHeartbeats 1000000 in
theorem batches_goes {R : World → List Nat → Prop} {B : Nat} {w0 w : World} {L : List (Nat × Obj)} (hR : Stable R) (h : Holds B w0 R w L) {a : Option Addr} {n cap : Nat} {l : List Ev} (hl : EvsAt w a n cap l) (hn : n ≤ 400) (hnil : a = none → n = 0 ∧ cap = 0) :
    Calls Try.prog 20 #[.slice a n cap] w (BatGoes l n B w0 R L) := by
  have H := Lib.hid h
  have Hl := Lib.hid hl
  have Hnil := Lib.hid hnil
  clear h hl hnil
  go_enter Try.func20, Try.ntmps20
  go_wp2_with fail
  refine (sort_goesN hR H.out Hl.out hn Hnil.out).mono ?_
  rintro e w1 ⟨a1, c1, r, rfl, r1, r2, r3, r4, h1⟩
  have h2 := h1.alloc (sepR_stable (rowR_stable _ _ _ _ _) hR) (.cells #[.slice a1 n c1] 35)
  have H2 := Lib.hid h2
  have R1 := Lib.hid r1
  have R2 := Lib.hid r2
  have R3 := Lib.hid r3
  have R4 := Lib.hid r4
  clear h1 h2 r1 r2 r3 r4
  go_wp2_with fail
  go_ret
  exact ⟨a1, c1, r, w1.heap.size, rfl, R1.out, R2.out, R3.out, R4.out, H2.out⟩
end Go.Proofs.Ytagldjlaagphlaa
