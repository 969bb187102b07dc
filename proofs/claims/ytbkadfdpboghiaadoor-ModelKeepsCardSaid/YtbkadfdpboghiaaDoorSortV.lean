/- Two lists of events are compared; Sort beside what is held. -/
import Derived.Test.YtbkadfdpboghiaaDoorSortU
import Derived.Test.YtbkadfdpboghiaaDoorModKeys
namespace Go.Proofs.YtbkadfdpboghiaaDoor
open Go.RowKit Go.Maps

theorem evs_same {l m : List Ev} (hl : l.length = m.length) (h : ∀ (i : Nat) (a b : Ev), l[i]? = some a → m[i]? = some b → a = b) : l = m := by
  refine List.ext_getElem? fun i => ?_
  by_cases hi : i < l.length
  · rw [List.getElem?_eq_getElem hi, List.getElem?_eq_getElem (by omega)]
    exact congrArg some (h i _ _ (List.getElem?_eq_getElem hi) (List.getElem?_eq_getElem (by omega)))
  · rw [List.getElem?_eq_none (by omega), List.getElem?_eq_none (by omega)]

attribute [local go_sem high] event_neq event_guard in
set_option maxHeartbeats 1000000 in
theorem events_any (w : World) (a1 : Option Addr) (n1 c1 : Nat) (l : List Ev) (a2 : Option Addr) (n2 c2 : Nat) (m : List Ev) (hl : EvsAt w a1 n1 c1 l) (hm : EvsAt w a2 n2 c2 m) (hn : n1 ≤ 400) :
    Calls Tryd.prog 18 #[.slice a1 n1 c1, .slice a2 n2 c2] w (Says (.bool (decide (l = m))) w) := by
  have hl1 := hl.1
  have hm1 := hm.1
  have Hl := Lib.hid hl
  have Hm := Lib.hid hm
  clear hl hm
  by_cases hne : n1 = n2
  · subst hne
    have Hl1 := Lib.hid hl1
    have Hm1 := Lib.hid hm1
    clear hl1 hm1
    go_enter Tryd.func18, Tryd.ntmps18
    go_wp2
    go_loopw [5] (fun iv wr => ∃ k : Nat, k ≤ n1 ∧ iv = .int .i64 (k : Int) ∧ (∀ (i : Nat) (a b : Ev), i < k → l[i]? = some a → m[i]? = some b → a = b) ∧ Frm [] w wr) (fun iv _ => n1 - (intOf iv).toNat)
    case atStart => exact ⟨0, Nat.zero_le _, rfl, fun i _ _ h => absurd h (Nat.not_lt_zero _), Frm.refl _ _⟩
    case round =>
      obtain ⟨k, hk, rfl, hsame, hF⟩ := hrel
      have HF := Lib.hid hF
      have Hsame := Lib.hid hsame
      clear hF hsame
      by_cases hlt : k < n1
      · obtain ⟨b1, o1, x, rfl, hb1, hx, p0, p1, p2, p3, p4, p5, p6⟩ := (Hl.out.frm HF.out).at_ hlt
        obtain ⟨b2, o2, y, rfl, hb2, hy, q0, q1, q2, q3, q4, q5, q6⟩ := (Hm.out.frm HF.out).at_ hlt
        have hc1 := Hl.out.2.1
        have hc2 := Hm.out.2.1
        have Hx := Lib.hid hx
        have Hy := Lib.hid hy
        clear hx hy
        by_cases hxy : x = y
        · subst hxy
          have hd : (decide (x = x)) = true := by simp
          go_wp2_with fail
          go_quiet (fail)
          go_wp2_with fail
          go_roundw
          case rel =>
            refine ⟨k + 1, by omega, by go_num, fun i a b hi ha hb => ?_, HF.out.drewN _⟩
            by_cases hik : i < k
            · exact Hsame.out i a b hik ha hb
            · obtain rfl : i = k := by omega
              rw [Hx.out] at ha
              rw [Hy.out] at hb
              cases ha
              cases hb
              rfl
          case measure => simp [intOf]; omega
        · have hd : (decide (x = y)) = false := by simpa using hxy
          have hne : decide (l = m) = false := by
            rw [decide_eq_false_iff_not]
            intro e
            subst e
            rw [Hx.out] at Hy
            exact hxy (Option.some.inj Hy.out)
          have Hne := Lib.hid hne
          clear hne hxy
          go_wp2_with fail
          go_quiet (fail)
          go_wp2_with fail
          go_ret
          rw [Hne.out]
          exact ⟨rfl, HF.out.drewN _⟩
      · obtain rfl : k = n1 := by omega
        have hlm : decide (l = m) = true := by
          rw [decide_eq_true_eq]
          exact evs_same (Hl1.out.trans Hm1.out.symm) fun i a b ha hb => Hsame.out i a b (by have := (List.getElem?_eq_some_iff.1 ha).1; have := Hl1.out; omega) ha hb
        have Hlm := Lib.hid hlm
        clear hlm
        go_wp2_with fail
        go_ret
        rw [Hlm.out]
        exact ⟨rfl, HF.out⟩
  · have hlm : decide (l = m) = false := by
      rw [decide_eq_false_iff_not]
      intro e
      subst e
      omega
    have g : ((n1 : Int) != (n2 : Int)) = true := by rw [bne_iff_ne]; omega
    have g' : (n1 != n2) = true := by rw [bne_iff_ne]; omega
    have Hlm := Lib.hid hlm
    clear hlm hne hl1 hm1
    go_enter Tryd.func18, Tryd.ntmps18
    go_wp2
    go_ret
    rw [Hlm.out]
    exact ⟨rfl, Frm.refl _ _⟩

/-- What Sort does, beside what is held. -/
def SortGoesN (l : List Ev) (n : Nat) (B : Nat) (w0 : World) (R : World → List Nat → Prop) (L : List (Nat × Obj)) (e : Ending) (w' : World) : Prop :=
  ∃ (a : Option Addr) (c : Nat) (r : List Ev), e = .returned (.slice a n c) ∧ Asc r ∧ Alike l r ∧ r.length = n ∧ (a = none → n = 0 ∧ c = 0) ∧ Holds B w0 (sepR (rowR 65 7 (.slice a n c) n (evCells r)) R) w' L
theorem Holds.sepNone {R : World → List Nat → Prop} {B : Nat} {w0 w : World} {L : List (Nat × Obj)} (h : Holds B w0 R w L) : Holds B w0 (sepR R noneR) w L := sepR_comm h.empty
theorem row_nil_cap {w : World} {base : Nat} {e : TypeId} {size : Nat} {a : Option Addr} {n c : Nat} {xs : List Value} (h : w.ownsRow base e size (.slice a n c) n xs) (ha : a = none) : n = 0 ∧ c = 0 := by
  subst ha
  rcases row_nil_or h with ⟨hv, _⟩ | ⟨g, cc, hv, _⟩
  · simp only [Value.slice.injEq] at hv
    exact ⟨hv.2.1, hv.2.2⟩
  · simp at hv
theorem sort_goesN {R : World → List Nat → Prop} {B : Nat} {w0 w : World} {L : List (Nat × Obj)} (hR : Stable R) (h : Holds B w0 R w L) {a : Option Addr} {n cap : Nat} {l : List Ev} (hl : EvsAt w a n cap l) (hn : n ≤ 400) (hnil : a = none → n = 0 ∧ cap = 0) :
    Calls Tryd.prog 38 #[.slice a n cap] w (SortGoesN l n B w0 R L) := by
  refine (sort_any w a n cap l hl hn hnil).mono fun e w' hd => ?_
  obtain ⟨a', c', r, rfl, h1, h2, h3, h4⟩ := hd
  rw [hl.1] at h3 h4 ⊢
  exact ⟨a', c', r, rfl, h1, h2, h3, row_nil_cap h4.sepNone.row, h.join hR h4⟩
end Go.Proofs.YtbkadfdpboghiaaDoor
