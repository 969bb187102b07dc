/- The small calls of package keys, and of the laws about it: which key is ahead, what an event's ID is, which events may be, which messages meet. -/
import Derived.Test.YtagldjlaagphlaaKeysV
import Derived.Test.YtagldjlaagphlaaHold2
namespace Go.Proofs.Ytagldjlaagphlaa
open Go.RowKit

def Kv.lt (a b : Kv) : Bool :=
  if a.at_ ≠ b.at_ then decide (a.at_ < b.at_) else if a.src ≠ b.src then decide (a.src < b.src) else if a.sent ≠ b.sent then decide (a.sent < b.sent) else decide (a.no < b.no)
def Kv.cmp (a b : Kv) : Int := if a.lt b = true then -1 else if b.lt a = true then 1 else 0

/-- What a call answers, and that it only makes memory. -/
def Says (r : Value) (w : World) (e : Ending) (w' : World) : Prop := e = .returned r ∧ Frm [] w w'

set_option maxHeartbeats 400000 in
theorem before_any (a b : Kv) (w : World) : Calls Try.prog 26 #[.agg #[.int .i64 a.at_, .int .i64 a.src, .int .i64 a.sent, .int .i64 a.no], .agg #[.int .i64 b.at_, .int .i64 b.src, .int .i64 b.sent, .int .i64 b.no]] w (Says (.bool (a.lt b)) w) := by
  obtain ⟨x0, x1, x2, x3⟩ := a
  obtain ⟨y0, y1, y2, y3⟩ := b
  by_cases h0 : x0 = y0
  · by_cases h1 : x1 = y1
    · by_cases h2 : x2 = y2
      · have hv : Kv.lt ⟨x0, x1, x2, x3⟩ ⟨y0, y1, y2, y3⟩ = decide (x3 < y3) := by simp [Kv.lt, h0, h1, h2]
        rw [hv]
        clear hv
        subst h0 h1 h2
        go_enter Try.func26, Try.ntmps26
        go_wp2
        go_ret
        exact ⟨rfl, ((Frm.refl _ _).alloc _).alloc _⟩
      · have hv : Kv.lt ⟨x0, x1, x2, x3⟩ ⟨y0, y1, y2, y3⟩ = decide (x2 < y2) := by simp [Kv.lt, h0, h1, h2]
        rw [hv]
        clear hv
        subst h0 h1
        have g2 : (x2 != y2) = true := by simpa using h2
        go_enter Try.func26, Try.ntmps26
        go_wp2
        go_ret
        exact ⟨rfl, ((Frm.refl _ _).alloc _).alloc _⟩
    · have hv : Kv.lt ⟨x0, x1, x2, x3⟩ ⟨y0, y1, y2, y3⟩ = decide (x1 < y1) := by simp [Kv.lt, h0, h1]
      rw [hv]
      clear hv
      subst h0
      have g1 : (x1 != y1) = true := by simpa using h1
      go_enter Try.func26, Try.ntmps26
      go_wp2
      go_ret
      exact ⟨rfl, ((Frm.refl _ _).alloc _).alloc _⟩
  · have hv : Kv.lt ⟨x0, x1, x2, x3⟩ ⟨y0, y1, y2, y3⟩ = decide (x0 < y0) := by simp [Kv.lt, h0]
    rw [hv]
    clear hv
    have g0 : (x0 != y0) = true := by simpa using h0
    go_enter Try.func26, Try.ntmps26
    go_wp2
    go_ret
    exact ⟨rfl, ((Frm.refl _ _).alloc _).alloc _⟩

set_option maxHeartbeats 400000 in
theorem less_any (a b : Kv) (w : World) : Calls Try.prog 11 #[.agg #[.int .i64 a.at_, .int .i64 a.src, .int .i64 a.sent, .int .i64 a.no], .agg #[.int .i64 b.at_, .int .i64 b.src, .int .i64 b.sent, .int .i64 b.no]] w (Says (.bool (a.lt b)) w) := by
  obtain ⟨x0, x1, x2, x3⟩ := a
  obtain ⟨y0, y1, y2, y3⟩ := b
  by_cases h0 : x0 = y0
  · by_cases h1 : x1 = y1
    · by_cases h2 : x2 = y2
      · have hv : Kv.lt ⟨x0, x1, x2, x3⟩ ⟨y0, y1, y2, y3⟩ = decide (x3 < y3) := by simp [Kv.lt, h0, h1, h2]
        rw [hv]
        clear hv
        subst h0 h1 h2
        go_enter Try.func11, Try.ntmps11
        go_wp2
        go_ret
        exact ⟨rfl, ((Frm.refl _ _).alloc _).alloc _⟩
      · have hv : Kv.lt ⟨x0, x1, x2, x3⟩ ⟨y0, y1, y2, y3⟩ = decide (x2 < y2) := by simp [Kv.lt, h0, h1, h2]
        rw [hv]
        clear hv
        subst h0 h1
        have g2 : (x2 != y2) = true := by simpa using h2
        go_enter Try.func11, Try.ntmps11
        go_wp2
        go_ret
        exact ⟨rfl, ((Frm.refl _ _).alloc _).alloc _⟩
    · have hv : Kv.lt ⟨x0, x1, x2, x3⟩ ⟨y0, y1, y2, y3⟩ = decide (x1 < y1) := by simp [Kv.lt, h0, h1]
      rw [hv]
      clear hv
      subst h0
      have g1 : (x1 != y1) = true := by simpa using h1
      go_enter Try.func11, Try.ntmps11
      go_wp2
      go_ret
      exact ⟨rfl, ((Frm.refl _ _).alloc _).alloc _⟩
  · have hv : Kv.lt ⟨x0, x1, x2, x3⟩ ⟨y0, y1, y2, y3⟩ = decide (x0 < y0) := by simp [Kv.lt, h0]
    rw [hv]
    clear hv
    have g0 : (x0 != y0) = true := by simpa using h0
    go_enter Try.func11, Try.ntmps11
    go_wp2
    go_ret
    exact ⟨rfl, ((Frm.refl _ _).alloc _).alloc _⟩

theorem says_trans {r r' : Value} {w w1 w2 : World} {e e' : Ending} (h1 : Says r w e w1) (h2 : Says r' w1 e' w2) : Says r' w e' w2 := ⟨h2.1, h1.2.trans h2.2 (by simp)⟩

set_option maxHeartbeats 400000 in
theorem compare_any (a b : Kv) (w : World) : Calls Try.prog 15 #[.agg #[.int .i64 a.at_, .int .i64 a.src, .int .i64 a.sent, .int .i64 a.no], .agg #[.int .i64 b.at_, .int .i64 b.src, .int .i64 b.sent, .int .i64 b.no]] w (Says (.int .i64 (a.cmp b)) w) := by
  have hst := ((Holds.start w).alloc noneR_stable (.cells #[.int .i64 a.at_, .int .i64 a.src, .int .i64 a.sent, .int .i64 a.no] 23)).alloc noneR_stable (.cells #[.int .i64 b.at_, .int .i64 b.src, .int .i64 b.sent, .int .i64 b.no] 23)
  have hF : Frm [] w ((w.alloc (.cells #[.int .i64 a.at_, .int .i64 a.src, .int .i64 a.sent, .int .i64 a.no] 23)).alloc (.cells #[.int .i64 b.at_, .int .i64 b.src, .int .i64 b.sent, .int .i64 b.no] 23)) := ((Frm.refl _ _).alloc _).alloc _
  have H0 := Lib.hid hst
  have HF := Lib.hid hF
  clear hst hF
  by_cases h1 : a.lt b = true
  · have hv : a.cmp b = -1 := by simp [Kv.cmp, h1]
    rw [hv]
    have hc := before_any a b
    rw [h1] at hc
    have Hc := Lib.hid hc
    clear hc hv
    go_enter Try.func15, Try.ntmps15
    go_wp2_with fail
    refine (Hc.out _).mono ?_
    rintro e w1 ⟨rfl, hf⟩
    have Hf := Lib.hid hf
    clear hf
    go_wp2
    go_ret
    exact ⟨rfl, HF.out.trans Hf.out (by simp)⟩
  · have h1' : a.lt b = false := by simpa using h1
    have hc := before_any a b
    rw [h1'] at hc
    have Hc := Lib.hid hc
    clear hc
    by_cases h2 : b.lt a = true
    · have hv : a.cmp b = 1 := by simp [Kv.cmp, h1', h2]
      rw [hv]
      have hd := before_any b a
      rw [h2] at hd
      have Hd := Lib.hid hd
      clear hd hv h1 h1' h2
      go_enter Try.func15, Try.ntmps15
      go_wp2_with fail
      refine (Hc.out _).mono ?_
      rintro e w1 ⟨rfl, hf⟩
      have H1 := Lib.hid (H0.out.made noneR_stable hf)
      have Hf := Lib.hid hf
      clear hf
      have hbx := H1.out.box (k := w.heap.size) (o := .cells #[.int .i64 a.at_, .int .i64 a.src, .int .i64 a.sent, .int .i64 a.no] 23) (by simp)
      have hby := H1.out.box (k := w.heap.size + 1) (o := .cells #[.int .i64 b.at_, .int .i64 b.src, .int .i64 b.sent, .int .i64 b.no] 23) (by simp)
      obtain ⟨p0, p1, p2, p3⟩ := cells4 hbx
      obtain ⟨q0, q1, q2, q3⟩ := cells4 hby
      clear hbx hby
      go_wp2_with fail
      refine (Hd.out _).mono ?_
      rintro e w2 ⟨rfl, hf⟩
      have Hg := Lib.hid hf
      clear hf p0 p1 p2 p3 q0 q1 q2 q3
      go_wp2
      go_ret
      exact ⟨rfl, (HF.out.trans Hf.out (by simp)).trans Hg.out (by simp)⟩
    · have h2' : b.lt a = false := by simpa using h2
      have hv : a.cmp b = 0 := by simp [Kv.cmp, h1', h2']
      rw [hv]
      have hd := before_any b a
      rw [h2'] at hd
      have Hd := Lib.hid hd
      clear hd hv h1 h1' h2 h2'
      go_enter Try.func15, Try.ntmps15
      go_wp2_with fail
      refine (Hc.out _).mono ?_
      rintro e w1 ⟨rfl, hf⟩
      have H1 := Lib.hid (H0.out.made noneR_stable hf)
      have Hf := Lib.hid hf
      clear hf
      have hbx := H1.out.box (k := w.heap.size) (o := .cells #[.int .i64 a.at_, .int .i64 a.src, .int .i64 a.sent, .int .i64 a.no] 23) (by simp)
      have hby := H1.out.box (k := w.heap.size + 1) (o := .cells #[.int .i64 b.at_, .int .i64 b.src, .int .i64 b.sent, .int .i64 b.no] 23) (by simp)
      obtain ⟨p0, p1, p2, p3⟩ := cells4 hbx
      obtain ⟨q0, q1, q2, q3⟩ := cells4 hby
      clear hbx hby
      go_wp2_with fail
      refine (Hd.out _).mono ?_
      rintro e w2 ⟨rfl, hf⟩
      have Hg := Lib.hid hf
      clear hf p0 p1 p2 p3 q0 q1 q2 q3
      go_wp2
      go_ret
      exact ⟨rfl, (HF.out.trans Hf.out (by simp)).trans Hg.out (by simp)⟩
end Go.Proofs.Ytagldjlaagphlaa
