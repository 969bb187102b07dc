/- More small calls: an event's ID, which events may be, which messages meet, which ones have one ID. -/
import Derived.Test.YtagldjlaagphlaaKeysA
namespace Go.Proofs.Ytagldjlaagphlaa
open Go.RowKit

def Ev.check (e : Ev) : Int :=
  if e.k.src < -1 ∨ 32 ≤ e.k.src ∨ e.dst < 0 ∨ 32 ≤ e.dst ∨ e.k.no < 0 ∨ 1024 ≤ e.k.no ∨ e.k.at_ < 0 ∨ 1073741824 < e.k.at_ then 10 else if e.k.sent < -1 ∨ e.k.at_ ≤ e.k.sent then 18 else 0
theorem check_10 {e : Ev} (h : e.k.src < -1 ∨ 32 ≤ e.k.src ∨ e.dst < 0 ∨ 32 ≤ e.dst ∨ e.k.no < 0 ∨ 1024 ≤ e.k.no ∨ e.k.at_ < 0 ∨ 1073741824 < e.k.at_) : e.check = 10 := if_pos h
theorem check_18 {e : Ev} (h : ¬ (e.k.src < -1 ∨ 32 ≤ e.k.src ∨ e.dst < 0 ∨ 32 ≤ e.dst ∨ e.k.no < 0 ∨ 1024 ≤ e.k.no ∨ e.k.at_ < 0 ∨ 1073741824 < e.k.at_)) (h' : e.k.sent < -1 ∨ e.k.at_ ≤ e.k.sent) : e.check = 18 := by
  unfold Ev.check; rw [if_neg h, if_pos h']
theorem check_0 {e : Ev} (h : ¬ (e.k.src < -1 ∨ 32 ≤ e.k.src ∨ e.dst < 0 ∨ 32 ≤ e.dst ∨ e.k.no < 0 ∨ 1024 ≤ e.k.no ∨ e.k.at_ < 0 ∨ 1073741824 < e.k.at_)) (h' : ¬ (e.k.sent < -1 ∨ e.k.at_ ≤ e.k.sent)) : e.check = 0 := by
  unfold Ev.check; rw [if_neg h, if_neg h']

set_option maxHeartbeats 400000 in
theorem of_any (e : Ev) (w : World) : Calls Try.prog 14 #[.agg #[.int .i64 e.k.at_, .int .i64 e.k.src, .int .i64 e.k.sent, .int .i64 e.k.no, .int .i64 e.dst, .int .i64 e.kind, .int .i64 e.data]] w
    (Says (.agg #[.int .i64 e.k.src, .int .i64 e.k.sent, .int .i64 e.k.no]) w) := by
  go_enter Try.func14, Try.ntmps14
  go_wp2
  refine bodyPost_ret (v := .agg #[.int .i64 e.k.src, .int .i64 e.k.sent, .int .i64 e.k.no]) (by simp [results, Try.results14, go_sem]) rfl ⟨rfl, ?_⟩
  exact ((Frm.refl _ _).alloc _).alloc _

set_option maxHeartbeats 1000000 in
theorem check_any (e : Ev) (w : World) : Calls Try.prog 12 #[.agg #[.int .i64 e.k.at_, .int .i64 e.k.src, .int .i64 e.k.sent, .int .i64 e.k.no, .int .i64 e.dst, .int .i64 e.kind, .int .i64 e.data]] w (Says (.int .i64 e.check) w) := by
  have H10 := Lib.hid (@check_10 e)
  have H18 := Lib.hid (@check_18 e)
  have H0 := Lib.hid (@check_0 e)
  go_enter Try.func12, Try.ntmps12
  go_wp2
  all_goals
    go_ret
    first
      | (rw [H10.out (by omega)]; exact ⟨rfl, (Frm.refl _ _).alloc _⟩)
      | (rw [H18.out (by omega) (by omega)]; exact ⟨rfl, (Frm.refl _ _).alloc _⟩)
      | (rw [H0.out (by omega) (by omega)]; exact ⟨rfl, (Frm.refl _ _).alloc _⟩)

set_option maxHeartbeats 1000000 in
theorem rcheck_any (e : Ev) (w : World) : Calls Try.prog 13 #[.agg #[.int .i64 e.k.at_, .int .i64 e.k.src, .int .i64 e.k.sent, .int .i64 e.k.no, .int .i64 e.dst, .int .i64 e.kind, .int .i64 e.data]] w (Says (.int .i64 e.check) w) := by
  have H10 := Lib.hid (@check_10 e)
  have H18 := Lib.hid (@check_18 e)
  have H0 := Lib.hid (@check_0 e)
  go_enter Try.func13, Try.ntmps13
  go_wp2
  all_goals
    go_ret
    first
      | (rw [H10.out (by omega)]; exact ⟨rfl, (Frm.refl _ _).alloc _⟩)
      | (rw [H18.out (by omega) (by omega)]; exact ⟨rfl, (Frm.refl _ _).alloc _⟩)
      | (rw [H0.out (by omega) (by omega)]; exact ⟨rfl, (Frm.refl _ _).alloc _⟩)

attribute [local go_sem high] event_eql event_guard in
set_option maxHeartbeats 1000000 in
theorem meets_any (a b : Mv) (w : World) : Calls Try.prog 25 #[.agg #[.int .i64 a.e.k.at_, .int .i64 a.e.k.src, .int .i64 a.e.k.sent, .int .i64 a.e.k.no, .int .i64 a.e.dst, .int .i64 a.e.kind, .int .i64 a.e.data, .bool a.anti],
    .agg #[.int .i64 b.e.k.at_, .int .i64 b.e.k.src, .int .i64 b.e.k.sent, .int .i64 b.e.k.no, .int .i64 b.e.dst, .int .i64 b.e.kind, .int .i64 b.e.data, .bool b.anti]] w (Says (.bool (a.meets b)) w) := by
  obtain ⟨a, xa⟩ := a
  obtain ⟨b, xb⟩ := b
  cases xa <;> cases xb
  · go_enter Try.func25, Try.ntmps25
    go_wp2
    go_ret
    exact ⟨rfl, ((Frm.refl _ _).alloc _).alloc _⟩
  · go_enter Try.func25, Try.ntmps25
    go_wp2
    go_ret
    exact ⟨rfl, ((Frm.refl _ _).alloc _).alloc _⟩
  · go_enter Try.func25, Try.ntmps25
    go_wp2
    go_ret
    exact ⟨rfl, ((Frm.refl _ _).alloc _).alloc _⟩
  · go_enter Try.func25, Try.ntmps25
    go_wp2
    go_ret
    exact ⟨rfl, ((Frm.refl _ _).alloc _).alloc _⟩

def Kv.id (k : Kv) : Iv := ⟨k.src, k.sent, k.no⟩
def Ev.sameId (a b : Ev) : Bool := decide (a.k.id = b.k.id)

set_option maxHeartbeats 1000000 in
theorem same_any (a b : Ev) (w : World) : Calls Try.prog 32 #[.agg #[.int .i64 a.k.at_, .int .i64 a.k.src, .int .i64 a.k.sent, .int .i64 a.k.no, .int .i64 a.dst, .int .i64 a.kind, .int .i64 a.data],
    .agg #[.int .i64 b.k.at_, .int .i64 b.k.src, .int .i64 b.k.sent, .int .i64 b.k.no, .int .i64 b.dst, .int .i64 b.kind, .int .i64 b.data]] w (Says (.bool (a.sameId b)) w) := by
  by_cases h1 : a.k.src = b.k.src
  · by_cases h2 : a.k.sent = b.k.sent
    · have hv : a.sameId b = (a.k.no == b.k.no) := by
        rw [Bool.eq_iff_iff]
        simp [Ev.sameId, Kv.id, h1, h2]
      rw [hv]
      clear hv
      have g1 : (a.k.src == b.k.src) = true := by simpa using h1
      have g2 : (a.k.sent == b.k.sent) = true := by simpa using h2
      clear h1 h2
      go_enter Try.func32, Try.ntmps32
      go_wp2
      go_ret
      exact ⟨rfl, ((Frm.refl _ _).alloc _).alloc _⟩
    · have hv : a.sameId b = false := by simp [Ev.sameId, Kv.id, h2]
      rw [hv]
      clear hv
      have g1 : (a.k.src == b.k.src) = true := by simpa using h1
      have g2 : (a.k.sent == b.k.sent) = false := by simpa using h2
      clear h1 h2
      go_enter Try.func32, Try.ntmps32
      go_wp2
      go_ret
      exact ⟨rfl, ((Frm.refl _ _).alloc _).alloc _⟩
  · have hv : a.sameId b = false := by simp [Ev.sameId, Kv.id, h1]
    rw [hv]
    clear hv
    have g1 : (a.k.src == b.k.src) = false := by simpa using h1
    clear h1
    go_enter Try.func32, Try.ntmps32
    go_wp2
    go_ret
    exact ⟨rfl, ((Frm.refl _ _).alloc _).alloc _⟩
end Go.Proofs.Ytagldjlaagphlaa
