/- The least times of messages. -/
import Derived.Test.YtagldjlaagphlaaKeysW
namespace Go.Proofs.Ytagldjlaagphlaa
open Go.RowKit Go.Maps

def mn (x y : Int) : Int := if y < x then y else x
theorem run_mn {P : Program} {w : World} (ts : Array TypeId) (t : TypeId) (k k' : IntKind) (x y : Int) : (Builtin.min_ ts t #[.int k x, .int k' y]).run P w = .ok (.int k (mn x y)) w := run_min_int2 ..
def foldBy (f : Mv → Int) (a : Int) (l : List Mv) : Int := l.foldl (fun a x => mn a (f x)) a
theorem foldBy_snoc (f : Mv → Int) (a : Int) (l : List Mv) (x : Mv) : foldBy f a (l ++ [x]) = mn (foldBy f a l) (f x) := by simp [foldBy]
def leastBy (f : Mv → Int) : List Mv → Int
  | [] => 0
  | m :: l => foldBy f (f m) l
def Mv.at' (m : Mv) : Int := m.e.k.at_
def Mv.sent' (m : Mv) : Int := m.e.k.sent

theorem least_none (w : World) (a : Option Addr) (c : Nat) : Calls Try.prog 24 #[.slice a 0 c] w (Says (.tuple #[.int .i64 0, .int .i64 0, .int .i64 14]) w) := by
  go_enter Try.func24, Try.ntmps24
  go_wp2
  go_ret3
  exact ⟨rfl, Frm.refl _ _⟩

attribute [local go_sem high] run_mn in
set_option maxHeartbeats 1000000 in
theorem least_any (w : World) (b off n cap : Nat) (l : List Mv) (hl : MsgsAt w (some ⟨b, off, none⟩) n cap l) (h0 : 0 < n) (hn : n ≤ 200) :
    Calls Try.prog 24 #[.slice (some ⟨b, off, none⟩) n cap] w (Says (.tuple #[.int .i64 (leastBy Mv.at' l), .int .i64 (leastBy Mv.sent' l), .int .i64 0]) w) := by
  have hl1 := hl.1
  cases l with
  | nil => simp at hl1; omega
  | cons m0 t =>
    obtain ⟨b1, o1, x, he, hb1, hx, p0, p1, p2, p3, p4, p5, p6, p7⟩ := hl.at_ h0
    simp only [Option.some.injEq, Addr.mk.injEq, and_true] at he
    obtain ⟨rfl, rfl⟩ := he
    simp only [List.getElem?_cons_zero, Option.some.injEq] at hx
    subst hx
    simp only [Nat.zero_mul, Nat.add_zero] at p0 p1 p2 p3 p4 p5 p6 p7
    have hcap := hl.2.1
    have hcm := hl.2.2.1
    have hd := hl.drop (k := 1) (by omega)
    simp only [Nat.one_mul, List.drop_succ_cons, List.drop_zero] at hd
    have Hd := Lib.hid hd
    have Hl1 := Lib.hid hl1
    clear hd hl hl1
    unfold maxLen at hcm
    have h0' : decide ((0 : Int) < (n : Int)) = true := decide_eq_true (by omega)
    have h0'' : ((n : Int) == 0) = false := by simp; omega
    have h0''' : (n == 0) = false := by simp; omega
    have hi : (1 : Int) ≤ (n : Int) := by omega
    have hi' : (1 : Int) ≤ (cap : Int) := by omega
    by_cases hc1 : cap = 1
    · obtain rfl : n = 1 := by omega
      subst hc1
      have ht : t = [] := by have h := Hl1.out; simpa using h
      subst ht
      go_enter Try.func24, Try.ntmps24
      go_wp2_with fail
      go_quiet (fail)
      go_wp2_with fail
      go_loopw [2, 3, 25] (fun av sv iv wr => av = .int .i64 m0.e.k.at_ ∧ sv = .int .i64 m0.e.k.sent ∧ iv = .int .i64 0 ∧ Frm [] w wr) (fun _ _ _ _ => 0)
      case atStart => exact ⟨rfl, rfl, rfl, (Frm.refl _ _).drewN _⟩
      case round =>
        obtain ⟨rfl, rfl, rfl, hF⟩ := hrel
        go_wp2_with fail
        go_ret3
        exact ⟨rfl, hF⟩
    · go_enter Try.func24, Try.ntmps24
      go_wp2_with fail
      go_quiet (fail)
      go_wp2_with fail
      go_loopw [2, 3, 25] (fun av sv iv wr => ∃ k : Nat, k ≤ n - 1 ∧ iv = .int .i64 (k : Int) ∧ av = .int .i64 (foldBy Mv.at' (Mv.at' m0) (t.take k)) ∧ sv = .int .i64 (foldBy Mv.sent' (Mv.sent' m0) (t.take k)) ∧ Frm [] w wr) (fun _ _ iv _ => (n - 1) - (intOf iv).toNat)
      case atStart => exact ⟨0, Nat.zero_le _, rfl, rfl, rfl, (Frm.refl _ _).drewN _⟩
      case round =>
        obtain ⟨k, hk, rfl, rfl, rfl, hF⟩ := hrel
        have HF := Lib.hid hF
        clear hF p0 p1 p2 p3 p4 p5 p6 p7
        by_cases hlt : k < n - 1
        · obtain ⟨b2, o2, x, hbo, hb2, hx, q0, q1, q2, q3, q4, q5, q6, q7⟩ := (Hd.out.frm HF.out).at_ hlt
          simp only [Option.some.injEq, Addr.mk.injEq, and_true] at hbo
          obtain ⟨rfl, rfl⟩ := hbo
          have hts : t.take (k + 1) = t.take k ++ [x] := take_succ_of hx
          have Hts := Lib.hid hts
          have Hx := Lib.hid hx
          clear hts hx
          go_wp2_with fail
          go_quiet (fail)
          go_wp2_with fail
          go_roundw
          case rel => exact ⟨k + 1, by omega, by go_num, by rw [Hts.out, foldBy_snoc]; rfl, by rw [Hts.out, foldBy_snoc]; rfl, (HF.out.alloc _).drewN _⟩
          case measure => simp [intOf]; omega
        · obtain rfl : k = n - 1 := by omega
          have htl : t.take (n - 1) = t := List.take_of_length_le (by have := Hl1.out; simp at this; omega)
          have Htl := Lib.hid htl
          clear htl
          go_wp2_with fail
          go_ret3
          refine ⟨?_, HF.out⟩
          rw [Htl.out]
          rfl
end Go.Proofs.Ytagldjlaagphlaa
