/- A part of a row of events changes places with another one of its length; two parts that stand beside one another change places. -/
import Derived.Test.YtbkadfdpboghiaaDoorSortI
namespace Go.Proofs.YtbkadfdpboghiaaDoor
open Go.RowKit Go.Maps

/-- Behind k exchanges. -/
def swd (A X M Y C : List Ev) (k : Nat) : List Ev := A ++ (Y.take k ++ X.drop k) ++ M ++ (X.take k ++ Y.drop k) ++ C
theorem far_set (P Q R : List Ev) (x y : Ev) : ((P ++ x :: (Q ++ y :: R)).set P.length y).set (P.length + 1 + Q.length) x = P ++ y :: (Q ++ x :: R) := by
  induction P with
  | nil =>
    simp only [List.nil_append, List.length_nil, List.set_cons_zero, Nat.zero_add]
    rw [show 1 + Q.length = Q.length + 1 by omega, List.set_cons_succ]
    congr 1
    rw [List.set_append_right _ _ (Nat.le_refl _), Nat.sub_self]
    rfl
  | cons a P ih =>
    simp only [List.cons_append, List.length_cons, List.set_cons_succ]
    rw [show P.length + 1 + 1 + Q.length = (P.length + 1 + Q.length) + 1 by omega, List.set_cons_succ, ih]
theorem take_snoc' {l : List Ev} {k : Nat} {x : Ev} (h : l[k]? = some x) : l.take (k + 1) = l.take k ++ [x] := by rw [List.take_add_one, h]; rfl
theorem drop_cons' {l : List Ev} {k : Nat} {x : Ev} (h : l[k]? = some x) : l.drop k = x :: l.drop (k + 1) := by
  have hk := (List.getElem?_eq_some_iff.1 h).1
  rw [List.drop_eq_getElem_cons hk]
  congr 1
  exact (List.getElem?_eq_some_iff.1 h).2
theorem swd_form {A X M Y C : List Ev} {k : Nat} {x y : Ev} (hx : X[k]? = some x) (hy : Y[k]? = some y) :
    swd A X M Y C k = (A ++ Y.take k) ++ x :: ((X.drop (k + 1) ++ M ++ X.take k) ++ y :: (Y.drop (k + 1) ++ C)) ∧
      swd A X M Y C (k + 1) = (A ++ Y.take k) ++ y :: ((X.drop (k + 1) ++ M ++ X.take k) ++ x :: (Y.drop (k + 1) ++ C)) := by
  unfold swd
  rw [drop_cons' hx, drop_cons' hy, take_snoc' hx, take_snoc' hy]
  simp [List.append_assoc]
theorem swd_step {A X M Y C : List Ev} {k a b : Nat} {x y : Ev} (hx : X[k]? = some x) (hy : Y[k]? = some y) (ha : A.length = a) (hb : a + X.length + M.length = b) :
    (swd A X M Y C k)[a + k]? = some x ∧ (swd A X M Y C k)[b + k]? = some y ∧ ((swd A X M Y C k).set (a + k) y).set (b + k) x = swd A X M Y C (k + 1) := by
  obtain ⟨e1, e2⟩ := swd_form (A := A) (M := M) (C := C) hx hy
  have hkx := (List.getElem?_eq_some_iff.1 hx).1
  have hky := (List.getElem?_eq_some_iff.1 hy).1
  have l1 : (A ++ Y.take k).length = a + k := by rw [List.length_append, List.length_take, ha]; omega
  have l2 : (A ++ Y.take k).length + 1 + (X.drop (k + 1) ++ M ++ X.take k).length = b + k := by
    rw [l1, List.length_append, List.length_append, List.length_take, List.length_drop]; omega
  refine ⟨?_, ?_, ?_⟩
  · rw [e1, List.getElem?_append_right (by omega), l1, Nat.sub_self]; rfl
  · rw [e1, List.getElem?_append_right (by omega), show b + k - (A ++ Y.take k).length = (X.drop (k + 1) ++ M ++ X.take k).length + 1 by omega, List.getElem?_cons_succ, List.getElem?_append_right (by omega), Nat.sub_self]; rfl
  · have h := far_set (A ++ Y.take k) (X.drop (k + 1) ++ M ++ X.take k) (Y.drop (k + 1) ++ C) x y
    rw [l2, l1] at h
    rw [e1, e2]
    exact h
theorem swd_zero (A X M Y C : List Ev) : swd A X M Y C 0 = A ++ X ++ M ++ Y ++ C := by simp [swd]
theorem swd_end (A X M Y C : List Ev) (h : X.length = Y.length) : swd A X M Y C X.length = A ++ Y ++ M ++ X ++ C := by
  unfold swd
  rw [List.take_of_length_le (by omega), List.drop_eq_nil_of_le (Nat.le_refl _), List.take_of_length_le (Nat.le_refl _), List.drop_eq_nil_of_le (by omega)]
  simp

def SwRel (B : Nat) (w0 : World) (Q : World → List Nat → Prop) (L : List (Nat × Obj)) (g n cap c : Nat) (A X M Y C : List Ev) (kv : Value) (wr : World) : Prop :=
  ∃ k : Nat, k ≤ c ∧ kv = .int .i64 (k : Int) ∧ Holds B w0 (sepR (evR g n cap (swd A X M Y C k)) Q) wr L

set_option maxHeartbeats 2000000 in
set_option maxRecDepth 100000 in
theorem swap_goes {B : Nat} {w0 w : World} {Q : World → List Nat → Prop} {L : List (Nat × Obj)} {g n cap : Nat} (hQ : Stable Q) (A X M Y C : List Ev) (h : Holds B w0 (sepR (evR g n cap (A ++ X ++ M ++ Y ++ C)) Q) w L) {a b c : Nat} (ha : A.length = a) (hb : a + X.length + M.length = b) (hc : X.length = c) (hd : Y.length = c)
    (hn : b + c ≤ n) (hn' : n ≤ 1000) (_hcap : n ≤ cap) (fv : Value) :
    Calls Tryd.prog 60 #[.slice (some ⟨g, 0, none⟩) n cap, .int .i64 (a : Int), .int .i64 (b : Int), .int .i64 (c : Int), fv] w fun e w' => e = .returned (.tuple #[]) ∧ Holds B w0 (sepR (evR g n cap (A ++ Y ++ M ++ X ++ C)) Q) w' L := by
  rw [← swd_zero] at h
  have hs : SwRel B w0 Q L g n cap c A X M Y C (.int .i64 0) w := ⟨0, Nat.zero_le _, rfl, h⟩
  have Hs := Lib.hid hs
  have hac : a + c ≤ b := by omega
  have Ha := Lib.hid ha
  have Hb := Lib.hid hb
  have Hc := Lib.hid hc
  have Hd := Lib.hid hd
  clear hs h ha hb hc hd
  go_enter Tryd.func60, Tryd.ntmps60
  go_wp2_with fail
  go_loopw [10] (fun kv wr => SwRel B w0 Q L g n cap c A X M Y C kv wr) (fun kv _ => c - (intOf kv).toNat)
  case atStart => exact Hs.out
  case round =>
    obtain ⟨k, hk, rfl, hH⟩ := hrel
    have HH := Lib.hid hH
    clear hH Hs
    by_cases hlt : k < c
    · obtain ⟨x, hx⟩ : ∃ x, X[k]? = some x := ⟨_, List.getElem?_eq_getElem (by have := Hc.out; omega)⟩
      obtain ⟨y, hy⟩ : ∃ y, Y[k]? = some y := ⟨_, List.getElem?_eq_getElem (by have := Hd.out; omega)⟩
      obtain ⟨s1, s2, s3⟩ := swd_step (C := C) hx hy Ha.out Hb.out
      obtain ⟨i, hi⟩ : ∃ i, a + k = i := ⟨_, rfl⟩
      obtain ⟨j, hj⟩ : ∃ j, b + k = j := ⟨_, rfl⟩
      rw [hi] at s1
      rw [hj] at s2
      rw [hi, hj] at s3
      have h1 : (a : Int) + (k : Int) = (i : Int) := by omega
      have h2 : (b : Int) + (k : Int) = (j : Int) := by omega
      have h3 : IntKind.i64.wrap (i : Int) = (i : Int) := IntWalk.i64_in _ (by omega)
      have h4 : IntKind.i64.wrap (j : Int) = (j : Int) := IntWalk.i64_in _ (by omega)
      have hin : i < n := by omega
      have hjn : j < n := by omega
      have hin' : (i : Int) < (n : Int) := by omega
      have hjn' : (j : Int) < (n : Int) := by omega
      have hi0 : (0 : Int) ≤ (i : Int) := by omega
      have hj0 : (0 : Int) ≤ (j : Int) := by omega
      obtain ⟨p0, p1, p2, p3, p4, p5, p6⟩ := HH.out.evAt s1
      obtain ⟨r0, r1, r2, r3, r4, r5, r6⟩ := HH.out.evAt s2
      have hll : (swd A X M Y C k).length = n := by have := HH.out.row.1; rw [evCells_length] at this; omega
      have fz : ∀ j, wr.frozen? ⟨g, j, none⟩ = false := fun j => HH.out.row.frozenAt j
      have S3 := Lib.hid s3
      have Hll := Lib.hid hll
      clear s1 s2 s3 hx hy hi hj hll
      go_wp2_with fail
      go_big_region
      go_wp2_with fail
      go_roundw
      case rel =>
        have h5 := (HH.out.putEv hQ (i := i) (by rw [Hll.out]; exact hin) y).putEv hQ (i := j) (by rw [List.length_set, Hll.out]; exact hjn) x
        rw [S3.out] at h5
        exact ⟨k + 1, by omega, by go_num, h5.drew (sepR_stable (evR_stable _ _ _ _) hQ)⟩
      case measure => simp [intOf]; omega
    · obtain rfl : k = c := by omega
      have h6 := HH.out
      rw [← Hc.out, swd_end _ _ _ _ _ (Hc.out.trans Hd.out.symm)] at h6
      have H6 := Lib.hid h6
      clear h6 HH
      go_wp2_with fail
      go_end0
      exact ⟨rfl, H6.out⟩
end Go.Proofs.YtbkadfdpboghiaaDoor
