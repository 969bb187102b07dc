/- A heap's calls: Batch. -/
import Derived.Test.YtclaicpnjllhjaaHeapD
namespace Go.Proofs.Ytclaicpnjllhjaa
open Go.RowKit Go.Maps

def valCells (l : List Ent) : List Value := l.map fun x => .int .i64 x.v
theorem valCells_append (l m : List Ent) : valCells (l ++ m) = valCells l ++ valCells m := by simp [valCells]
def timeOf (S : List Ent) : Int := (firstE S).k.at_
def batchP (S : List Ent) : List Ent := S.takeWhile fun y => decide (y.k.at_ = timeOf S)
def batchR (S : List Ent) : List Ent := S.dropWhile fun y => decide (y.k.at_ = timeOf S)
theorem batch_parts {S P R : List Ent} {t : Int} (ht : timeOf S = t) (h : S = P ++ R) (hP : ∀ y ∈ P, y.k.at_ = t) (hR : ∀ y ∈ R.head?, y.k.at_ ≠ t) : batchP S = P ∧ batchR S = R := by
  unfold batchP batchR
  rw [ht]
  subst h
  have h1 : ∀ (P : List Ent), (∀ y ∈ P, y.k.at_ = t) → (P ++ R).takeWhile (fun y => decide (y.k.at_ = t)) = P ∧ (P ++ R).dropWhile (fun y => decide (y.k.at_ = t)) = R := by
    intro P
    induction P with
    | nil =>
      intro _
      cases R with
      | nil => simp
      | cons y R =>
        have := hR y (by simp)
        simp [this]
    | cons y P ih =>
      intro hP
      have := hP y (by simp)
      obtain ⟨e1, e2⟩ := ih (fun z hz => hP z (by simp [hz]))
      simp [this, e1, e2]
  exact h1 P hP
theorem infoInt : (Try.prog.info? 3).map (fun i => (i.zero, i.size, i.bytes)) = some (some (.int .i64 0), 1, 8) := by kernel_rfl

section
variable {B : Nat} {w0 w : World} {Q : World → List Nat → Prop} {L : List (Nat × Obj)}
/-- What Batch does. -/
def BatchDoes (B : Nat) (w0 : World) (Q : World → List Nat → Prop) (L : List (Nat × Obj)) (b : Nat) (S : List Ent) (e : Ending) (w' : World) : Prop :=
  ∃ (a : Option Addr) (c : Nat), e = .returned (.tuple #[.int .i64 (timeOf S), .slice a (batchP S).length c, .int .i64 (firstErr S)]) ∧
    Holds B w0 (sepR (rowR 3 1 (.slice a (batchP S).length c) (batchP S).length (valCells (batchP S))) (sepR (heapR b (batchR S)) Q)) w' L
def BatRel (B : Nat) (w0 : World) (Q : World → List Nat → Prop) (L : List (Nat × Obj)) (b : Nat) (S : List Ent) (t : Int) (lv : Value) (wr : World) : Prop :=
  ∃ (P R : List Ent) (a : Option Addr) (c : Nat), S = P ++ R ∧ (∀ y ∈ P, y.k.at_ = t) ∧ lv = .slice a P.length c ∧ Holds B w0 (sepR (rowR 3 1 (.slice a P.length c) P.length (valCells P)) (sepR (heapR b R) Q)) wr L

set_option maxHeartbeats 4000000 in
set_option maxRecDepth 100000 in
theorem batch_goes (hQ : Stable Q) {b : Nat} {S : List Ent} (h : Holds B w0 (sepR (heapR b S) Q) w L) (hn : S.length ≤ 200) :
    Calls Try.prog 21 #[.pointer (some ⟨b, 0, none⟩)] w (BatchDoes B w0 Q L b S) := by
  have hs := sepR_stable (heapR_stable b S) hQ
  have hc := first_goes hQ h hn
  have Hc := Lib.hid hc
  clear h hc
  cases S with
  | nil =>
    go_enter Try.func21, Try.ntmps21
    go_wp2_with fail
    refine Hc.out.mono ?_
    rintro e w1 ⟨rfl, h1⟩
    dsimp only [firstT, firstE, firstErr, Kv.val]
    have h2 := (h1.made hs ((Frm.refl _ _).alloc (.cells #[.int .i64 0, .int .i64 0, .int .i64 0, .int .i64 0] 33))).nilRow 3 1
    have H2 := Lib.hid h2
    clear h1 h2 Hc
    go_wp2_with fail
    exact bodyPost_ret (v := .tuple #[.int .i64 0, .slice none 0 0, .int .i64 14]) (by simp [results, Try.results21, go_sem]) rfl ⟨none, 0, rfl, H2.out⟩
  | cons x S0 =>
    generalize hS : x :: S0 = S at *
    have ht : timeOf S = x.k.at_ := by rw [← hS]; rfl
    have hft : firstT S = .tuple #[.agg #[.int .i64 x.k.at_, .int .i64 x.k.src, .int .i64 x.k.sent, .int .i64 x.k.no], .int .i64 x.v, .int .i64 0] := by rw [← hS]; rfl
    have hfe : firstErr S = 0 := by rw [← hS]; rfl
    clear hS S0
    have Ht := Lib.hid ht
    have Hfe := Lib.hid hfe
    have Hft := Lib.hid hft
    clear ht hfe hft
    go_enter Try.func21, Try.ntmps21
    go_wp2_with fail
    refine Hc.out.mono ?_
    rintro e w1 ⟨he, h1⟩
    rw [Hft.out] at he
    subst he
    have h2 := (h1.alloc hs (.cells #[.int .i64 x.k.at_, .int .i64 x.k.src, .int .i64 x.k.sent, .int .i64 x.k.no] 33)).nilRow 3 1
    have hloop : BatRel B w0 Q ((w1.heap.size, .cells #[.int .i64 x.k.at_, .int .i64 x.k.src, .int .i64 x.k.sent, .int .i64 x.k.no] 33) :: L) b S x.k.at_ (.slice none 0 0) (w1.alloc (.cells #[.int .i64 x.k.at_, .int .i64 x.k.src, .int .i64 x.k.sent, .int .i64 x.k.no] 33)) :=
      ⟨[], S, none, 0, rfl, by simp, rfl, h2⟩
    have Hloop := Lib.hid hloop
    clear h1 h2 Hc hloop Hft
    go_wp2_with fail
    go_loopw [3] (fun lv wr => BatRel B w0 Q ((w1.heap.size, .cells #[.int .i64 x.k.at_, .int .i64 x.k.src, .int .i64 x.k.sent, .int .i64 x.k.no] 33) :: L) b S x.k.at_ lv wr) (fun lv _ => S.length - (match lv with | .slice _ n _ => n | _ => 0))
    case atStart => exact Hloop.out
    case round =>
      obtain ⟨P, R, a, c, hSP, hPt, rfl, hH⟩ := hrel
      have hlen : P.length + R.length = S.length := by rw [hSP, List.length_append]
      have HSP := Lib.hid hSP
      have HPt := Lib.hid hPt
      have hheap : Holds B w0 (sepR (heapR b R) (sepR (rowR 3 1 (.slice a P.length c) P.length (valCells P)) Q)) wr _ := hH.conv Conv.exch
      obtain ⟨p0, p1, p2, p3⟩ := cells4 (hH.box (k := w1.heap.size) (o := .cells #[.int .i64 x.k.at_, .int .i64 x.k.src, .int .i64 x.k.sent, .int .i64 x.k.no] 33) (by simp))
      have z0 := World.block_lt_of_cell? _ _ p0
      dsimp only at z0
      have HH := Lib.hid hH
      obtain ⟨l, hfit, h3⟩ := hheap.heapOpen
      have hll := hfit.len
      have hhd := hfit.head
      obtain ⟨ev, M, D, hp, h4⟩ := h3.rawOpen
      obtain ⟨c0, c1, f0, hb⟩ := h4.hCell0
      have hQ2 : Stable (sepR (rowR 3 1 (.slice a P.length c) P.length (valCells P)) Q) := sepR_stable (rowR_stable _ _ _ _ _) hQ
      have hs2 : Stable (sepR (rowR 3 1 (.slice a P.length c) P.length (valCells P)) (sepR (heapR b R) Q)) := sepR_stable (rowR_stable _ _ _ _ _) (sepR_stable (heapR_stable _ _) hQ)
      clear hH hSP hPt hp Hloop f0 c1
      cases R with
      | nil =>
        obtain rfl : l = [] := List.eq_nil_of_length_eq_zero (by simpa using hll)
        obtain ⟨a5, c5, rfl⟩ := row_slice h4.hRow.row
        have hbp := batch_parts Ht.out HSP.out HPt.out (by simp)
        have Hbp := Lib.hid hbp
        clear hfit h3 h4 hheap hhd hll hlen hbp
        go_wp2_with fail
        go_quiet (fail)
        go_wp2_with fail
        exact bodyPost_ret (v := .tuple #[.int .i64 x.k.at_, .slice a P.length c, .int .i64 0]) (by simp [results, Try.results21, go_sem]) rfl ⟨a, c, by rw [Hbp.out.1, Ht.out, Hfe.out], by rw [Hbp.out.1, Hbp.out.2]; exact (HH.out.drewN hs2 _).sub (fun p hp => by simp [hp])⟩
      | cons y R =>
        have hy : l[0]? = some y := by
          cases l with
          | nil => simp at hhd
          | cons z l => simpa using hhd
        obtain ⟨g, cap, rfl, hg, hcap, _⟩ := h4.rowVal (by rw [hll]; simp)
        obtain ⟨q0, q1, q2, q3, q4⟩ := h4.entAt hy
        simp only [Nat.zero_mul, Nat.zero_add] at q0 q1 q2 q3 q4
        have g1 : decide ((l.length : Int) > 0) = true := by rw [decide_eq_true_eq, hll]; simp
        have g2 : decide (0 < l.length) = true := by rw [decide_eq_true_eq, hll]; simp
        have g3 : (0 : Int) < (l.length : Int) := by rw [hll]; simp
        have g4 : 0 < l.length := by rw [hll]; simp
        by_cases hyt : y.k.at_ = x.k.at_
        · have g5 : (y.k.at_ == x.k.at_) = true := by rw [beq_iff_eq]; exact hyt
          have hrm := fun n => remove_goes hQ2 (h3.drewN (sepR_stable (rawR_stable _ _) hQ2) n) (by rw [hll]; omega) hy
          have hfit2 := hfit.remove hy
          rw [delE_head hfit.srt] at hfit2
          have Hfit := Lib.hid hfit2
          have Hrm := Lib.hid hrm
          have Hyt := Lib.hid hyt
          have hfd := ent_field y
          clear hfit h3 h4 hheap hhd hll hrm hfit2 hyt hy
          go_wp2_with fail
          go_quiet (fail)
          go_wp2_with fail
          refine (Hrm.out _).mono ?_
          rintro e w3 ⟨rfl, h5⟩
          dsimp only [Ent.val]
          have h6 := (h5.heapShut Hfit.out).conv Conv.exch
          have hs6 : Stable (sepR (rowR 3 1 (.slice a P.length c) P.length (valCells P)) (sepR (heapR b R) Q)) := sepR_stable (rowR_stable _ _ _ _ _) (sepR_stable (heapR_stable _ _) hQ)
          have h7 := h6.made hs6 ((Frm.refl _ _).alloc (.cells #[.int .i64 y.v] 3))
          have H7 := Lib.hid h7
          clear h5 h6 h7 p0 p1 p2 p3 q0 q1 q2 q3 q4 c0 hb z0 HH Hrm
          go_wp2_with (at_builtin; refine Stop.of ?_)
          refine Stop.go ?_
          obtain ⟨i1, hj0, hj1, hj2, hj3⟩ := info_parts infoInt
          refine wpList_append_foot _ rfl _ _ 48 rfl 3 i1 (.int .i64 0) 1 8 Try.underlying48 hj0 hj1 hj2 hj3 rfl (by decide) (.slice a P.length c) P.length (valCells P) rfl H7.out.row ⟨w3.heap.size, 0, none⟩ 1 1 [.int .i64 y.v] rfl rfl (cells_new _ _ _) (by simp [Value.oneCell']) (by unfold maxLen; omega) (by omega) ?_
          intro a3 c3 w4 hown hF hnew
          have h8 := H7.out.appended (sepR_stable (heapR_stable _ _) hQ) hown hF hnew
          have H8 := Lib.hid h8
          clear hown hF hnew h8 hj0 hj1 hj2 hj3
          simp only [List.length_cons] at hlen
          go_wp2_with fail
          go_roundw
          case rel =>
            refine ⟨P ++ [y], R, a3, c3, by rw [HSP.out]; simp, fun z hz => ?_, by simp, ?_⟩
            · rcases List.mem_append.1 hz with hz | hz
              · exact HPt.out z hz
              · simp at hz; subst hz; exact Hyt.out
            · rw [valCells_append, List.length_append]
              exact H8.out
          case measure => simp; omega
        · have g5 : (y.k.at_ == x.k.at_) = false := by rw [beq_eq_false_iff_ne]; exact hyt
          have hbp := batch_parts Ht.out HSP.out HPt.out (by simpa using hyt)
          have Hbp := Lib.hid hbp
          clear hfit h3 h4 hheap hhd hll hlen hbp hy hyt
          go_wp2_with fail
          go_quiet (fail)
          go_wp2_with fail
          exact bodyPost_ret (v := .tuple #[.int .i64 x.k.at_, .slice a P.length c, .int .i64 0]) (by simp [results, Try.results21, go_sem]) rfl ⟨a, c, by rw [Hbp.out.1, Ht.out, Hfe.out], by rw [Hbp.out.1, Hbp.out.2]; exact (HH.out.drewN hs2 _).sub (fun p hp => by simp [hp])⟩
end
end Go.Proofs.Ytclaicpnjllhjaa
