/- The document's answer: Batch. -/
import Derived.Test.YtclaicpnjllhjaaHeapRefQ
import Derived.Test.YtclaicpnjllhjaaHeapB
namespace Go.Proofs.Ytclaicpnjllhjaa
open Go.RowKit Go.Maps

theorem readR_end {α : Type} {enc : α → List Value} {k n c : Nat} {b o : Nat} {l : List α} : Conv (readR enc k (some ⟨b, o, none⟩) n c l) (readR enc k (some ⟨b, o, none⟩) ([] : List α).length 0 []) := fun _ F hF _ =>
  ⟨F, ⟨SlAt.nil _ _ _ _, fun h => (by cases h), hF.2.2⟩, fun _ => Iff.rfl⟩
theorem readR_drop {α : Type} {enc : α → List Value} {k n c m : Nat} {b o : Nat} {l : List α} (hm : m ≤ n) : Conv (readR enc k (some ⟨b, o, none⟩) n c l) (readR enc k (some ⟨b, o + m * k, none⟩) (n - m) (c - m) (l.drop m)) := fun _ F hF _ =>
  ⟨F, ⟨hF.1.drop hm, fun h => (by cases h), hF.2.2⟩, fun _ => Iff.rfl⟩
theorem batch_at {S : List Ent} {tm : Int} {m : Nat} (ht : timeOf S = tm) (h0 : ∀ (j : Nat) (y : Ent), j < m → S[j]? = some y → y.k.at_ = tm) (h1 : ∀ y, S[m]? = some y → y.k.at_ ≠ tm) : batchP S = S.take m ∧ batchR S = S.drop m :=
  batch_parts ht (List.take_append_drop m S).symm (fun y hy => by
    obtain ⟨j, hj⟩ := List.mem_iff_getElem?.1 hy
    rw [List.getElem?_take] at hj
    split at hj
    · rename_i hjm; exact h0 j y hjm hj
    · cases hj) (fun y hy => by
    rw [List.head?_drop] at hy
    exact h1 y hy)
section
variable {B : Nat} {w0 w : World} {Q : World → List Nat → Prop} {L : List (Nat × Obj)}
/-- What the document's Batch does. -/
def RBatchDoes (B : Nat) (w0 : World) (Q : World → List Nat → Prop) (L : List (Nat × Obj)) (b : Nat) (S : List Ent) (e : Ending) (w' : World) : Prop :=
  ∃ (a : Option Addr) (c : Nat), e = .returned (.tuple #[.int .i64 (timeOf S), .slice a (batchP S).length c, .int .i64 (firstErr S)]) ∧
    Holds B w0 (sepR (rowR 3 1 (.slice a (batchP S).length c) (batchP S).length (valCells (batchP S))) (sepR (refR b (batchR S)) Q)) w' L
def RbRel (B : Nat) (w0 : World) (Q : World → List Nat → Prop) (L : List (Nat × Obj)) (b : Nat) (tm : Int) (S : List Ent) (ov iv : Value) (wr : World) : Prop :=
  ∃ (m : Nat) (a7 : Option Addr) (c7 : Nat), m ≤ S.length ∧ ov = .slice a7 m c7 ∧ iv = .int .i64 (m : Int) ∧ (∀ (j : Nat) (y : Ent), j < m → S[j]? = some y → y.k.at_ = tm) ∧
    Holds B w0 (sepR (rowR 3 1 (.slice a7 m c7) m (valCells (S.take m))) (sepR (refR b S) Q)) wr L

set_option maxHeartbeats 8000000 in
set_option maxRecDepth 100000 in
theorem rbatch_goes (hQ : Stable Q) {b : Nat} {S : List Ent} (h : Holds B w0 (sepR (refR b S) Q) w L) (hn : S.length ≤ 200) :
    Calls Try.prog 29 #[.pointer (some ⟨b, 0, none⟩)] w (RBatchDoes B w0 Q L b S) := by
  have hs1 := sepR_stable (refR_stable b S) hQ
  obtain ⟨a, c, h2⟩ := h.refOpen
  obtain ⟨c0, f0, hb, hsl⟩ := h2.refCells
  by_cases hS : S = []
  · subst hS
    have H := Lib.hid (h.nilRow 3 1)
    clear h h2 hsl f0
    go_enter Try.func29, Try.ntmps29
    go_wp2_with fail
    exact bodyPost_ret (v := .tuple #[.int .i64 0, .slice none 0 0, .int .i64 14]) (by simp [results, Try.results29, go_sem]) rfl ⟨none, 0, rfl, H.out⟩
  · have hS0 : 0 < S.length := List.length_pos_iff.2 hS
    have hfe : firstErr S = 0 := by cases S with | nil => exact absurd rfl hS | cons _ _ => rfl
    obtain ⟨b1, o1, y, rfl, hb1, hy, hcell⟩ := hsl.at_ hS0
    have htm : timeOf S = y.k.at_ := by cases S with | nil => exact absurd rfl hS | cons z _ => simp at hy; subst hy; rfl
    have p0 := hcell 0 _ rfl
    simp only [Nat.zero_mul, Nat.add_zero] at p0
    obtain ⟨tm, htme⟩ : ∃ tm, y.k.at_ = tm := ⟨_, rfl⟩
    rw [htme] at p0 htm
    have d0 : (S.length == 0) = false := by rw [beq_eq_false_iff_ne]; omega
    have d1 : ((S.length : Int) == 0) = false := by rw [beq_eq_false_iff_ne]; omega
    have hrel : RbRel B w0 Q L b tm S (.slice none 0 0) (.int .i64 0) w := ⟨0, none, 0, Nat.zero_le _, rfl, rfl, fun j y hj => absurd hj (Nat.not_lt_zero _), h.nilRow 3 1⟩
    have Hrel := Lib.hid hrel
    have Htm := Lib.hid htm
    have Hfe := Lib.hid hfe
    have gc := hsl.2.1
    have i0 : (0 : Int) < (S.length : Int) := by omega
    clear h h2 hsl hcell hy hrel htm hfe htme hS f0
    go_enter Try.func29, Try.ntmps29
    go_wp2_with fail
    clear c0 p0 hb hb1 gc d0 d1 i0
    go_loopw [6, 7] (fun ov iv wr => RbRel B w0 Q L b tm S ov iv wr) (fun _ iv _ => S.length - (intOf iv).toNat)
    case atStart => exact Hrel.out
    case round =>
      obtain ⟨m, a7, c7, hm, rfl, rfl, hlt, hH⟩ := hrel
      have hs7 : Stable (sepR (rowR 3 1 (.slice a7 m c7) m (valCells (S.take m))) (sepR (refR b S) Q)) := sepR_stable (rowR_stable _ _ _ _ _) hs1
      obtain ⟨a, c, h2⟩ := (hH.conv Conv.exch).refOpen
      obtain ⟨c0, f0, hb, hsl⟩ := h2.refCells
      obtain ⟨b3, o3, z0, rfl, hb3, _, _⟩ := hsl.at_ hS0
      have gc := hsl.2.1
      have gm := hsl.2.2.1
      have H12 := Lib.hid h2
      have HH := Lib.hid hH
      have Hlt := Lib.hid hlt
      clear hH h2 hlt Hrel
      by_cases hml : m < S.length
      · obtain ⟨b4, o4, z, he, _, hz, hc⟩ := hsl.at_ hml
        simp only [Option.some.injEq, Addr.mk.injEq, and_true] at he
        obtain ⟨rfl, rfl⟩ := he
        have p0 := hc 0 _ rfl
        have p4 := hc 4 _ rfl
        simp only [Nat.add_zero] at p0
        have Hz := Lib.hid hz
        have i0 : (0 : Int) ≤ (m : Int) := by omega
        have i1 : (m : Int) < (S.length : Int) := by omega
        have d1 : decide (m < S.length) = true := by simpa using hml
        clear hsl hc hz
        cases hd : (z.k.at_ == tm)
        · have hbp := batch_at Htm.out Hlt.out (fun q hq => by rw [Hz.out] at hq; cases hq; simpa using hd)
          have Hbp := Lib.hid hbp
          clear hbp
          clear HH Hz Hlt
          have m0 : (0 : Int) ≤ (m : Int) := by omega
          have m1 : (m : Int) ≤ (c : Int) := by omega
          have m2 : (m : Int) ≤ (S.length : Int) := by omega
          have hsq := sepR_stable (readR_stable (enc := Ent.cells) 5 (some ⟨b3, o3, none⟩) S.length c S) (sepR_stable (rowR_stable 3 1 (.slice a7 m c7) m (valCells (S.take m))) hQ)
          by_cases hmc : m = c
          · exfalso
            omega
          · have hmc' : m < c := by omega
            have Htl := Lib.hid (show (S.take m).length = m by rw [List.length_take]; omega)
            have Hdl := Lib.hid (show S.length - m = (S.drop m).length by rw [List.length_drop])
            go_wp2_with fail
            have h13 := H12.out.boxPut hsq 0 (.slice (some ⟨b3, o3 + m * 5, none⟩) (S.length - m) (c - m))
            have h14 := h13.conv (Conv.right (Conv.left (readR_drop (m := m) hm)))
            refine bodyPost_ret (v := .tuple #[.int .i64 tm, .slice a7 m c7, .int .i64 0]) (by simp [results, Try.results29, go_sem]) rfl ⟨a7, c7, by rw [Hbp.out.1, Htl.out, Htm.out, Hfe.out], ?_⟩
            rw [Hbp.out.1, Hbp.out.2, Htl.out]
            rw [Hdl.out] at h14 ⊢
            exact h14.refShut.conv Conv.exch
        · have H9 := Lib.hid (HH.out.made hs7 ((Frm.refl _ _).alloc (.cells #[.int .i64 z.v] 3)))
          clear HH H12 f0
          go_wp2_with (at_builtin; refine Stop.of ?_)
          refine Stop.go ?_
          obtain ⟨j2, hj0, hj1, hj2, hj3⟩ := info_parts infoInt
          refine wpList_append_foot _ rfl _ _ 48 rfl 3 j2 (.int .i64 0) 1 8 Try.underlying48 hj0 hj1 hj2 hj3 rfl (by decide) (.slice a7 m c7) m (valCells (S.take m)) rfl H9.out.row ⟨_, 0, none⟩ 1 1 [.int .i64 z.v] rfl rfl (cells_at _ [.int .i64 z.v] _ _ (by simp)) (by simp [Value.oneCell']) (by unfold maxLen; omega) (by omega) ?_
          intro a8 c8 w8 hown hF hnew
          have h10 := H9.out.appended hs1 hown hF hnew
          rw [show [Value.int .i64 z.v] = valCells [z] from rfl, ← valCells_append] at h10
          have H10 := Lib.hid h10
          clear hown hF hnew h10 hj0 hj1 hj2 hj3 H9 p0 p4 c0
          go_wp2_with fail
          go_roundw
          case rel =>
            refine ⟨m + 1, a8, c8, by omega, rfl, by go_num, fun j q hj hq => ?_, ?_⟩
            · by_cases hjm : j = m
              · subst hjm
                rw [Hz.out] at hq
                cases hq
                simpa using hd
              · exact Hlt.out j q (by omega) hq
            · rw [List.take_add_one, Hz.out]
              exact H10.out
          case measure => simp [intOf]; omega
      · have hbp := batch_at Htm.out Hlt.out (fun q hq => by rw [List.getElem?_eq_none (by omega)] at hq; cases hq)
        have Hbp := Lib.hid hbp
        have d1 : decide (m < S.length) = false := by simpa using hml
        have d2 : decide ((m : Int) < (S.length : Int)) = false := by simpa using hml
        clear hbp hsl
        clear HH Hlt
        have m0 : (0 : Int) ≤ (m : Int) := by omega
        have m1 : (m : Int) ≤ (c : Int) := by omega
        have m2 : (m : Int) ≤ (S.length : Int) := by omega
        have hsq := sepR_stable (readR_stable (enc := Ent.cells) 5 (some ⟨b3, o3, none⟩) S.length c S) (sepR_stable (rowR_stable 3 1 (.slice a7 m c7) m (valCells (S.take m))) hQ)
        by_cases hmc : m = c
        · subst hmc
          have hmS : S.length = m := by omega
          have Hd0 := Lib.hid (show S.drop m = [] from List.drop_eq_nil_of_le (by omega))
          have Htl := Lib.hid (show (S.take m).length = m by rw [List.length_take]; omega)
          clear hmS
          go_wp2_with fail
          have h13 := H12.out.boxPut hsq 0 (.slice (some ⟨b3, o3, none⟩) 0 0)
          have h14 : Holds B w0 (sepR (boxR b #[.slice (some ⟨b3, o3, none⟩) ([] : List Ent).length 0] 30) (sepR (readR Ent.cells 5 (some ⟨b3, o3, none⟩) ([] : List Ent).length 0 []) (sepR (rowR 3 1 (.slice a7 m c7) m (valCells (S.take m))) Q))) _ L := h13.conv (Conv.right (Conv.left readR_end))
          refine bodyPost_ret (v := .tuple #[.int .i64 tm, .slice a7 m c7, .int .i64 0]) (by simp [results, Try.results29, go_sem]) rfl ⟨a7, c7, by rw [Hbp.out.1, Htl.out, Htm.out, Hfe.out], ?_⟩
          rw [Hbp.out.1, Hbp.out.2, Hd0.out, Htl.out]
          exact h14.refShut.conv Conv.exch
        · have hmc' : m < c := by omega
          have Htl := Lib.hid (show (S.take m).length = m by rw [List.length_take]; omega)
          have Hdl := Lib.hid (show S.length - m = (S.drop m).length by rw [List.length_drop])
          go_wp2_with fail
          have h13 := H12.out.boxPut hsq 0 (.slice (some ⟨b3, o3 + m * 5, none⟩) (S.length - m) (c - m))
          have h14 := h13.conv (Conv.right (Conv.left (readR_drop (m := m) hm)))
          refine bodyPost_ret (v := .tuple #[.int .i64 tm, .slice a7 m c7, .int .i64 0]) (by simp [results, Try.results29, go_sem]) rfl ⟨a7, c7, by rw [Hbp.out.1, Htl.out, Htm.out, Hfe.out], ?_⟩
          rw [Hbp.out.1, Hbp.out.2, Htl.out]
          rw [Hdl.out] at h14 ⊢
          exact h14.refShut.conv Conv.exch
end
end Go.Proofs.Ytclaicpnjllhjaa
