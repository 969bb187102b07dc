/- The document's answer: Push. -/
import Derived.Test.YtclaicpnjllhjaaHeapRef
namespace Go.Proofs.Ytclaicpnjllhjaa
open Go.RowKit Go.Maps

theorem idx_none {k : Kv} {S : List Ent} (h : findE k S = none) : idxE k S = -1 := by
  unfold idxE
  have h1 := findE_none h
  rw [List.findIdx?_eq_none_iff.2 (fun x hx => by simpa using h1 x hx)]
theorem idx_some {k : Kv} {S : List Ent} {x : Ent} (h : findE k S = some x) : ∃ i : Nat, idxE k S = (i : Int) ∧ i < S.length ∧ S[i]? = some x := by
  induction S with
  | nil => cases h
  | cons y S ih =>
    unfold findE at h
    rw [List.find?_cons] at h
    unfold idxE
    rw [List.findIdx?_cons]
    split at h
    · rename_i hy
      cases h
      rw [if_pos hy]
      exact ⟨0, rfl, by simp, rfl⟩
    · rename_i hy
      rw [if_neg (by simpa using hy)]
      obtain ⟨i, h1, h2, h3⟩ := ih h
      unfold idxE at h1
      cases hf : S.findIdx? (fun x => decide (x.k = k)) with
      | none => rw [hf] at h1; simp at h1
      | some j =>
        rw [hf] at h1
        simp at h1
        obtain rfl : j = i := by omega
        exact ⟨j + 1, rfl, by simp; omega, by simpa using h3⟩
theorem ins_at {x : Ent} : ∀ {S : List Ent} {m : Nat}, (∀ (j : Nat) (y : Ent), j < m → S[j]? = some y → y.k.lt x.k = true) → (∀ y, S[m]? = some y → y.k.lt x.k = false) → insE x S = S.take m ++ x :: S.drop m
  | [], m, _, _ => by simp [insE]
  | y :: S, 0, _, h => by rw [insE_cons, if_neg (by rw [h y rfl]; simp)]; rfl
  | y :: S, m + 1, h0, h => by
    rw [insE_cons, if_pos (h0 0 y (by omega) rfl), ins_at (m := m) (fun j z hj hz => h0 (j + 1) z (by omega) (by simpa using hz)) (fun z hz => h z (by simpa using hz))]
    rfl
section
variable {B : Nat} {w0 w : World} {Q : World → List Nat → Prop} {L : List (Nat × Obj)}
def RpRel (B : Nat) (w0 : World) (Q : World → List Nat → Prop) (L : List (Nat × Obj)) (b : Nat) (k : Kv) (S : List Ent) (ov iv : Value) (wr : World) : Prop :=
  ∃ (m : Nat) (a7 : Option Addr) (c7 : Nat), m ≤ S.length ∧ ov = .slice a7 m c7 ∧ iv = .int .i64 (m : Int) ∧ (∀ (j : Nat) (y : Ent), j < m → S[j]? = some y → y.k.lt k = true) ∧
    Holds B w0 (sepR (rowR 42 5 (.slice a7 m c7) m (flat Ent.cells (S.take m))) (sepR (refR b S) Q)) wr L

set_option maxHeartbeats 8000000 in
set_option maxRecDepth 100000 in
theorem rpush_goes (hQ : Stable Q) {b : Nat} {S : List Ent} (h : Holds B w0 (sepR (refR b S) Q) w L) (hn : S.length ≤ 200) (k : Kv) (v : Int) :
    Calls Try.prog 26 #[.pointer (some ⟨b, 0, none⟩), k.val, .int .i64 v] w (Goes (.int .i64 (pushE k S)) B w0 (sepR (refR b (pushS ⟨k, v⟩ S)) Q) L) := by
  have hs1 := sepR_stable (refR_stable b S) hQ
  have h1 := h.alloc hs1 (.cells #[.int .i64 k.at_, .int .i64 k.src, .int .i64 k.sent, .int .i64 k.no] 33)
  have hat := at_goes hQ h1 (by omega) k
  cases hf : findE k S with
  | some x =>
    obtain ⟨e1, e2⟩ := push_some (x := ⟨k, v⟩) hf
    obtain ⟨i, h2, h3, _⟩ := idx_some hf
    rw [h2] at hat
    simp only at e1
    rw [e1, e2]
    have Hat := Lib.hid hat
    have r0 := (cells4 (h1.box (k := w.heap.size) (o := .cells #[.int .i64 k.at_, .int .i64 k.src, .int .i64 k.sent, .int .i64 k.no] 33) (by simp)))
    have i0 : (0 : Int) ≤ (i : Int) := by omega
    clear hat h1 h e1 e2 hf h2 h3 r0
    go_enter Try.func26, Try.ntmps26
    go_wp2_with fail
    refine Hat.out.mono ?_
    rintro e w1 ⟨rfl, h2⟩
    have H2 := Lib.hid h2
    clear h2
    go_wp2_with fail
    go_ret
    exact ⟨rfl, H2.out.sub (fun p hp => by simp [hp])⟩
  | none =>
    obtain ⟨e1, e2⟩ := push_none (x := ⟨k, v⟩) hf
    rw [idx_none hf] at hat
    simp only at e1
    rw [e1, e2]
    have Hat := Lib.hid hat
    clear hat h1 h e1 e2 hf
    go_enter Try.func26, Try.ntmps26
    go_wp2_with fail
    refine Hat.out.mono ?_
    rintro e w1 ⟨rfl, h2⟩
    have hrel : RpRel B w0 Q ((w.heap.size, .cells #[.int .i64 k.at_, .int .i64 k.src, .int .i64 k.sent, .int .i64 k.no] 33) :: L) b k S (.slice none 0 0) (.int .i64 0) w1 := ⟨0, none, 0, Nat.zero_le _, rfl, rfl, fun j y hj => absurd hj (Nat.not_lt_zero _), h2.nilRow 42 5⟩
    have Hrel := Lib.hid hrel
    clear h2 hrel Hat
    go_wp2_with fail
    go_loopw [7, 8] (fun ov iv wr => RpRel B w0 Q ((w.heap.size, .cells #[.int .i64 k.at_, .int .i64 k.src, .int .i64 k.sent, .int .i64 k.no] 33) :: L) b k S ov iv wr) (fun _ iv _ => S.length - (intOf iv).toNat)
    case atStart => exact Hrel.out
    case round =>
      obtain ⟨m, a7, c7, hm, rfl, rfl, hlt, hH⟩ := hrel
      have hs7 : Stable (sepR (rowR 42 5 (.slice a7 m c7) m (flat Ent.cells (S.take m))) (sepR (refR b S) Q)) := sepR_stable (rowR_stable _ _ _ _ _) hs1
      obtain ⟨a, c, h2⟩ := (hH.conv Conv.exch).refOpen
      obtain ⟨c0, f0, hb, hsl⟩ := h2.refCells
      obtain ⟨r0, r1, r2, r3⟩ := cells4 (hH.box (k := w.heap.size) (o := .cells #[.int .i64 k.at_, .int .i64 k.src, .int .i64 k.sent, .int .i64 k.no] 33) (by simp))
      have z0 := World.block_lt_of_cell? _ _ r0
      dsimp only at z0
      have HH := Lib.hid hH
      have Hlt := Lib.hid hlt
      clear hH h2 hlt Hrel f0
      by_cases hml : m < S.length
      · obtain ⟨b1, o1, y, rfl, hb1, hy, hc⟩ := hsl.at_ hml
        have p0 := hc 0 _ rfl
        have p1 := hc 1 _ rfl
        have p2 := hc 2 _ rfl
        have p3 := hc 3 _ rfl
        have p4 := hc 4 _ rfl
        simp only [Nat.add_zero] at p0
        have gc := hsl.2.1
        have Hy := Lib.hid hy
        have i0 : (0 : Int) ≤ (m : Int) := by omega
        have i1 : (m : Int) < (S.length : Int) := by omega
        have d1 : decide (m < S.length) = true := by simpa using hml
        clear hsl hc hy
        have hlc := fun w => less_any y.k k w
        cases hd : y.k.lt k
        · simp only [hd] at hlc
          have Hlc := Lib.hid hlc
          have hins := ins_at (x := ⟨k, v⟩) Hlt.out (fun z hz => by rw [Hy.out] at hz; cases hz; exact hd)
          have Hins := Lib.hid hins
          clear hlc hins
          go_wp2_with fail
          go_region_held3 (fun w' => w'.cell? ⟨b, 0, none⟩ = some (.slice (some ⟨b1, o1, none⟩) S.length c) ∧ w'.cell? ⟨b1, o1 + m * 5, none⟩ = some (.int .i64 y.k.at_) ∧ w'.cell? ⟨b1, o1 + m * 5 + 1, none⟩ = some (.int .i64 y.k.src) ∧ w'.cell? ⟨b1, o1 + m * 5 + 2, none⟩ = some (.int .i64 y.k.sent) ∧ w'.cell? ⟨b1, o1 + m * 5 + 3, none⟩ = some (.int .i64 y.k.no) ∧
              w'.cell? ⟨w.heap.size, 0, none⟩ = some (.int .i64 k.at_) ∧ w'.cell? ⟨w.heap.size, 1, none⟩ = some (.int .i64 k.src) ∧ w'.cell? ⟨w.heap.size, 2, none⟩ = some (.int .i64 k.sent) ∧ w'.cell? ⟨w.heap.size, 3, none⟩ = some (.int .i64 k.no))
            (first | go_keep | exact ⟨hf.cell c0 (by simp), hf.cell p0 (by simp), hf.cell p1 (by simp), hf.cell p2 (by simp), hf.cell p3 (by simp), hf.cell r0 (by simp), hf.cell r1 (by simp), hf.cell r2 (by simp), hf.cell r3 (by simp)⟩)
            ((go_at_call 40; refine (Hlc.out _).mono ?_; rintro e W ⟨rfl, hf⟩))
          have h9 := (show Holds B w0 (sepR (rowR 42 5 (.slice a7 m c7) m (flat Ent.cells (S.take m))) (sepR (refR b S) Q)) W _ from by first | exact HH.out.made hs7 hf | exact (HH.out.drew hs7).made hs7 hf)
          have H9 := Lib.hid h9
          have hm : m ≤ S.length := by omega
          clear h9 HH hf p0 p1 p2 p3 p4 r0 r1 r2 r3 z0 c0 hb hb1 gc d1 hml i0 i1 Hy Hlt Hlc
          obtain ⟨r0, r1, r2, r3⟩ := cells4 (H9.out.box (k := w.heap.size) (o := .cells #[.int .i64 k.at_, .int .i64 k.src, .int .i64 k.sent, .int .i64 k.no] 33) (by simp))
          have z0 := World.block_lt_of_cell? _ _ r0
          dsimp only at z0
          have H10 := Lib.hid (H9.out.made hs7 ((Frm.refl _ _).alloc (.cells #[.int .i64 k.at_, .int .i64 k.src, .int .i64 k.sent, .int .i64 k.no, .int .i64 v] 42)))
          go_wp2_with (at_builtin; refine Stop.of ?_)
          refine Stop.go ?_
          obtain ⟨i1, hj0, hj1, hj2, hj3⟩ := info_parts infoThing
          refine wpList_append_foot _ rfl _ _ 28 rfl 42 i1 (.agg #[.int .i64 0, .int .i64 0, .int .i64 0, .int .i64 0, .int .i64 0]) 5 40 Try.underlying28 hj0 hj1 hj2 hj3 rfl (by decide) (.slice a7 m c7) m (flat Ent.cells (S.take m)) rfl H10.out.row ⟨_, 0, none⟩ 1 1 (Ent.cells ⟨k, v⟩) rfl rfl (cells_at _ (Ent.cells ⟨k, v⟩) _ _ (by simp)) (ent_one ⟨k, v⟩) (by unfold maxLen; omega) (by omega) ?_
          intro a8 c8 w8 hown hF hnew
          have h8 := H10.out.appended hs1 hown hF hnew
          rw [show Ent.cells ⟨k, v⟩ = flat Ent.cells [⟨k, v⟩] from (flat_single _).symm, ← flat_append] at h8
          have h11 := h8.conv Conv.exch
          clear hown hF hnew h8 hj0 hj1 hj2 hj3 r0 r1 r2 r3 z0 H9 H10
          obtain ⟨a, c, h12⟩ := h11.refOpen
          obtain ⟨c0, f0, hb, hsl⟩ := h12.refCells
          have hrd := (h12.drop).reads
          have h14 := h12.conv Conv.third
          have H14 := Lib.hid h14
          have Hsl := Lib.hid hsl
          have gc := hsl.2.1
          have gm := hsl.2.2.1
          clear h11 h12 h14 hsl f0
          by_cases hm0 : S.length = 0
          · obtain rfl : S = [] := List.eq_nil_of_length_eq_zero hm0
            obtain rfl : m = 0 := by simpa using hm
            cases a with
            | none =>
              have hc0 := (hrd.2 rfl).2
              subst hc0
              clear hrd
              go_wp2_with (at_builtin; refine Stop.of ?_)
              refine Stop.go ?_
              obtain ⟨i1, hj0, hj1, hj2, hj3⟩ := info_parts infoThing
              refine wpList_append_sl _ rfl _ _ 28 rfl 42 i1 (.agg #[.int .i64 0, .int .i64 0, .int .i64 0, .int .i64 0, .int .i64 0]) 5 40 Try.underlying28 hj0 hj1 hj2 hj3 rfl (by decide) (.slice a8 (0 + 1) c8) (0 + 1) (flat Ent.cells (List.take 0 ([] : List Ent) ++ [⟨k, v⟩])) rfl H14.out.row none 0 0 [] rfl (SlAt.nil _ _ _ _) (fun _ => ⟨rfl, rfl⟩) ent_len ent_one (by unfold maxLen; omega) (by omega) ?_
              intro a9 c9 w9 hown hF hnew
              have h15 := H14.out.appended (sepR_stable (boxR_stable _ _ _) (sepR_stable (readR_stable _ _ _ _ _) hQ)) hown hF hnew
              rw [← flat_append] at h15
              have h16 := h15.conv Conv.exch
              have h17 := h16.boxPut (sepR_stable (rowR_stable _ _ _ _ _) (sepR_stable (readR_stable _ _ _ _ _) hQ)) 0 (.slice a9 (0 + 1 + 0) c9)
              have c1 := cells1 h16.theBox
              have f1 := frozen_of_obj h16.theBox 0
              have hb1 := lt_of_obj h16.theBox
              have hfl : List.take 0 ([] : List Ent) ++ [(⟨k, v⟩ : Ent)] ++ [] = insE ⟨k, v⟩ ([] : List Ent) := by rfl
              rw [hfl] at h17
              have hml : 0 + 1 + 0 = (insE ⟨k, v⟩ ([] : List Ent)).length := by rw [← hfl]; simp; try omega
              have Hml := Lib.hid hml
              have H17 := Lib.hid h17
              clear hown hF hnew h15 h16 h17 hj0 hj1 hj2 hj3 hfl hml
              go_wp2_with fail
              go_ret
              refine ⟨rfl, ?_⟩

              have h18 := H17.out
              rw [Hml.out] at h18
              have h19 := (h18.conv Conv.exch).toRead ent_len rfl
              exact (((h19.conv Conv.exch).conv Conv.third).drop.refShut).sub (M := L) (fun p hp => by simp [hp])
            | some ad =>
              clear hrd
              go_wp2_with (at_builtin; refine Stop.of ?_)
              refine Stop.go ?_
              obtain ⟨i1, hj0, hj1, hj2, hj3⟩ := info_parts infoThing
              refine wpList_append_sl _ rfl _ _ 28 rfl 42 i1 (.agg #[.int .i64 0, .int .i64 0, .int .i64 0, .int .i64 0, .int .i64 0]) 5 40 Try.underlying28 hj0 hj1 hj2 hj3 rfl (by decide) (.slice a8 (0 + 1) c8) (0 + 1) (flat Ent.cells (List.take 0 ([] : List Ent) ++ [⟨k, v⟩])) rfl H14.out.row _ 0 _ [] rfl ⟨rfl, Nat.zero_le _, by omega, .inl rfl⟩ (fun h => by cases h) ent_len ent_one (by unfold maxLen; omega) (by omega) ?_
              intro a9 c9 w9 hown hF hnew
              have h15 := H14.out.appended (sepR_stable (boxR_stable _ _ _) (sepR_stable (readR_stable _ _ _ _ _) hQ)) hown hF hnew
              rw [← flat_append] at h15
              have h16 := h15.conv Conv.exch
              have h17 := h16.boxPut (sepR_stable (rowR_stable _ _ _ _ _) (sepR_stable (readR_stable _ _ _ _ _) hQ)) 0 (.slice a9 (0 + 1 + 0) c9)
              have c1 := cells1 h16.theBox
              have f1 := frozen_of_obj h16.theBox 0
              have hb1 := lt_of_obj h16.theBox
              have hfl : List.take 0 ([] : List Ent) ++ [(⟨k, v⟩ : Ent)] ++ [] = insE ⟨k, v⟩ ([] : List Ent) := by rfl
              rw [hfl] at h17
              have hml : 0 + 1 + 0 = (insE ⟨k, v⟩ ([] : List Ent)).length := by rw [← hfl]; simp; try omega
              have Hml := Lib.hid hml
              have H17 := Lib.hid h17
              clear hown hF hnew h15 h16 h17 hj0 hj1 hj2 hj3 hfl hml
              go_wp2_with fail
              go_ret
              refine ⟨rfl, ?_⟩

              have h18 := H17.out
              rw [Hml.out] at h18
              have h19 := (h18.conv Conv.exch).toRead ent_len rfl
              exact (((h19.conv Conv.exch).conv Conv.third).drop.refShut).sub (M := L) (fun p hp => by simp [hp])
          · obtain ⟨b1, o1, y0, rfl, _, _, _⟩ := Hsl.out.at_ (i := 0) (by omega)
            clear hrd
            have m0 : (0 : Int) ≤ (m : Int) := by omega
            have m1 : (m : Int) ≤ (c : Int) := by omega
            have m2 : (m : Int) ≤ (S.length : Int) := by omega
            by_cases hmc : m = c
            · subst hmc
              obtain rfl : m = S.length := by omega
              go_wp2_with (at_builtin; refine Stop.of ?_)
              refine Stop.go ?_
              obtain ⟨i1, hj0, hj1, hj2, hj3⟩ := info_parts infoThing
              refine wpList_append_sl _ rfl _ _ 28 rfl 42 i1 (.agg #[.int .i64 0, .int .i64 0, .int .i64 0, .int .i64 0, .int .i64 0]) 5 40 Try.underlying28 hj0 hj1 hj2 hj3 rfl (by decide) (.slice a8 (S.length + 1) c8) (S.length + 1) (flat Ent.cells (List.take S.length S ++ [⟨k, v⟩])) rfl H14.out.row _ 0 0 [] rfl (SlAt.nil _ _ _ _) (fun h => by cases h) ent_len ent_one (by unfold maxLen; omega) (by omega) ?_
              intro a9 c9 w9 hown hF hnew
              have h15 := H14.out.appended (sepR_stable (boxR_stable _ _ _) (sepR_stable (readR_stable _ _ _ _ _) hQ)) hown hF hnew
              rw [← flat_append] at h15
              have h16 := h15.conv Conv.exch
              have h17 := h16.boxPut (sepR_stable (rowR_stable _ _ _ _ _) (sepR_stable (readR_stable _ _ _ _ _) hQ)) 0 (.slice a9 (S.length + 1 + 0) c9)
              have c1 := cells1 h16.theBox
              have f1 := frozen_of_obj h16.theBox 0
              have hb1 := lt_of_obj h16.theBox
              have hfl : List.take S.length S ++ [(⟨k, v⟩ : Ent)] ++ [] = insE ⟨k, v⟩ S := by rw [Hins.out, List.take_length, List.drop_length]; simp
              rw [hfl] at h17
              have hml : S.length + 1 + 0 = (insE ⟨k, v⟩ S).length := by rw [← hfl]; simp; try omega
              have Hml := Lib.hid hml
              have H17 := Lib.hid h17
              clear hown hF hnew h15 h16 h17 hj0 hj1 hj2 hj3 hfl hml
              go_wp2_with fail
              go_ret
              refine ⟨rfl, ?_⟩
              rw [show S.length + 1 = _ from Hml.out]
              have h18 := H17.out
              rw [Hml.out] at h18
              have h19 := (h18.conv Conv.exch).toRead ent_len rfl
              exact (((h19.conv Conv.exch).conv Conv.third).drop.refShut).sub (M := L) (fun p hp => by simp [hp])
            · have hmc' : m < c := by omega
              have Hd := Lib.hid (Hsl.out.drop hm)
              go_wp2_with (at_builtin; refine Stop.of ?_)
              refine Stop.go ?_
              obtain ⟨i1, hj0, hj1, hj2, hj3⟩ := info_parts infoThing
              refine wpList_append_sl _ rfl _ _ 28 rfl 42 i1 (.agg #[.int .i64 0, .int .i64 0, .int .i64 0, .int .i64 0, .int .i64 0]) 5 40 Try.underlying28 hj0 hj1 hj2 hj3 rfl (by decide) (.slice a8 (m + 1) c8) (m + 1) (flat Ent.cells (List.take m S ++ [⟨k, v⟩])) rfl H14.out.row _ (S.length - m) (c - m) (S.drop m) rfl Hd.out (fun h => by cases h) ent_len ent_one (by unfold maxLen; omega) (by omega) ?_
              intro a9 c9 w9 hown hF hnew
              have h15 := H14.out.appended (sepR_stable (boxR_stable _ _ _) (sepR_stable (readR_stable _ _ _ _ _) hQ)) hown hF hnew
              rw [← flat_append] at h15
              have h16 := h15.conv Conv.exch
              have h17 := h16.boxPut (sepR_stable (rowR_stable _ _ _ _ _) (sepR_stable (readR_stable _ _ _ _ _) hQ)) 0 (.slice a9 (m + 1 + (S.length - m)) c9)
              have c1 := cells1 h16.theBox
              have f1 := frozen_of_obj h16.theBox 0
              have hb1 := lt_of_obj h16.theBox
              have hfl : List.take m S ++ [(⟨k, v⟩ : Ent)] ++ (S.drop m) = insE ⟨k, v⟩ S := by rw [Hins.out]; simp
              rw [hfl] at h17
              have hml : m + 1 + (S.length - m) = (insE ⟨k, v⟩ S).length := by rw [← hfl]; simp; try omega
              have Hml := Lib.hid hml
              have H17 := Lib.hid h17
              clear hown hF hnew h15 h16 h17 hj0 hj1 hj2 hj3 hfl hml
              go_wp2_with fail
              go_ret
              refine ⟨rfl, ?_⟩
              rw [Hml.out]
              have h18 := H17.out
              rw [Hml.out] at h18
              have h19 := (h18.conv Conv.exch).toRead ent_len rfl
              exact (((h19.conv Conv.exch).conv Conv.third).drop.refShut).sub (M := L) (fun p hp => by simp [hp])
        · simp only [hd] at hlc
          have Hlc := Lib.hid hlc
          clear hlc
          go_wp2_with fail
          go_region_held3 (fun w' => w'.cell? ⟨b, 0, none⟩ = some (.slice (some ⟨b1, o1, none⟩) S.length c) ∧ w'.cell? ⟨b1, o1 + m * 5, none⟩ = some (.int .i64 y.k.at_) ∧ w'.cell? ⟨b1, o1 + m * 5 + 1, none⟩ = some (.int .i64 y.k.src) ∧ w'.cell? ⟨b1, o1 + m * 5 + 2, none⟩ = some (.int .i64 y.k.sent) ∧ w'.cell? ⟨b1, o1 + m * 5 + 3, none⟩ = some (.int .i64 y.k.no) ∧
              w'.cell? ⟨w.heap.size, 0, none⟩ = some (.int .i64 k.at_) ∧ w'.cell? ⟨w.heap.size, 1, none⟩ = some (.int .i64 k.src) ∧ w'.cell? ⟨w.heap.size, 2, none⟩ = some (.int .i64 k.sent) ∧ w'.cell? ⟨w.heap.size, 3, none⟩ = some (.int .i64 k.no))
            (first | go_keep | exact ⟨hf.cell c0 (by simp), hf.cell p0 (by simp), hf.cell p1 (by simp), hf.cell p2 (by simp), hf.cell p3 (by simp), hf.cell r0 (by simp), hf.cell r1 (by simp), hf.cell r2 (by simp), hf.cell r3 (by simp)⟩)
            ((go_at_call 40; refine (Hlc.out _).mono ?_; rintro e W ⟨rfl, hf⟩))
          have h9 := (show Holds B w0 (sepR (rowR 42 5 (.slice a7 m c7) m (flat Ent.cells (S.take m))) (sepR (refR b S) Q)) W _ from by first | exact HH.out.made hs7 hf | exact (HH.out.drew hs7).made hs7 hf)
          have H9 := Lib.hid (h9.made hs7 ((Frm.refl _ _).alloc (.cells #[.int .i64 y.k.at_, .int .i64 y.k.src, .int .i64 y.k.sent, .int .i64 y.k.no, .int .i64 y.v] 42)))
          have e0 : W.cell? ⟨b1, o1 + m * 5 + 4, none⟩ = some (.int .i64 y.v) := hf.cell p4 (by simp)
          have hbw := hf.size
          clear h9 HH hf p0 p1 p2 p3 p4 r0 r1 r2 r3 z0 c0 d1
          go_wp2_with (at_builtin; refine Stop.of ?_)
          refine Stop.go ?_
          obtain ⟨i1, hj0, hj1, hj2, hj3⟩ := info_parts infoThing
          refine wpList_append_foot _ rfl _ _ 28 rfl 42 i1 (.agg #[.int .i64 0, .int .i64 0, .int .i64 0, .int .i64 0, .int .i64 0]) 5 40 Try.underlying28 hj0 hj1 hj2 hj3 rfl (by decide) (.slice a7 m c7) m (flat Ent.cells (S.take m)) rfl H9.out.row ⟨_, 0, none⟩ 1 1 y.cells rfl rfl (cells_at _ y.cells _ _ (by simp)) (ent_one y) (by unfold maxLen; omega) (by omega) ?_
          intro a8 c8 w8 hown hF hnew
          have h10 := H9.out.appended hs1 hown hF hnew
          rw [show y.cells = flat Ent.cells [y] from (flat_single _).symm, ← flat_append] at h10
          have H10 := Lib.hid h10
          clear hown hF hnew h10 hj0 hj1 hj2 hj3 H9 e0
          go_wp2_with fail
          go_roundw
          case rel =>
            refine ⟨m + 1, a8, c8, by omega, rfl, by go_num, fun j z hj hz => ?_, ?_⟩
            · by_cases hjm : j = m
              · subst hjm
                rw [Hy.out] at hz
                cases hz
                exact hd
              · exact Hlt.out j z (by omega) hz
            · rw [List.take_add_one, Hy.out]
              exact H10.out
          case measure => simp [intOf]; omega
      · have hins := ins_at (x := ⟨k, v⟩) Hlt.out (fun z hz => by rw [List.getElem?_eq_none (by omega)] at hz; cases hz)
        have Hins := Lib.hid hins
        have d1 : decide (m < S.length) = false := by simpa using hml
        have d2 : decide ((m : Int) < (S.length : Int)) = false := by simpa using hml
        clear hins hsl
        go_wp2_with fail
        go_quiet (fail)
        have H9 := Lib.hid (HH.out.drewN hs7 nq)
        clear HH r0 r1 r2 r3 z0 c0 hb d1 d2 Hlt
        obtain ⟨r0, r1, r2, r3⟩ := cells4 (H9.out.box (k := w.heap.size) (o := .cells #[.int .i64 k.at_, .int .i64 k.src, .int .i64 k.sent, .int .i64 k.no] 33) (by simp))
        have z0 := World.block_lt_of_cell? _ _ r0
        dsimp only at z0
        have H10 := Lib.hid (H9.out.made hs7 ((Frm.refl _ _).alloc (.cells #[.int .i64 k.at_, .int .i64 k.src, .int .i64 k.sent, .int .i64 k.no, .int .i64 v] 42)))
        go_wp2_with (at_builtin; refine Stop.of ?_)
        refine Stop.go ?_
        obtain ⟨i1, hj0, hj1, hj2, hj3⟩ := info_parts infoThing
        refine wpList_append_foot _ rfl _ _ 28 rfl 42 i1 (.agg #[.int .i64 0, .int .i64 0, .int .i64 0, .int .i64 0, .int .i64 0]) 5 40 Try.underlying28 hj0 hj1 hj2 hj3 rfl (by decide) (.slice a7 m c7) m (flat Ent.cells (S.take m)) rfl H10.out.row ⟨_, 0, none⟩ 1 1 (Ent.cells ⟨k, v⟩) rfl rfl (cells_at _ (Ent.cells ⟨k, v⟩) _ _ (by simp)) (ent_one ⟨k, v⟩) (by unfold maxLen; omega) (by omega) ?_
        intro a8 c8 w8 hown hF hnew
        have h8 := H10.out.appended hs1 hown hF hnew
        rw [show Ent.cells ⟨k, v⟩ = flat Ent.cells [⟨k, v⟩] from (flat_single _).symm, ← flat_append] at h8
        have h11 := h8.conv Conv.exch
        clear hown hF hnew h8 hj0 hj1 hj2 hj3 r0 r1 r2 r3 z0 H9 H10
        obtain ⟨a, c, h12⟩ := h11.refOpen
        obtain ⟨c0, f0, hb, hsl⟩ := h12.refCells
        have hrd := (h12.drop).reads
        have h14 := h12.conv Conv.third
        have H14 := Lib.hid h14
        have Hsl := Lib.hid hsl
        have gc := hsl.2.1
        have gm := hsl.2.2.1
        clear h11 h12 h14 hsl f0
        by_cases hm0 : S.length = 0
        · obtain rfl : S = [] := List.eq_nil_of_length_eq_zero hm0
          obtain rfl : m = 0 := by simpa using hm
          cases a with
          | none =>
            have hc0 := (hrd.2 rfl).2
            subst hc0
            clear hrd
            go_wp2_with (at_builtin; refine Stop.of ?_)
            refine Stop.go ?_
            obtain ⟨i1, hj0, hj1, hj2, hj3⟩ := info_parts infoThing
            refine wpList_append_sl _ rfl _ _ 28 rfl 42 i1 (.agg #[.int .i64 0, .int .i64 0, .int .i64 0, .int .i64 0, .int .i64 0]) 5 40 Try.underlying28 hj0 hj1 hj2 hj3 rfl (by decide) (.slice a8 (0 + 1) c8) (0 + 1) (flat Ent.cells (List.take 0 ([] : List Ent) ++ [⟨k, v⟩])) rfl H14.out.row none 0 0 [] rfl (SlAt.nil _ _ _ _) (fun _ => ⟨rfl, rfl⟩) ent_len ent_one (by unfold maxLen; omega) (by omega) ?_
            intro a9 c9 w9 hown hF hnew
            have h15 := H14.out.appended (sepR_stable (boxR_stable _ _ _) (sepR_stable (readR_stable _ _ _ _ _) hQ)) hown hF hnew
            rw [← flat_append] at h15
            have h16 := h15.conv Conv.exch
            have h17 := h16.boxPut (sepR_stable (rowR_stable _ _ _ _ _) (sepR_stable (readR_stable _ _ _ _ _) hQ)) 0 (.slice a9 (0 + 1 + 0) c9)
            have c1 := cells1 h16.theBox
            have f1 := frozen_of_obj h16.theBox 0
            have hb1 := lt_of_obj h16.theBox
            have hfl : List.take 0 ([] : List Ent) ++ [(⟨k, v⟩ : Ent)] ++ [] = insE ⟨k, v⟩ ([] : List Ent) := by rfl
            rw [hfl] at h17
            have hml : 0 + 1 + 0 = (insE ⟨k, v⟩ ([] : List Ent)).length := by rw [← hfl]; simp; try omega
            have Hml := Lib.hid hml
            have H17 := Lib.hid h17
            clear hown hF hnew h15 h16 h17 hj0 hj1 hj2 hj3 hfl hml
            go_wp2_with fail
            go_ret
            refine ⟨rfl, ?_⟩

            have h18 := H17.out
            rw [Hml.out] at h18
            have h19 := (h18.conv Conv.exch).toRead ent_len rfl
            exact (((h19.conv Conv.exch).conv Conv.third).drop.refShut).sub (M := L) (fun p hp => by simp [hp])
          | some ad =>
            clear hrd
            go_wp2_with (at_builtin; refine Stop.of ?_)
            refine Stop.go ?_
            obtain ⟨i1, hj0, hj1, hj2, hj3⟩ := info_parts infoThing
            refine wpList_append_sl _ rfl _ _ 28 rfl 42 i1 (.agg #[.int .i64 0, .int .i64 0, .int .i64 0, .int .i64 0, .int .i64 0]) 5 40 Try.underlying28 hj0 hj1 hj2 hj3 rfl (by decide) (.slice a8 (0 + 1) c8) (0 + 1) (flat Ent.cells (List.take 0 ([] : List Ent) ++ [⟨k, v⟩])) rfl H14.out.row _ 0 _ [] rfl ⟨rfl, Nat.zero_le _, by omega, .inl rfl⟩ (fun h => by cases h) ent_len ent_one (by unfold maxLen; omega) (by omega) ?_
            intro a9 c9 w9 hown hF hnew
            have h15 := H14.out.appended (sepR_stable (boxR_stable _ _ _) (sepR_stable (readR_stable _ _ _ _ _) hQ)) hown hF hnew
            rw [← flat_append] at h15
            have h16 := h15.conv Conv.exch
            have h17 := h16.boxPut (sepR_stable (rowR_stable _ _ _ _ _) (sepR_stable (readR_stable _ _ _ _ _) hQ)) 0 (.slice a9 (0 + 1 + 0) c9)
            have c1 := cells1 h16.theBox
            have f1 := frozen_of_obj h16.theBox 0
            have hb1 := lt_of_obj h16.theBox
            have hfl : List.take 0 ([] : List Ent) ++ [(⟨k, v⟩ : Ent)] ++ [] = insE ⟨k, v⟩ ([] : List Ent) := by rfl
            rw [hfl] at h17
            have hml : 0 + 1 + 0 = (insE ⟨k, v⟩ ([] : List Ent)).length := by rw [← hfl]; simp; try omega
            have Hml := Lib.hid hml
            have H17 := Lib.hid h17
            clear hown hF hnew h15 h16 h17 hj0 hj1 hj2 hj3 hfl hml
            go_wp2_with fail
            go_ret
            refine ⟨rfl, ?_⟩

            have h18 := H17.out
            rw [Hml.out] at h18
            have h19 := (h18.conv Conv.exch).toRead ent_len rfl
            exact (((h19.conv Conv.exch).conv Conv.third).drop.refShut).sub (M := L) (fun p hp => by simp [hp])
        · obtain ⟨b1, o1, y0, rfl, _, _, _⟩ := Hsl.out.at_ (i := 0) (by omega)
          clear hrd
          have m0 : (0 : Int) ≤ (m : Int) := by omega
          have m1 : (m : Int) ≤ (c : Int) := by omega
          have m2 : (m : Int) ≤ (S.length : Int) := by omega
          by_cases hmc : m = c
          · subst hmc
            obtain rfl : m = S.length := by omega
            go_wp2_with (at_builtin; refine Stop.of ?_)
            refine Stop.go ?_
            obtain ⟨i1, hj0, hj1, hj2, hj3⟩ := info_parts infoThing
            refine wpList_append_sl _ rfl _ _ 28 rfl 42 i1 (.agg #[.int .i64 0, .int .i64 0, .int .i64 0, .int .i64 0, .int .i64 0]) 5 40 Try.underlying28 hj0 hj1 hj2 hj3 rfl (by decide) (.slice a8 (S.length + 1) c8) (S.length + 1) (flat Ent.cells (List.take S.length S ++ [⟨k, v⟩])) rfl H14.out.row _ 0 0 [] rfl (SlAt.nil _ _ _ _) (fun h => by cases h) ent_len ent_one (by unfold maxLen; omega) (by omega) ?_
            intro a9 c9 w9 hown hF hnew
            have h15 := H14.out.appended (sepR_stable (boxR_stable _ _ _) (sepR_stable (readR_stable _ _ _ _ _) hQ)) hown hF hnew
            rw [← flat_append] at h15
            have h16 := h15.conv Conv.exch
            have h17 := h16.boxPut (sepR_stable (rowR_stable _ _ _ _ _) (sepR_stable (readR_stable _ _ _ _ _) hQ)) 0 (.slice a9 (S.length + 1 + 0) c9)
            have c1 := cells1 h16.theBox
            have f1 := frozen_of_obj h16.theBox 0
            have hb1 := lt_of_obj h16.theBox
            have hfl : List.take S.length S ++ [(⟨k, v⟩ : Ent)] ++ [] = insE ⟨k, v⟩ S := by rw [Hins.out, List.take_length, List.drop_length]; simp
            rw [hfl] at h17
            have hml : S.length + 1 + 0 = (insE ⟨k, v⟩ S).length := by rw [← hfl]; simp; try omega
            have Hml := Lib.hid hml
            have H17 := Lib.hid h17
            clear hown hF hnew h15 h16 h17 hj0 hj1 hj2 hj3 hfl hml
            go_wp2_with fail
            go_ret
            refine ⟨rfl, ?_⟩
            rw [show S.length + 1 = _ from Hml.out]
            have h18 := H17.out
            rw [Hml.out] at h18
            have h19 := (h18.conv Conv.exch).toRead ent_len rfl
            exact (((h19.conv Conv.exch).conv Conv.third).drop.refShut).sub (M := L) (fun p hp => by simp [hp])
          · have hmc' : m < c := by omega
            have Hd := Lib.hid (Hsl.out.drop hm)
            go_wp2_with (at_builtin; refine Stop.of ?_)
            refine Stop.go ?_
            obtain ⟨i1, hj0, hj1, hj2, hj3⟩ := info_parts infoThing
            refine wpList_append_sl _ rfl _ _ 28 rfl 42 i1 (.agg #[.int .i64 0, .int .i64 0, .int .i64 0, .int .i64 0, .int .i64 0]) 5 40 Try.underlying28 hj0 hj1 hj2 hj3 rfl (by decide) (.slice a8 (m + 1) c8) (m + 1) (flat Ent.cells (List.take m S ++ [⟨k, v⟩])) rfl H14.out.row _ (S.length - m) (c - m) (S.drop m) rfl Hd.out (fun h => by cases h) ent_len ent_one (by unfold maxLen; omega) (by omega) ?_
            intro a9 c9 w9 hown hF hnew
            have h15 := H14.out.appended (sepR_stable (boxR_stable _ _ _) (sepR_stable (readR_stable _ _ _ _ _) hQ)) hown hF hnew
            rw [← flat_append] at h15
            have h16 := h15.conv Conv.exch
            have h17 := h16.boxPut (sepR_stable (rowR_stable _ _ _ _ _) (sepR_stable (readR_stable _ _ _ _ _) hQ)) 0 (.slice a9 (m + 1 + (S.length - m)) c9)
            have c1 := cells1 h16.theBox
            have f1 := frozen_of_obj h16.theBox 0
            have hb1 := lt_of_obj h16.theBox
            have hfl : List.take m S ++ [(⟨k, v⟩ : Ent)] ++ (S.drop m) = insE ⟨k, v⟩ S := by rw [Hins.out]; simp
            rw [hfl] at h17
            have hml : m + 1 + (S.length - m) = (insE ⟨k, v⟩ S).length := by rw [← hfl]; simp; try omega
            have Hml := Lib.hid hml
            have H17 := Lib.hid h17
            clear hown hF hnew h15 h16 h17 hj0 hj1 hj2 hj3 hfl hml
            go_wp2_with fail
            go_ret
            refine ⟨rfl, ?_⟩
            rw [Hml.out]
            have h18 := H17.out
            rw [Hml.out] at h18
            have h19 := (h18.conv Conv.exch).toRead ent_len rfl
            exact (((h19.conv Conv.exch).conv Conv.third).drop.refShut).sub (M := L) (fun p hp => by simp [hp])
end
end Go.Proofs.Ytclaicpnjllhjaa
