/- The document's answer: Pull. -/
import Derived.Test.YtclaicpnjllhjaaHeapRefP
namespace Go.Proofs.Ytclaicpnjllhjaa
open Go.RowKit Go.Maps

theorem del_none {k : Kv} {S : List Ent} (h : findE k S = none) : delE k S = S := by
  unfold delE
  rw [List.filter_eq_self]
  intro y hy
  simpa using findE_none h y hy
theorem del_at {k : Kv} {S : List Ent} {x : Ent} {i : Nat} (hs : Srt S) (hx : S[i]? = some x) (e : x.k = k) : delE k S = S.take i ++ S.drop (i + 1) := by
  have hi := (List.getElem?_eq_some_iff.1 hx).1
  have hsp : S = S.take i ++ x :: S.drop (i + 1) := by
    have h1 : S.drop i = x :: S.drop (i + 1) := by
      rw [List.drop_eq_getElem_cons hi]
      rw [List.getElem?_eq_getElem hi] at hx
      rw [Option.some.inj hx]
    rw [← h1, List.take_append_drop]
  have hs2 : Srt (S.take i ++ x :: S.drop (i + 1)) := by rw [← hsp]; exact hs
  obtain ⟨_, h2, h3⟩ := List.pairwise_append.1 hs2
  have k1 : (S.take i).filter (fun y => decide (y.k ≠ k)) = S.take i := by
    rw [List.filter_eq_self]
    intro y hy
    have := h3 y hy x (by simp)
    rw [decide_eq_true_eq]
    intro e2
    rw [e2, e, lt_irrefl] at this
    cases this
  have k2 : (S.drop (i + 1)).filter (fun y => decide (y.k ≠ k)) = S.drop (i + 1) := by
    rw [List.filter_eq_self]
    intro y hy
    have := (srt_cons.1 h2).1 y hy
    rw [decide_eq_true_eq]
    intro e2
    rw [e2, e, lt_irrefl] at this
    cases this
  unfold delE
  conv => lhs; rw [hsp]
  rw [List.filter_append, List.filter_cons, if_neg (by simp [e]), k1, k2]
section
variable {B : Nat} {w0 w : World} {Q : World → List Nat → Prop} {L : List (Nat × Obj)}

set_option maxHeartbeats 8000000 in
set_option maxRecDepth 100000 in
theorem rpull_goes (hQ : Stable Q) {b : Nat} {S : List Ent} (h : Holds B w0 (sepR (refR b S) Q) w L) (hn : S.length ≤ 200) (hS : Srt S) (k : Kv) :
    Calls Try.prog 28 #[.pointer (some ⟨b, 0, none⟩), k.val] w (Goes (.tuple #[.int .i64 (getV k S), .int .i64 (getE k S)]) B w0 (sepR (refR b (delE k S)) Q) L) := by
  have hs1 := sepR_stable (refR_stable b S) hQ
  have h1 := h.alloc hs1 (.cells #[.int .i64 k.at_, .int .i64 k.src, .int .i64 k.sent, .int .i64 k.no] 33)
  have hat := at_goes hQ h1 (by omega) k
  cases hf : findE k S with
  | none =>
    have hg : getV k S = 0 ∧ getE k S = 14 := by simp [getV, getE, hf]
    rw [hg.1, hg.2, del_none hf]
    rw [idx_none hf] at hat
    have Hat := Lib.hid hat
    clear hat h1 h hf hg
    go_enter Try.func28, Try.ntmps28
    go_wp2_with fail
    refine Hat.out.mono ?_
    rintro e w1 ⟨rfl, h2⟩
    have H2 := Lib.hid h2
    clear h2
    go_wp2_with fail
    exact bodyPost_ret (v := .tuple #[.int .i64 0, .int .i64 14]) (by simp [results, Try.results28, go_sem]) rfl ⟨rfl, H2.out.sub (fun p hp => by simp [hp])⟩
  | some x =>
    obtain ⟨i, h2, h3, hx⟩ := idx_some hf
    have hg := get_some hf
    rw [h2] at hat
    have hdel := del_at hS hx (findE_some hf).2
    have Hg := Lib.hid hg
    have Hat := Lib.hid hat
    have Hdel := Lib.hid hdel
    have Hx := Lib.hid hx
    have i0 : (0 : Int) ≤ (i : Int) := by omega
    clear hat h1 h hf h2 hg hdel hx
    go_enter Try.func28, Try.ntmps28
    go_wp2_with fail
    refine Hat.out.mono ?_
    rintro e w1 ⟨rfl, h2⟩
    obtain ⟨a, ca, h4⟩ := h2.refOpen
    obtain ⟨c0, f0, hb, hsl⟩ := h4.refCells
    obtain ⟨b1, o1, y, rfl, hb1, hy, hcell⟩ := hsl.at_ h3
    rw [Hx.out] at hy
    obtain rfl := Option.some.inj hy
    have p4 := hcell 4 _ rfl
    have gc := hsl.2.1
    have gm := hsl.2.2.1
    have Hsl := Lib.hid hsl
    have H5 := Lib.hid (h2.nilRow 42 5)
    have i1 : (i : Int) < (S.length : Int) := by omega
    have i2 : (i : Int) ≤ (S.length : Int) := by omega
    have i3 : (i : Int) ≤ (ca : Int) := by omega
    clear h2 h4 hsl hcell hy Hat f0
    go_wp2_with (at_builtin; refine Stop.of ?_)
    refine Stop.go ?_
    obtain ⟨j2, hj0, hj1, hj2, hj3⟩ := info_parts infoThing
    refine wpList_append_sl _ rfl _ _ 28 rfl 42 j2 (.agg #[.int .i64 0, .int .i64 0, .int .i64 0, .int .i64 0, .int .i64 0]) 5 40 Try.underlying28 hj0 hj1 hj2 hj3 rfl (by decide) (.slice none 0 0) 0 [] rfl H5.out.row _ i ca (S.take i) rfl (Hsl.out.take (by omega)) (fun h => by cases h) ent_len ent_one (by unfold maxLen; omega) (by omega) ?_
    intro a8 c8 w8 hown hF hnew
    have h8 := H5.out.appended hs1 hown hF hnew
    rw [Nat.zero_add, List.nil_append] at h8
    have h11 := h8.conv Conv.exch
    clear hown hF hnew h8 hj0 hj1 hj2 hj3 c0 p4 hb hb1 Hsl gc gm H5 i3
    clear i1
    obtain ⟨a, c, h12⟩ := h11.refOpen
    obtain ⟨c0, f0, hb, hsl⟩ := h12.refCells
    obtain ⟨b2, o2, y2, rfl, hb2, _, _⟩ := hsl.at_ h3
    have h14 := h12.conv Conv.third
    have H14 := Lib.hid h14
    have Hsl := Lib.hid hsl
    have gc := hsl.2.1
    have gm := hsl.2.2.1
    clear h11 h12 h14 hsl f0
    obtain ⟨i1, hi1⟩ : ∃ i1, i + 1 = i1 := ⟨_, rfl⟩
    have Hi1 := Lib.hid hi1
    have hw1 : IntKind.i64.wrap ((i : Int) + 1) = (i1 : Int) := by rw [← hi1]; exact IntWalk.i64_in _ (by omega)
    have m0 : (0 : Int) ≤ (i1 : Int) := by omega
    have m1 : (i1 : Int) ≤ (c : Int) := by omega
    have m2 : (i1 : Int) ≤ (S.length : Int) := by omega
    have m3 : i1 ≤ S.length := by omega
    have m4 : i + (S.length - i1) ≤ 200 := by omega
    clear hi1
    by_cases hmc : i1 = c
    · subst hmc
      have hSi : S.length = i1 := by omega
      have Hin := Lib.hid (show S.drop (i + 1) = [] from List.drop_eq_nil_of_le (by have := Hi1.out; omega))
      clear hSi
      go_wp2_with (at_builtin; refine Stop.of ?_)
      refine Stop.go ?_
      obtain ⟨i2, hj0, hj1, hj2, hj3⟩ := info_parts infoThing
      refine wpList_append_sl _ rfl _ _ 28 rfl 42 i2 (.agg #[.int .i64 0, .int .i64 0, .int .i64 0, .int .i64 0, .int .i64 0]) 5 40 Try.underlying28 hj0 hj1 hj2 hj3 rfl (by decide) (.slice a8 i c8) i (flat Ent.cells (S.take i)) rfl H14.out.row _ 0 0 [] rfl (SlAt.nil _ _ _ _) (fun h => by cases h) ent_len ent_one (by unfold maxLen; omega) (by omega) ?_
      intro a9 c9 w9 hown hF hnew
      have h15 := H14.out.appended (sepR_stable (boxR_stable _ _ _) (sepR_stable (readR_stable _ _ _ _ _) hQ)) hown hF hnew
      rw [← flat_append] at h15
      have h16 := h15.conv Conv.exch
      have h17 := h16.boxPut (sepR_stable (rowR_stable _ _ _ _ _) (sepR_stable (readR_stable _ _ _ _ _) hQ)) 0 (.slice a9 (i + 0) c9)
      have c1 := cells1 h16.theBox
      have f1 := frozen_of_obj h16.theBox 0
      have hb1 := lt_of_obj h16.theBox
      have hfl : S.take i ++ [] = delE k S := by rw [Hdel.out, Hin.out]
      rw [hfl] at h17
      have hml : i + 0 = (delE k S).length := by rw [← hfl]; simp; try omega
      have Hml := Lib.hid hml
      have H17 := Lib.hid h17
      clear hown hF hnew h15 h16 h17 hj0 hj1 hj2 hj3 hfl hml
      go_wp2_with fail
      have h18 := H17.out
      rw [Hml.out] at h18
      have h19 := (h18.conv Conv.exch).toRead ent_len rfl
      refine bodyPost_ret (v := .tuple #[.int .i64 x.v, .int .i64 0]) (by simp [results, Try.results28, go_sem]) rfl ⟨by rw [Hg.out.1, Hg.out.2], ?_⟩
      rw [show i = _ from Hml.out]
      exact (((h19.conv Conv.exch).conv Conv.third).drop.refShut).sub (M := L) (fun p hp => by simp [hp])
    · have hmc' : i1 < c := by omega
      have Hd := Lib.hid (Hsl.out.drop m3)
      go_wp2_with (at_builtin; refine Stop.of ?_)
      refine Stop.go ?_
      obtain ⟨i2, hj0, hj1, hj2, hj3⟩ := info_parts infoThing
      refine wpList_append_sl _ rfl _ _ 28 rfl 42 i2 (.agg #[.int .i64 0, .int .i64 0, .int .i64 0, .int .i64 0, .int .i64 0]) 5 40 Try.underlying28 hj0 hj1 hj2 hj3 rfl (by decide) (.slice a8 i c8) i (flat Ent.cells (S.take i)) rfl H14.out.row _ (S.length - i1) (c - i1) (S.drop i1) rfl Hd.out (fun h => by cases h) ent_len ent_one (by unfold maxLen; omega) (by omega) ?_
      intro a9 c9 w9 hown hF hnew
      have h15 := H14.out.appended (sepR_stable (boxR_stable _ _ _) (sepR_stable (readR_stable _ _ _ _ _) hQ)) hown hF hnew
      rw [← flat_append] at h15
      have h16 := h15.conv Conv.exch
      have h17 := h16.boxPut (sepR_stable (rowR_stable _ _ _ _ _) (sepR_stable (readR_stable _ _ _ _ _) hQ)) 0 (.slice a9 (i + (S.length - i1)) c9)
      have c1 := cells1 h16.theBox
      have f1 := frozen_of_obj h16.theBox 0
      have hb1 := lt_of_obj h16.theBox
      have hfl : S.take i ++ (S.drop i1) = delE k S := by rw [Hdel.out, Hi1.out]
      rw [hfl] at h17
      have hml : i + (S.length - i1) = (delE k S).length := by rw [← hfl]; simp; try omega
      have Hml := Lib.hid hml
      have H17 := Lib.hid h17
      clear hown hF hnew h15 h16 h17 hj0 hj1 hj2 hj3 hfl hml
      go_wp2_with fail
      have h18 := H17.out
      rw [Hml.out] at h18
      have h19 := (h18.conv Conv.exch).toRead ent_len rfl
      refine bodyPost_ret (v := .tuple #[.int .i64 x.v, .int .i64 0]) (by simp [results, Try.results28, go_sem]) rfl ⟨by rw [Hg.out.1, Hg.out.2], ?_⟩
      rw [Hml.out]
      exact (((h19.conv Conv.exch).conv Conv.third).drop.refShut).sub (M := L) (fun p hp => by simp [hp])
end
end Go.Proofs.Ytclaicpnjllhjaa
