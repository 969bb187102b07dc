/- The document's answer: Back, Copy. -/
import Derived.Test.YthamnalpkjjnlaaRingRefB
import Derived.Deep.RegionLaw
namespace Go.Proofs.Ythamnalpkjjnlaa
open Go.RowKit Go.Maps

section
variable {α : Type} {enc : α → List Value} {P : Program}
theorem step_append_sl {w : World} {ops : Array Oper} {o : Oper} {a : Act} {K : Act → World → Prop} {Q : Exit → Act → World → Prop} {E : Prop} (hgd : o.guard = none) (s x : Operand) (t : TypeId)
    (ho : o.op = .call { callee := .builtin .append, args := #[s, x], argTypes := #[t, t] })
    (e : TypeId) (i : TypeInfo) (z : Value) (size bytes : Nat) (ht : P.underlying t = some (.slice e)) (hi : P.info? e = some i) (hz : i.zero = some z)
    (hsize : i.size = size) (hby : i.bytes = bytes) (hzs : z.cells.size = size) (hsz : 0 < size)
    (v : Value) (n : Nat) (xs : List Value) (hs : a.eval s = v) (hown : w.ownsRow 0 e size v n xs)
    (A : Option Addr) (m c : Nat) (l : List α) (hx : a.eval x = .slice A m c) (hsl : SlAt enc size w A m c l) (hnil : A = none → m = 0 ∧ c = 0) (hk : ∀ x, (enc x).length = size) (h1 : ∀ x, ∀ u ∈ enc x, u.oneCell' = true)
    (h63 : n + m ≤ maxLen) (hbytes : (n + m) * bytes ≤ 140737488355328)
    (h : ∀ (a' : Option Addr) (c' : Nat) (w' : World), w'.ownsRow 0 e size (.slice a' (n + m) c') (n + m) (xs ++ flat enc l) → Frm v.ownBlock.toList w w' → (∀ k, (Value.slice a' (n + m) c').ownBlock = some k → v.ownBlock = some k ∨ w.heap.size ≤ k) → K (a.put o.dst (.slice a' (n + m) c')) w') :
    if Region.wanted o (yielded ops a.tmps) = true then Oper.wp P o a w K Q else E := by
  have hw : Region.wanted o (yielded ops a.tmps) = true := by simp [Region.wanted, hgd]
  rw [if_pos hw]
  exact wp_append_sl w s x t ho e i z size bytes ht hi hz hsize hby hzs hsz v n xs hs hown A m c l hx hsl hnil hk h1 h63 hbytes h
end
section
variable {B : Nat} {w0 w : World} {Q : World → List Nat → Prop} {L : List (Nat × Obj)}
/-- A list of its own is made the document's list. -/
theorem Holds.toOff {a : Option Addr} {n c : Nat} {S : List It} (h : Holds B w0 (sepR (rowR 44 2 (.slice a n c) n (flat It.cells S)) Q) w L) (hl : S.length = n) : Holds B w0 (sepR (OffAt a n c S) Q) w L :=
  h.conv (Conv.left fun _ F hF _ => ⟨F, hF.2 ▸ OffAt.of_row hF.1 hl, fun _ => Iff.rfl⟩)

set_option maxHeartbeats 4000000 in
set_option maxRecDepth 100000 in
theorem rcopy_goes (hQ : Stable Q) {b room : Nat} {S : List It} (h : Holds B w0 (sepR (refR b room S) Q) w L) (hn : S.length ≤ 4096) :
    Calls Try.prog 16 #[.pointer (some ⟨b, 0, none⟩)] w (Goes (.pointer (some ⟨w.heap.size, 0, none⟩)) B w0 (sepR (refR w.heap.size room S) (sepR (refR b room S) Q)) L) := by
  have hs1 := sepR_stable (refR_stable b room S) hQ
  have h1 := h.newBox hs1 #[.int .i64 (room : Int), .slice none 0 0] 32
  obtain ⟨a, c, hb, _, _⟩ := h.refAt
  obtain ⟨b0, b1⟩ := cells2 hb
  have hbl := lt_of_obj hb
  have hb1 := obj_alloc hb (.cells #[.int .i64 (room : Int), .slice none 0 0] 32)
  obtain ⟨c0, c1⟩ := cells2 hb1
  have hbl1 := lt_of_obj hb1
  obtain ⟨a', c', hb2, hsl, hnil⟩ := h1.drop.refAt
  rw [hb1] at hb2
  simp only [Option.some.injEq, Obj.cells.injEq, and_true, Array.mk.injEq, List.cons.injEq, true_and, Value.slice.injEq] at hb2
  obtain ⟨rfl, rfl⟩ := hb2
  have h3 := h1.nilRow 44 2
  have hN := h1.theBox
  obtain ⟨n0, n1⟩ := cells2 hN
  have nf := frozen_of_obj hN 1
  have nl := lt_of_obj hN
  have hsB : Stable (sepR (boxR w.heap.size #[.int .i64 (room : Int), .slice none 0 0] 32) (sepR (refR b room S) Q)) := sepR_stable (boxR_stable _ _ _) hs1
  have H3 := Lib.hid h3
  have HN := Lib.hid hN
  have Hsl := Lib.hid hsl
  have Hnil := Lib.hid hnil
  obtain ⟨i0, hi0, hi1, hi2, hi3⟩ := info_parts infoThing
  clear h h1 h3 hN hsl hnil hb hb1
  go_enter Try.func16, Try.ntmps16
  go_wp2_with fail
  go_region_law (refine step_append_sl rfl (.tmp 14) (.tmp 18) 30 rfl 44 i0 (.agg #[.int .i64 0, .int .i64 0]) 2 16 Try.underlying30 hi0 hi1 hi2 hi3 rfl (by decide) (.slice none 0 0) 0 [] rfl (H3.out.drew (sepR_stable (rowR_stable _ _ _ _ _) hsB)).row a S.length c S rfl (Hsl.out.frm (Frm.refl _ _).drew) Hnil.out it_len it_one (by unfold maxLen; omega) (by omega) ?_; intro a3 c3 w3 hown hF hnew; have hb3 := hF.obj (k := w.heap.size) HN.out (by simp [Value.ownBlock]); have hlb3 := lt_of_obj hb3; have hc3 := (cells2 hb3).2; have hzz3 := frozen_of_obj hb3 1; have Hown := Lib.hid hown; have HF := Lib.hid hF; have Hnew := Lib.hid hnew; clear hown hF hnew hb3)
  all_goals
    go_wp2_with fail
    go_ret
    refine ⟨rfl, ?_⟩
    have h5 := (H3.out.drew (sepR_stable (rowR_stable _ _ _ _ _) hsB)).appended hsB Hown.out HF.out Hnew.out
    rw [Nat.zero_add, List.nil_append] at h5
    have h6 := (h5.toOff rfl).conv Conv.exch
    have h7 := h6.boxPut (sepR_stable (OffAt_stable _ _ _ _) hs1) 1 (.slice a3 S.length c3)
    exact h7.refShut

set_option maxHeartbeats 4000000 in
set_option maxRecDepth 100000 in
theorem rback_goes (hQ : Stable Q) {b room : Nat} {S : List It} (h : Holds B w0 (sepR (refR b room S) Q) w L) (hS : Rise S) (hm : S.length ≤ 4096) (t : Int) :
    Calls Try.prog 27 #[.pointer (some ⟨b, 0, none⟩), .int .i64 t] w fun e w' => ∃ (la : Option Addr) (lc : Nat), e = .returned (.slice la (S.length - cnt (fun x => decide (x ≥ t)) S) lc) ∧
      Holds B w0 (sepR (intR (.slice la (S.length - cnt (fun x => decide (x ≥ t)) S) lc) (S.length - cnt (fun x => decide (x ≥ t)) S) (valsOf (S.drop (cnt (fun x => decide (x ≥ t)) S))).reverse) (sepR (refR b room (S.take (cnt (fun x => decide (x ≥ t)) S))) Q)) w' L := by
  have hK := cnt_le (fun x => decide (x ≥ t)) S
  have hbf := fun (i : Nat) (x : It) (hx : S[i]? = some x) (hi : i < cnt (fun x => decide (x ≥ t)) S) => cnt_before hx hi
  have haf := fun (i : Nat) (x : It) (hx : S[i]? = some x) (hi : cnt (fun x => decide (x ≥ t)) S ≤ i) => cnt_after (from_mono t) hS hx hi
  generalize cnt (fun x => decide (x ≥ t)) S = K at hK hbf haf ⊢
  have Hbf := Lib.hid hbf
  have Haf := Lib.hid haf
  have h1 := (h.nilRow 3 1).conv Conv.exch
  have H1 := Lib.hid h1
  obtain ⟨i0, hi0, hi1, hi2, hi3⟩ := info_parts infoInt
  obtain ⟨j0, hj0, hj1, hj2, hj3⟩ := info_parts infoThing
  clear h h1 hS hbf haf
  go_enter Try.func27, Try.ntmps27
  go_wp2_with fail
  go_loopw [5] (fun s wr => ∃ (m d : Nat) (la : Option Addr) (lc : Nat), K ≤ m ∧ m ≤ S.length ∧ d = S.length - m ∧ s = .slice la d lc ∧ Holds B w0 (sepR (refR b room (S.take m)) (sepR (intR (.slice la d lc) d (valsOf (S.drop m)).reverse) Q)) wr L) (fun s _ => S.length - lenV s)
  case atStart => exact ⟨S.length, 0, none, 0, hK, Nat.le_refl _, by omega, rfl, by rw [List.take_length, List.drop_length]; exact H1.out⟩
  case round =>
    obtain ⟨m, d, la, lc, hkm, hms, hd, rfl, hh⟩ := hrel
    have hsh : Stable (sepR (refR b room (S.take m)) (sepR (intR (.slice la d lc) d (valsOf (S.drop m)).reverse) Q)) := sepR_stable (refR_stable _ _ _) (sepR_stable (rowR_stable _ _ _ _ _) hQ)
    obtain ⟨a, c, h2⟩ := hh.refOpen
    have hbx := h2.theBox
    have htl : (S.take m).length = m := by rw [List.length_take]; omega
    rw [htl] at hbx
    obtain ⟨c0, c1⟩ := cells2 hbx
    have hbl := lt_of_obj hbx
    have hoff := (h2.conv Conv.exch)
    have hsl := hoff.off.1
    rw [htl] at hsl
    have gc := hsl.2.1
    by_cases hik : K < m
    · obtain ⟨x, hx⟩ : ∃ x, S[m - 1]? = some x := ⟨_, List.getElem?_eq_getElem (by omega)⟩
      have hx0 : (S.take m)[m - 1]? = some x := by rw [List.getElem?_take, if_pos (by omega)]; exact hx
      obtain ⟨g, off, y, ha, hg, hy, hcell⟩ := hsl.at_ (i := m - 1) (by omega)
      rw [hx0] at hy
      cases hy
      subst ha
      have p0 := hcell 0 _ rfl
      have p1 := hcell 1 _ rfl
      simp only [Nat.add_zero] at p0
      have gl : (0 : Int) < (m : Int) := by omega
      have gl' : decide ((m : Int) > 0) = true := by rw [decide_eq_true_eq]; omega
      have gn : 0 < m := by omega
      have gn' : decide (0 < m) = true := by rw [decide_eq_true_eq]; omega
      have e1 : IntKind.i64.wrap ((m : Int) - 1) = ((m - 1 : Nat) : Int) := by rw [IntWalk.i64_in _ (by omega)]; omega
      have q0 : (0 : Int) ≤ ((m - 1 : Nat) : Int) := by omega
      have q1 : ((m - 1 : Nat) : Int) < (m : Int) := by omega
      have q2 : ((m - 1 : Nat) : Int) ≤ (m : Int) := by omega
      have q3 : ((m - 1 : Nat) : Int) ≤ (c : Int) := by omega
      have hda := Haf.out (m - 1) x hx (by omega)
      have hd3 : x.at_ ≥ t := by simpa using hda
      have hd3' : t ≤ x.at_ := hd3
      have hd2 : decide (x.at_ ≥ t) = true := by simpa using hd3
      have hv : (valsOf (S.drop (m - 1))).reverse = (valsOf (S.drop m)).reverse ++ [x.v] := by
        have : S.drop (m - 1) = x :: S.drop m := by
          rw [List.drop_eq_getElem_cons (by omega), show m - 1 + 1 = m by omega]
          rw [List.getElem?_eq_getElem (by omega)] at hx
          rw [Option.some.inj hx]
        rw [this]
        simp [valsOf]
      have Hv := Lib.hid hv
      have Hd := Lib.hid hd
      have Htl := Lib.hid htl
      have H2 := Lib.hid hh
      clear h2 hoff hcell hx hx0 hda hd3 hv hd htl
      have Hbx := Lib.hid hbx
      have Hsl := Lib.hid hsl
      clear hbx hsl hh
      go_wp2_with fail
      go_quiet (fail)
      go_wp2_with fail
      refine wp_world (fun W => Holds B w0 (sepR (refR b room (S.take m)) (sepR (intR (.slice la d lc) d (valsOf (S.drop m)).reverse) Q)) W L ∧ Frm [] wr W) ⟨H2.out.drewN hsh _, (Frm.refl _ _).drewN _⟩ fun W1 hW1 => ?_
      obtain ⟨h5, hF1⟩ := hW1
      have hbx1 := hF1.obj Hbx.out (by simp)
      have p1' := hF1.cell p1 (by simp)
      clear c0 c1 p0 p1
      obtain ⟨c0, c1⟩ := cells2 hbx1
      have hbl1 := lt_of_obj hbx1
      have hg1 : g < W1.heap.size := Nat.lt_of_lt_of_le hg hF1.size
      have hsI : Stable (sepR (intR (.slice la d lc) d (valsOf (S.drop m)).reverse) (sepR (refR b room (S.take m)) Q)) := sepR_stable (rowR_stable _ _ _ _ _) (sepR_stable (refR_stable _ _ _) hQ)
      have h6 := ((h5.conv Conv.exch).drew hsI).made hsI ((Frm.refl _ _).alloc (.cells #[.int .i64 x.v] 3))
      have H6 := Lib.hid h6
      have HF1 := Lib.hid hF1
      have hdl : d ≤ 4096 := by have := Hd.out; omega
      clear h5 hbx1 h6 hF1 H2 hsh
      go_region_law (refine step_append_foot rfl (.tmp 30) (.tmp 44) 46 rfl 3 i0 (.int .i64 0) 1 8 Try.underlying46 hi0 hi1 hi2 hi3 rfl (by decide) (.slice la d lc) d (flat intEnc (valsOf (S.drop m)).reverse) rfl H6.out.row ⟨W1.heap.size, 0, none⟩ 1 1 [.int .i64 x.v] rfl rfl (cells_new _ _ _) (fun u hu => by simp at hu; subst hu; rfl) (by unfold maxLen; omega) (by omega) ?_; intro a3 c3 w3 hown hF hnew; have Hown := Lib.hid hown; have HF := Lib.hid hF; have Hnew := Lib.hid hnew; clear hown hF hnew)
      all_goals
        have h7 := H6.out.appended (sepR_stable (refR_stable _ _ _) hQ) Hown.out HF.out Hnew.out
        have hvl : flat intEnc (valsOf (S.drop m)).reverse ++ [.int .i64 x.v] = flat intEnc (valsOf (S.drop (m - 1))).reverse := by rw [Hv.out, flat_append]; rfl
        rw [hvl] at h7
        obtain ⟨a5, c5, h8⟩ := (h7.conv Conv.exch).refOpen
        rw [Htl.out] at h8
        have hbx5 := h8.theBox
        have hsl5 := (h8.conv Conv.exch).off.1
        obtain ⟨g5, off5, y5, ha5, hg5, _, _⟩ := hsl5.at_ (i := m - 1) (by omega)
        subst ha5
        obtain ⟨d0, d1⟩ := cells2 hbx5
        have hbl5 := lt_of_obj hbx5
        have gc5 := hsl5.2.1
        have q5 : ((m - 1 : Nat) : Int) ≤ (c5 : Int) := by omega
        have hsT : Stable (sepR (boxR b #[.int .i64 (room : Int), .slice (some ⟨g5, off5, none⟩) m c5] 32) (sepR (OffAt (some ⟨g5, off5, none⟩) m c5 (S.take m)) (sepR (intR (.slice a3 (d + 1) c3) (d + 1) (valsOf (S.drop (m - 1))).reverse) Q))) := sepR_stable (boxR_stable _ _ _) (sepR_stable (OffAt_stable _ _ _ _) (sepR_stable (rowR_stable _ _ _ _ _) hQ))
        have h9 := (h8.nilRow 44 2).drew (sepR_stable (rowR_stable _ _ _ _ _) hsT)
        have H9 := Lib.hid h9
        have Hbx5 := Lib.hid hbx5
        have Hsl5 := Lib.hid hsl5
        clear h7 h8 hbx5 hsl5 h9 Hown HF Hnew H6 hvl c0 c1 p1' d0
        go_wp2_with fail
        go_region_law (refine step_append_sl rfl (.tmp 47) (.tmp 58) 30 rfl 44 j0 (.agg #[.int .i64 0, .int .i64 0]) 2 16 Try.underlying30 hj0 hj1 hj2 hj3 rfl (by decide) (.slice none 0 0) 0 [] rfl H9.out.row (some ⟨g5, off5, none⟩) (m - 1) c5 ((S.take m).take (m - 1)) rfl ((Hsl5.out.frm (Frm.refl _ _).drew).take (by omega)) (fun e => by cases e) it_len it_one (by unfold maxLen; omega) (by omega) ?_; intro a8 c8 w8 hown hF hnew; have hb8 := hF.obj (k := b) Hbx5.out (by simp [Value.ownBlock]); have hlb8 := lt_of_obj hb8; have hc8 := (cells2 hb8).2; have hzz8 := frozen_of_obj hb8 1; have Hown := Lib.hid hown; have HF := Lib.hid hF; have Hnew := Lib.hid hnew; clear hown hF hnew hb8)
        all_goals
          go_wp2_with fail
          go_roundw
          case rel =>
            have h10 := H9.out.appended hsT Hown.out HF.out Hnew.out
            have htt : (S.take m).take (m - 1) = S.take (m - 1) := by rw [List.take_take]; congr 1; omega
            rw [Nat.zero_add, List.nil_append, htt] at h10
            have h11 := (h10.conv Conv.third).drop
            have h12 := (h11.toOff (by rw [List.length_take]; omega)).conv Conv.exch
            have h13 := h12.boxPut (sepR_stable (OffAt_stable _ _ _ _) (sepR_stable (rowR_stable _ _ _ _ _) hQ)) 1 (.slice a8 (m - 1) c8)
            refine ⟨m - 1, d + 1, a3, c3, by omega, by omega, by have := Hd.out; omega, rfl, ?_⟩
            refine Holds.refShut (a := a8) (c := c8) ?_
            rw [show (S.take (m - 1)).length = m - 1 by rw [List.length_take]; omega]
            exact h13
          case measure => have := Hd.out; simp [lenV]; omega
    · obtain rfl : m = K := by omega
      subst hd
      have hsI : Stable (sepR (intR (.slice la (S.length - m) lc) (S.length - m) (valsOf (S.drop m)).reverse) (sepR (refR b room (S.take m)) Q)) := sepR_stable (rowR_stable _ _ _ _ _) (sepR_stable (refR_stable _ _ _) hQ)
      have HH := Lib.hid (hh.conv Conv.exch)
      by_cases h0 : m = 0
      · subst h0
        clear hh h2 hbx hoff hsl hsh c0 htl gc
        go_wp2_with fail
        go_quiet (fail)
        go_wp2_with fail
        go_ret
        exact ⟨la, lc, rfl, HH.out.drewN hsI _⟩
      · obtain ⟨x, hx⟩ : ∃ x, S[m - 1]? = some x := ⟨_, List.getElem?_eq_getElem (by omega)⟩
        have hx0 : (S.take m)[m - 1]? = some x := by rw [List.getElem?_take, if_pos (by omega)]; exact hx
        obtain ⟨g, off, y, ha, hg, hy, hcell⟩ := hsl.at_ (i := m - 1) (by omega)
        rw [hx0] at hy
        cases hy
        subst ha
        have p0 := hcell 0 _ rfl
        simp only [Nat.add_zero] at p0
        have gl : (0 : Int) < (m : Int) := by omega
        have gl' : decide ((m : Int) > 0) = true := by rw [decide_eq_true_eq]; omega
        have gn : 0 < m := by omega
        have gn' : decide (0 < m) = true := by rw [decide_eq_true_eq]; omega
        have e1 : IntKind.i64.wrap ((m : Int) - 1) = ((m - 1 : Nat) : Int) := by rw [IntWalk.i64_in _ (by omega)]; omega
        have q0 : (0 : Int) ≤ ((m - 1 : Nat) : Int) := by omega
        have q1 : ((m - 1 : Nat) : Int) < (m : Int) := by omega
        have hda := Hbf.out (m - 1) x hx (by omega)
        have hd3 : ¬ t ≤ x.at_ := by simp at hda; omega
        have hd2 : decide (x.at_ ≥ t) = false := by simpa using hda
        clear hh h2 hbx hoff hsl hsh c0 htl hx hx0 hcell hda
        go_wp2_with fail
        go_quiet (fail)
        go_wp2_with fail
        go_ret
        exact ⟨la, lc, rfl, HH.out.drewN hsI _⟩
end
end Go.Proofs.Ythamnalpkjjnlaa
