/- The document's answer: Upto, what is told, Front. -/
import Derived.Test.YthamnalpkjjnlaaRingRefA
namespace Go.Proofs.Ythamnalpkjjnlaa
open Go.RowKit Go.Maps

theorem late_mono (t : Int) : ∀ x y : Int, x ≤ y → decide (x > t) = true → decide (y > t) = true := fun x y h h2 => by simp at h2 ⊢; omega
theorem from_mono (t : Int) : ∀ x y : Int, x ≤ y → decide (x ≥ t) = true → decide (y ≥ t) = true := fun x y h h2 => by simp at h2 ⊢; omega

section
variable {B : Nat} {w0 w : World} {Q : World → List Nat → Prop} {L : List (Nat × Obj)}
set_option maxHeartbeats 2000000 in
theorem rupto_says {b room : Nat} {S : List It} (h : RefAt w b room S) (hS : Rise S) (hm : S.length ≤ 4096) (t : Int) :
    Calls Try.prog 30 #[.pointer (some ⟨b, 0, none⟩), .int .i64 t] w fun e w' => e = .returned (.int .i64 ((cnt (fun x => decide (x > t)) S : Int) - 1)) ∧ w' = w := by
  obtain ⟨a, c, hb, hsl, hnil⟩ := h
  obtain ⟨c0, c1⟩ := cells2 hb
  have hbl := lt_of_obj hb
  have hK := cnt_le (fun x => decide (x > t)) S
  have hbf := fun (i : Nat) (x : It) (hx : S[i]? = some x) (hi : i < cnt (fun x => decide (x > t)) S) => cnt_before hx hi
  have haf := fun (i : Nat) (x : It) (hx : S[i]? = some x) (hi : cnt (fun x => decide (x > t)) S ≤ i) => cnt_after (late_mono t) hS hx hi
  generalize cnt (fun x => decide (x > t)) S = K at hK hbf haf ⊢
  have Hbf := Lib.hid hbf
  have Haf := Lib.hid haf
  have Hsl := Lib.hid hsl
  have gc := hsl.2.1
  clear hb hsl hnil hbf haf hS c0
  go_enter Try.func30, Try.ntmps30
  go_wp2_with fail
  go_loopw [5, 6] (fun s iv wr => ∃ (i : Nat) (o : Int), i ≤ S.length ∧ iv = .int .i64 (i : Int) ∧ s = .int .i64 o ∧ o = ((min i K : Nat) : Int) - 1 ∧ w = wr) (fun _ iv _ => S.length - (intOf iv).toNat)
  case atStart => exact ⟨0, -1, Nat.zero_le _, rfl, rfl, by simp, rfl⟩
  case round =>
    obtain ⟨i, o, hi, rfl, rfl, ho, rfl⟩ := hrel
    have Ho := Lib.hid ho
    clear ho
    by_cases hlt : i < S.length
    · obtain ⟨g, off, x, rfl, hg, hx, hcell⟩ := Hsl.out.at_ hlt
      have p0 := hcell 0 _ rfl
      simp only [Nat.add_zero] at p0
      have i0 : (0 : Int) ≤ (i : Int) := by omega
      have i1 : (i : Int) < (S.length : Int) := by omega
      by_cases hik : i < K
      · have hd := Hbf.out i x hx hik
        have hd2 : decide (x.at_ ≤ t) = true := by simp at hd ⊢; omega
        have hd3 : x.at_ ≤ t := by simpa using hd2
        clear hcell hx hd
        go_wp2_with fail
        go_roundw
        case rel => exact ⟨i + 1, (i : Int), by omega, by go_num, rfl, by omega, by first | trivial | rfl⟩
        case measure => simp [intOf]; omega
      · have hd := Haf.out i x hx (by omega)
        have hd2 : decide (x.at_ ≤ t) = false := by simp at hd ⊢; omega
        have hd3 : ¬ x.at_ ≤ t := by simpa using hd2
        clear hcell hx hd
        go_wp2_with fail
        go_roundw
        case rel => exact ⟨i + 1, o, by omega, by go_num, rfl, by have := Ho.out; omega, by first | trivial | rfl⟩
        case measure => simp [intOf]; omega
    · obtain rfl : i = S.length := by omega
      go_wp2_with fail
      go_ret
      exact ⟨by have := Ho.out; rw [this, Nat.min_eq_right hK]; rfl, by first | trivial | rfl⟩

set_option maxHeartbeats 1000000 in
/-- What First, Last and Upto tell is held against the document's list. -/
theorem told_says {b room : Nat} {S : List It} (h : RefAt w b room S) {n : Nat} (hn : n ≤ S.length) :
    Calls Try.prog 29 #[.int .i64 (tellI S n).at_, .int .i64 (tellI S n).v, .int .i64 (tellE n), .pointer (some ⟨b, 0, none⟩), .int .i64 ((n : Int) - 1)] w fun e w' => e = .returned (.bool true) ∧ w' = w := by
  obtain ⟨a, c, hb, hsl, hnil⟩ := h
  obtain ⟨c0, c1⟩ := cells2 hb
  have hbl := lt_of_obj hb
  have gc := hsl.2.1
  cases n with
  | zero =>
    dsimp only [tellI, tellE, zeroIt]
    clear hb hsl hnil c0 c1
    go_enter Try.func29, Try.ntmps29
    go_wp2_with fail
    go_ret
    exact ⟨rfl, rfl⟩
  | succ n =>
    obtain ⟨g, off, x, rfl, hg, hx, hcell⟩ := hsl.at_ (i := n) (by omega)
    have p0 := hcell 0 _ rfl
    have p1 := hcell 1 _ rfl
    simp only [Nat.add_zero] at p0
    have i0 : (0 : Int) ≤ (n : Int) := by omega
    have i1 : (n : Int) < (S.length : Int) := by omega
    have hd : ¬ ((n : Int) < 0) := by omega
    simp only [tellI, tellE, hx, Option.getD_some]
    rw [show (((n + 1 : Nat) : Int) - 1) = (n : Int) by omega]
    rw [if_neg (by omega)]
    clear hb hsl hnil c0 hcell hx
    go_enter Try.func29, Try.ntmps29
    go_wp2_with fail
    go_ret
    exact ⟨rfl, rfl⟩

def lenV : Value → Nat
  | .slice _ n _ => n
  | _ => 0
theorem off_drop {a : Option Addr} {n c : Nat} {x : It} {S : List It} {F : List Nat} (h : OffAt a n c (x :: S) w F) :
    ∃ g off, a = some ⟨g, off, none⟩ ∧ (c = 1 → ∀ a', OffAt a' (n - 1) (c - 1) S w []) ∧ OffAt (some ⟨g, off + 2, none⟩) (n - 1) (c - 1) S w F := by
  rcases h with ⟨_, _, h, _⟩ | ⟨g, D, rfl, h2, h3, h4, rfl⟩
  · cases h
  · simp only [List.length_cons] at h2
    refine ⟨g, D.length * 2, rfl, fun hc a' => .inl ⟨by omega, by omega, List.eq_nil_of_length_eq_zero (by omega), rfl⟩, .inr ⟨g, D ++ [x], by simp [Nat.add_mul], by omega, by omega, ?_, rfl⟩⟩
    rw [List.length_append, List.length_singleton, show D.length + 1 + (n - 1) = D.length + n by omega, show D.length + 1 + (c - 1) = D.length + c by omega, List.append_assoc]
    exact h4

set_option maxHeartbeats 4000000 in
set_option maxRecDepth 100000 in
theorem rfront_goes (hQ : Stable Q) {b room : Nat} {S : List It} (h : Holds B w0 (sepR (refR b room S) Q) w L) (hS : Rise S) (hm : S.length ≤ 4096) (t : Int) :
    Calls Try.prog 28 #[.pointer (some ⟨b, 0, none⟩), .int .i64 t] w fun e w' => ∃ (la : Option Addr) (lc : Nat), e = .returned (.slice la (cnt (fun x => decide (x ≥ t)) S) lc) ∧
      Holds B w0 (sepR (intR (.slice la (cnt (fun x => decide (x ≥ t)) S) lc) (cnt (fun x => decide (x ≥ t)) S) (valsOf (S.take (cnt (fun x => decide (x ≥ t)) S)))) (sepR (refR b room (S.drop (cnt (fun x => decide (x ≥ t)) S))) Q)) w' L := by
  have hK := cnt_le (fun x => decide (x ≥ t)) S
  have hbf := fun (i : Nat) (x : It) (hx : S[i]? = some x) (hi : i < cnt (fun x => decide (x ≥ t)) S) => cnt_before hx hi
  have haf := fun (i : Nat) (x : It) (hx : S[i]? = some x) (hi : cnt (fun x => decide (x ≥ t)) S ≤ i) => cnt_after (from_mono t) hS hx hi
  generalize cnt (fun x => decide (x ≥ t)) S = K at hK hbf haf ⊢
  have Hbf := Lib.hid hbf
  have Haf := Lib.hid haf
  have h1 := (h.nilRow 3 1).conv Conv.exch
  have H1 := Lib.hid h1
  obtain ⟨i0, hi0, hi1, hi2, hi3⟩ := info_parts infoInt
  clear h h1 hS hbf haf
  go_enter Try.func28, Try.ntmps28
  go_wp2_with fail
  go_loopw [5] (fun s wr => ∃ (m : Nat) (la : Option Addr) (lc : Nat), m ≤ K ∧ s = .slice la m lc ∧ Holds B w0 (sepR (refR b room (S.drop m)) (sepR (intR (.slice la m lc) m (valsOf (S.take m))) Q)) wr L) (fun s _ => K - lenV s)
  case atStart => exact ⟨0, none, 0, Nat.zero_le _, rfl, H1.out⟩
  case round =>
    obtain ⟨m, la, lc, hmk, rfl, hh⟩ := hrel
    obtain ⟨a, c, h2⟩ := hh.refOpen
    have hbx := h2.theBox
    obtain ⟨c0, c1⟩ := cells2 hbx
    have hbl := lt_of_obj hbx
    have hoff := (h2.conv Conv.exch)
    have hsl := hoff.off.1
    have gc := hsl.2.1
    have gm := hsl.2.2.1
    have hdl : (S.drop m).length = S.length - m := List.length_drop
    by_cases hlt : m < S.length
    · obtain ⟨x, hx⟩ : ∃ x, S[m]? = some x := ⟨_, List.getElem?_eq_getElem hlt⟩
      have hx0 : (S.drop m)[0]? = some x := by rw [List.getElem?_drop, Nat.add_zero]; exact hx
      obtain ⟨g, off, y, ha, hg, hy, hcell⟩ := hsl.at_ (i := 0) (by omega)
      rw [hx0] at hy
      cases hy
      subst ha
      have p0 := hcell 0 _ rfl
      have p1 := hcell 1 _ rfl
      simp only [Nat.zero_mul, Nat.add_zero] at p0 p1
      have gl : (0 : Int) < ((S.drop m).length : Int) := by omega
      have gl' : decide (((S.drop m).length : Int) > 0) = true := by rw [decide_eq_true_eq]; omega
      have gl1 : (1 : Int) ≤ ((S.drop m).length : Int) := by omega
      have gl2 : (1 : Int) ≤ (c : Int) := by omega
      by_cases hik : m < K
      · have hd := Hbf.out m x hx hik
        have hd3 : x.at_ < t := by simpa using hd
        have hd2 : decide (x.at_ < t) = true := by simpa using hd3
        have hsx : S.drop m = x :: S.drop (m + 1) := by
          rw [List.drop_eq_getElem_cons hlt]
          rw [List.getElem?_eq_getElem hlt] at hx
          rw [Option.some.inj hx]
        have hv : valsOf (S.take (m + 1)) = valsOf (S.take m) ++ [x.v] := by
          rw [List.take_add_one, hx]; simp [valsOf]
        have h3 := (h2.conv Conv.third).made (sepR_stable (rowR_stable _ _ _ _ _) (sepR_stable (boxR_stable _ _ _) (sepR_stable (OffAt_stable _ _ _ _) hQ))) ((Frm.refl _ _).alloc (.cells #[.int .i64 x.v] 3))
        have H3 := Lib.hid h3
        have Hsx := Lib.hid hsx
        have Hv := Lib.hid hv
        obtain ⟨n, hn⟩ : ∃ n, (S.drop m).length = n := ⟨_, rfl⟩
        have Hdl := Lib.hid hdl
        have Hn := Lib.hid hn
        have hn1 : 1 ≤ n := by omega
        rw [hn] at gl gl' gl1 c1 gc
        clear hh h2 hbx hoff hsl hcell hx hx0 hd h3 hsx hv hdl hn
        go_wp2_with (at_builtin; refine Stop.of ?_)
        refine Stop.go ?_
        refine wpList_append_foot _ rfl _ _ 46 rfl 3 i0 (.int .i64 0) 1 8 Try.underlying46 hi0 hi1 hi2 hi3 rfl (by decide) (.slice la m lc) m (flat intEnc (valsOf (S.take m))) rfl H3.out.row ⟨wr.heap.size, 0, none⟩ 1 1 [.int .i64 x.v] rfl rfl (cells_at _ [.int .i64 x.v] 3 _ rfl) (fun u hu => by simp at hu; subst hu; rfl) (by unfold maxLen; omega) (by omega) ?_
        intro a3 c3 w3 hown hF hnew
        have h4 := (H3.out.appended (sepR_stable (boxR_stable _ _ _) (sepR_stable (OffAt_stable _ _ _ _) hQ)) hown hF hnew).conv Conv.toThird
        have hbx3 := h4.theBox
        obtain ⟨d0, d1⟩ := cells2 hbx3
        rw [Hn.out] at d1
        have fz : ∀ k, w3.frozen? ⟨b, k, none⟩ = false := fun k => frozen_of_obj hbx3 k
        have hbl3 := lt_of_obj hbx3
        have H4 := Lib.hid h4
        clear hown hF hnew h4 hbx3 H3 c0 c1 p0 p1 d0
        go_wp2_with fail
        refine ⟨⟨m + 1, a3, c3, by omega, rfl, ?_⟩, by simp [lenV]; omega⟩
        have hsI : Stable (sepR (intR (.slice a3 (m + 1) c3) (m + 1) (valsOf (S.take (m + 1)))) Q) := sepR_stable (rowR_stable _ _ _ _ _) hQ
        have hfl : flat intEnc (valsOf (S.take m)) ++ [.int .i64 x.v] = flat intEnc (valsOf (S.take (m + 1))) := by rw [Hv.out, flat_append]; rfl
        have h5 := H4.out
        rw [hfl] at h5
        have key : ∀ (F : List Nat) (W : World), OffAt (some ⟨g, off, none⟩) (S.drop m).length c (S.drop m) W F → ∃ F', OffAt (if c = 1 then some ⟨g, off, none⟩ else some ⟨g, off + 2, none⟩) (n - 1) (c - 1) (S.drop (m + 1)) W F' ∧ ∀ k ∈ F', k ∈ F := fun F W hF => by
          rw [Hn.out, Hsx.out] at hF
          obtain ⟨g', off', he, h8, h9⟩ := off_drop hF
          simp only [Option.some.injEq, Addr.mk.injEq, and_true] at he
          obtain ⟨rfl, rfl⟩ := he
          by_cases hc : c = 1
          · rw [if_pos hc]
            exact ⟨[], h8 hc _, by simp⟩
          · rw [if_neg hc]
            exact ⟨F, h9, fun k hk => hk⟩
        generalize (if c = 1 then some (⟨g, off, none⟩ : Addr) else some ⟨g, off + 2, none⟩) = A' at key ⊢
        have h6 := h5.boxPut (sepR_stable (OffAt_stable _ _ _ _) hsI) 1 (.slice A' (n - 1) (c - 1))
        generalize w3.setCell ⟨b, 1, none⟩ (.slice A' (n - 1) (c - 1)) = W at h6 ⊢
        have hn' : n - 1 = (S.drop (m + 1)).length := by rw [List.length_drop]; have := Hn.out; have := Hdl.out; omega
        have h7 := (h6.conv Conv.exch).offTurned (a' := A') (c' := c - 1) (n' := n - 1) (S' := S.drop (m + 1)) (sepR_stable (boxR_stable _ _ _) hsI) (fun F hF => by
          obtain ⟨F', q1, q2⟩ := key F W hF
          exact ⟨F', q1, Frm.refl _ _, fun k hk => .inl (q2 k hk)⟩)
        rw [hn'] at h7
        exact (h7.conv Conv.exch).refShut
      · obtain rfl : m = K := by omega
        have hd := Haf.out m x hx (Nat.le_refl _)
        have hd3 : ¬ x.at_ < t := by simp at hd; omega
        have hd2 : decide (x.at_ < t) = false := by simpa using hd3
        have HH := Lib.hid (hh.conv Conv.exch)
        clear hh h2 hbx hoff hsl hcell hx hx0 hd c0 p1
        go_wp2_with fail
        go_ret
        exact ⟨la, lc, rfl, HH.out⟩
    · obtain rfl : m = K := by omega
      have hS0 : (S.drop m).length = 0 := by omega
      have HH := Lib.hid (hh.conv Conv.exch)
      rw [hS0] at c1
      clear hh h2 hbx hoff hsl c0 gc gm hdl hS0
      go_wp2_with fail
      go_ret
      exact ⟨la, lc, rfl, HH.out⟩
end
end Go.Proofs.Ythamnalpkjjnlaa
