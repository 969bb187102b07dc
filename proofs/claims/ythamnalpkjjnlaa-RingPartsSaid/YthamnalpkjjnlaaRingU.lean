/- A ring's calls: slices.Reverse of numbers, Back, Front. -/
import Derived.Test.YthamnalpkjjnlaaRingT
import Derived.Test.YthamnalpkjjnlaaRingS
import Derived.Deep.RegionWith
namespace Go.Proofs.Ythamnalpkjjnlaa
open Go.RowKit Go.Maps

section
variable {B : Nat} {w0 w : World} {Q : World → List Nat → Prop} {L : List (Nat × Obj)}
theorem Holds.intPut (hQ : Stable Q) {g n cap : Nat} {l : List Int} (h : Holds B w0 (sepR (intR (.slice (some ⟨g, 0, none⟩) n cap) n l) Q) w L) {i : Nat} (hi : i < l.length) (v : Int) : Holds B w0 (sepR (intR (.slice (some ⟨g, 0, none⟩) n cap) n (l.set i v)) Q) (w.setCell ⟨g, i, none⟩ (.int .i64 v)) L := by
  have h1 := h.stored hQ i (.int .i64 v)
  obtain ⟨x, hx⟩ : ∃ x, l[i]? = some x := ⟨_, List.getElem?_eq_getElem hi⟩
  have h2 := flat_set1 (enc := intEnc) (k := 1) intEnc_len hx (x' := v) (j := 0) (u := .int .i64 v) (by omega) rfl
  rw [Nat.mul_one, Nat.add_zero] at h2
  rw [h2] at h1
  exact h1
theorem Holds.intCell {g n cap : Nat} {l : List Int} (h : Holds B w0 (sepR (intR (.slice (some ⟨g, 0, none⟩) n cap) n l) Q) w L) {i : Nat} {x : Int} (hx : l[i]? = some x) : w.cell? ⟨g, i, none⟩ = some (.int .i64 x) := by
  have := Holds.cellOf (enc := intEnc) (k := 1) intEnc_len h hx (j := 0) rfl
  rw [Nat.mul_one, Nat.add_zero] at this
  exact this

set_option maxHeartbeats 2000000 in
set_option maxRecDepth 100000 in
theorem reverse_goes (hQ : Stable Q) {a : Option Addr} {n c : Nat} {l : List Int} (h : Holds B w0 (sepR (intR (.slice a n c) n l) Q) w L) (hl : l.length = n) (hn : n ≤ 100000) :
    Calls Try.prog 37 #[.slice a n c] w (Goes (.tuple #[]) B w0 (sepR (intR (.slice a n c) n l.reverse) Q) L) := by
  have hs1 : IntKind.i64.wrap ((n : Int) - 1) = (n : Int) - 1 := IntWalk.i64_in _ (by omega)
  have H0 := Lib.hid h
  have Hl := Lib.hid hl
  clear h hl
  go_enter Try.func37, Try.ntmps37
  go_wp2_with fail
  go_loopw [2, 3] (fun iv jv wr => ∃ (i : Nat) (jz : Int) (out : List Int), iv = .int .i64 (i : Int) ∧ jv = .int .i64 jz ∧ jz = (n : Int) - 1 - (i : Int) ∧ 2 * i ≤ n + 1 ∧ out.length = n ∧ (∀ k, k < n → out[k]? = if k < i ∨ n ≤ k + i then l[n - 1 - k]? else l[k]?) ∧
    Holds B w0 (sepR (intR (.slice a n c) n out) Q) wr L) (fun iv _ _ => n + 1 - (intOf iv).toNat)
  case atStart => exact ⟨0, _, l, rfl, rfl, by omega, by omega, Hl.out, fun k hk => by rw [if_neg (by omega)], H0.out⟩
  case round =>
    obtain ⟨i, jz, out, rfl, rfl, hjz, hi2, hol, hout, hh⟩ := hrel
    by_cases hlt : (i : Int) < jz
    · obtain ⟨j, hj⟩ : ∃ j : Nat, jz = (j : Int) := ⟨jz.toNat, by omega⟩
      subst hj
      obtain ⟨g, cap, hv, hg, _, _⟩ := row_some hh.row (by omega)
      simp only [Value.slice.injEq] at hv
      obtain ⟨rfl, _, rfl⟩ := hv
      obtain ⟨x, hx⟩ : ∃ x, out[i]? = some x := ⟨_, List.getElem?_eq_getElem (by omega)⟩
      obtain ⟨y, hy⟩ : ∃ y, out[j]? = some y := ⟨_, List.getElem?_eq_getElem (by omega)⟩
      have p0 := hh.intCell hx
      have p1 := hh.intCell hy
      have fz : ∀ k, wr.frozen? ⟨g, k, none⟩ = false := fun k => hh.row.frozenAt k
      have b0 : (0 : Int) ≤ (i : Int) := by omega
      have b1 : (i : Int) < (n : Int) := by omega
      have b2 : (0 : Int) ≤ (j : Int) := by omega
      have b3 : (j : Int) < (n : Int) := by omega
      have hne : ¬ i = j := by omega
      have hne2 : ¬ j = i := by omega
      have h2 := (hh.intPut hQ (i := i) (by omega) y).intPut hQ (i := j) (by rw [List.length_set]; omega) x
      have H2 := Lib.hid h2
      have Hout := Lib.hid hout
      have Hx := Lib.hid hx
      have Hy := Lib.hid hy
      have Hol := Lib.hid hol
      have Hjz := Lib.hid hjz
      clear hh h2 hout hx hy hol hjz
      go_wp2_with fail
      go_region
      have hsI : Stable (sepR (intR (.slice (some ⟨g, 0, none⟩) n c) n ((out.set i y).set j x)) Q) := sepR_stable (rowR_stable _ _ _ _ _) hQ
      have H3 := Lib.hid (H2.out.drew hsI)
      have w1 : IntKind.i64.wrap ((i : Int) + 1) = ((i + 1 : Nat) : Int) := by rw [IntWalk.i64_in _ (by omega)]; omega
      have w2 : IntKind.i64.wrap ((j : Int) - 1) = (j : Int) - 1 := IntWalk.i64_in _ (by omega)
      clear p0 p1 fz H2
      go_wp2_with fail
      go_roundw
      case rel =>
        have hjz := Hjz.out
        refine ⟨i + 1, (j : Int) - 1, (out.set i y).set j x, by first | rfl | simp, rfl, by omega, by omega, by rw [List.length_set, List.length_set]; exact Hol.out, fun k hk => ?_, H3.out⟩
        have hol := Hol.out
        have hkk := Hout.out k hk
        have hxx := Hout.out i (by omega)
        have hyy := Hout.out j (by omega)
        rw [Hx.out, if_neg (by omega)] at hxx
        rw [Hy.out, if_neg (by omega)] at hyy
        by_cases e1 : k = j
        · subst e1
          rw [List.getElem?_set_self (by rw [List.length_set]; omega), if_pos (by omega), show n - 1 - k = i by omega]
          exact hxx
        · rw [List.getElem?_set_ne (by omega)]
          by_cases e2 : k = i
          · subst e2
            rw [List.getElem?_set_self (by omega), if_pos (by omega), show n - 1 - k = j by omega]
            exact hyy
          · rw [List.getElem?_set_ne (by omega), hkk]
            by_cases e3 : k < i ∨ n ≤ k + i
            · rw [if_pos e3, if_pos (by omega)]
            · rw [if_neg e3, if_neg (by omega)]
      case measure => simp [intOf]; omega
    · have hr : out = l.reverse := by
        refine List.ext_getElem? fun k => ?_
        have hl := Hl.out
        by_cases hk : k < n
        · rw [hout k hk, List.getElem?_reverse (by omega), hl]
          split
          · rfl
          · congr 1; omega
        · rw [List.getElem?_eq_none (by omega), List.getElem?_eq_none (by rw [List.length_reverse]; omega)]
      subst hr
      have HH := Lib.hid hh
      clear hh hout hol
      go_wp2_with fail
      go_end0
      exact ⟨rfl, HH.out⟩

/-- What Back does. -/
def BackDoes (B : Nat) (w0 : World) (Q : World → List Nat → Prop) (L : List (Nat × Obj)) (b room : Nat) (S : List It) (k : Nat) (e : Ending) (w' : World) : Prop :=
  ∃ (la : Option Addr) (lc : Nat), e = .returned (.slice la (S.length - k) lc) ∧ Holds B w0 (sepR (intR (.slice la (S.length - k) lc) (S.length - k) (valsOf (S.drop k)).reverse) (sepR (ringR b room (S.take k)) Q)) w' L

set_option maxHeartbeats 4000000 in
set_option maxRecDepth 100000 in
theorem back_goes (hQ : Stable Q) {b room : Nat} {S : List It} (h : Holds B w0 (sepR (ringR b room S) Q) w L) (t : Int) :
    Calls Try.prog 17 #[.pointer (some ⟨b, 0, none⟩), .int .i64 t] w (BackDoes B w0 Q L b room S (cnt (fun x => decide (x ≥ t)) S)) := by
  have hs := sepR_stable (ringR_stable b room S) hQ
  have hF0 := (Frm.refl [] w).alloc (.cells #[.int .i64 t] 3)
  have h0 := h.made hs hF0
  have hbx := cells1 (obj_new w (.cells #[.int .i64 t] 3))
  obtain ⟨a, c, f, P, hf, h1⟩ := h0.ringOpen
  have hs1 : Stable (sepR (ring0 b room a c f S.length P) Q) := sepR_stable (ring0_stable _ _ _ _ _ _ _) hQ
  have hm := hf.win.many
  have hr := hf.win.room
  have ha := fun w' (hf' : Frm [] (w.alloc (.cells #[.int .i64 t] 3)) w') => ahead_says (h0.ringAt.frm hf') hf.rise (g := 36) (bx := w.heap.size) (p := fun x => decide (x ≥ t)) (.inl rfl) (fun x y hxy hx => by simp at hx ⊢; omega) (fun w'' hf'' u => cBack_any ((hf'.trans hf'' (by simp)).cell hbx (by simp)) u)
  have hk := cnt_le (fun x => decide (x ≥ t)) S
  generalize cnt (fun x => decide (x ≥ t)) S = k at ha hk ⊢
  have ht := fun w' (hf' : Frm [] (w.alloc (.cells #[.int .i64 t] 3)) w') => take_goes hQ (h1.made hs1 hf') hf.win hk (Nat.le_refl _)
  have c3 := (cells4 h1.rBox.theBox).2.2.2
  have hbl := lt_of_obj h1.rBox.theBox
  have Ha := Lib.hid ha
  have Ht := Lib.hid ht
  have Hf := Lib.hid hf
  clear ha ht h h0 h1 hF0 hbx hf
  go_enter Try.func17, Try.ntmps17
  go_wp2_with fail
  generalize w.alloc (.cells #[.int .i64 t] 3) = W0 at *
  go_region_with (first | (go_at_call 35; refine (Ha.out _ ?_).mono ?_; (exact (Frm.refl _ _).drew); rintro e w1 ⟨rfl, hfa⟩; have hc1 := hfa.cell c3 (by simp); have hbl1 : b < w1.heap.size := Nat.lt_of_lt_of_le hbl hfa.size) | (go_at_call 34; refine (Ht.out _ ?_).mono ?_; (exact ((Frm.refl _ _).drew).trans hfa (by simp)); rintro e w2 ⟨la, lc, P', rfl, hPl, hkp, h2⟩))
  all_goals
    have hQ2 : Stable (sepR (ring0 b room a c f (S.length - (S.length - k)) P') Q) := sepR_stable (ring0_stable _ _ _ _ _ _ _) hQ
    have hlv : (valsOf ((S.drop k).take (S.length - k))).length = S.length - k := by simp only [valsOf, List.length_map, List.length_take, List.length_drop]; omega
    have hrv := reverse_goes hQ2 h2 hlv (by omega)
    have hS' : (S.drop k).take (S.length - k) = S.drop k := List.take_of_length_le (by rw [List.length_drop]; omega)
    rw [hS'] at hrv
    have Hrv := Lib.hid hrv
    have hfit : RFits room f P' (S.take k) := ⟨⟨by rw [hPl]; exact Hf.out.win.first, by rw [hPl, List.length_take]; omega, by rw [hPl]; exact hr, fun i x hx => by
        rw [List.getElem?_take] at hx
        split at hx
        · rw [hPl, hkp i (by omega) (.inl (by assumption))]
          exact Hf.out.win.at_ i x hx
        · cases hx⟩, Hf.out.rise.take k, by rw [List.length_take]; have := Hf.out.many; omega, by rw [hPl]; exact Hf.out.list, Hf.out.room⟩
    have Hfit := Lib.hid hfit
    clear hfit hrv h2 hlv hS' hkp hPl hfa hc1 c3
    go_wp2_with fail
    refine Hrv.out.mono ?_
    rintro e w3 ⟨rfl, h3⟩
    have H3 := Lib.hid h3
    clear h3 Hrv
    go_wp2_with fail
    go_ret
    refine ⟨la, lc, rfl, ?_⟩
    have h4 := H3.out.conv Conv.exch
    rw [show S.length - (S.length - k) = (S.take k).length by rw [List.length_take]; omega] at h4
    exact (h4.ringShut Hfit.out).conv Conv.exch
end
end Go.Proofs.Ythamnalpkjjnlaa
