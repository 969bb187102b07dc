/- The document's slab is turned: Free; its calls, said of what is held. -/
import Derived.Test.YtpfolcoijncfjaaSlabRefU
import Derived.Test.YtpfolcoijncfjaaHold2
namespace Go.Proofs.Ytpfolcoijncfjaa
open Go.RowKit

def natEnc (n : Nat) : List Value := [.int .i64 (n : Int)]
theorem natEnc_len (n : Nat) : (natEnc n).length = 1 := rfl
theorem natEnc_one (n : Nat) : ∀ u ∈ natEnc n, u.oneCell' = true := by simp [natEnc, Value.oneCell']
theorem flat_nat (l : List Nat) : flat natEnc l = natCells l := by
  induction l with
  | nil => rfl
  | cons x l ih => simp [flat, natEnc, natCells, ih]
theorem nat_row {w : World} {a : Option Addr} {n c : Nat} {l : List Nat} (h : w.ownsRow 0 3 1 (.slice a n c) n (natCells l)) (hl : l.length = n) : SlAt natEnc 1 w a n c l ∧ (a = none → n = 0 ∧ c = 0) := by
  rw [← flat_nat] at h
  refine ⟨SlAt.of_row natEnc_len h hl, fun ha => ?_⟩
  subst ha
  rcases row_nil_or h with ⟨hv, _⟩ | ⟨g, cc, hv, _⟩
  · simp only [Value.slice.injEq] at hv
    exact ⟨hv.2.1, hv.2.2⟩
  · simp at hv

set_option maxHeartbeats 2000000 in
theorem rfree_any {w : World} {b : Nat} {r : Rs} {lv fv : Value} (h : RefAt w b r lv fv) {i : Nat} {c t v : Int} (hx : r.L[i]? = some (c, t, v)) (_ : r.L.length ≤ 4096) (hf4 : r.F.length ≤ 4096) :
    Calls Try.prog 28 #[.pointer (some ⟨b, 0, none⟩), .int .i64 (i : Int)] w (RDoes (.tuple #[]) w b ⟨r.L.set i (0, t, 0), r.F ++ [i], r.res⟩ (foot b lv fv)) := by
  obtain ⟨g, cap, rfl, hg, hca, p0, p1, p2, hfz⟩ := h.slot hx
  obtain ⟨af, cf, rfl⟩ := row_slice h.rowF
  obtain ⟨N, hN⟩ : ∃ N, r.L.length = N := ⟨_, rfl⟩
  obtain ⟨m, hm⟩ : ∃ m, r.F.length = m := ⟨_, rfl⟩
  have hi : i < N := by rw [← hN]; exact (List.getElem?_eq_some_iff.1 hx).1
  have hgb : g ≠ b := h.neL g rfl
  have h1 := h.store (i * 3) (.int .i64 0) rfl (slotCells_set hx 0 0 0).1 (by simp)
  have h2 := h1.store (i * 3 + 2) (.int .i64 0) (by simp) (slotCells_set (get_set (by rw [hN]; exact hi) _) 0 0 0).2.2 (by simp)
  simp only [List.set_set] at h2
  have f0 := hfz (i * 3)
  have f2 := hfz (i * 3 + 2)
  have c0 := h.c0
  have c1 := h.c1
  have z0 := lt_of_obj h.box
  have hlim := h.lt
  rw [hN] at c0 h2 hca
  rw [hm] at h2 c1 hf4
  have hfr : Frm (foot b (.slice (some ⟨g, 0, none⟩) r.L.length cap) (.slice af r.F.length cf)) w ((w.setCell ⟨g, i * 3, none⟩ (.int .i64 0)).setCell ⟨g, i * 3 + 2, none⟩ (.int .i64 0)) :=
    ((Frm.refl _ w).setCell (a := ⟨g, i * 3, none⟩) (.inl (mem_foot.2 (.inr (.inl rfl)))) _).setCell (a := ⟨g, i * 3 + 2, none⟩) (.inl (mem_foot.2 (.inr (.inl rfl)))) _
  have hsz : ((w.setCell ⟨g, i * 3, none⟩ (.int .i64 0)).setCell ⟨g, i * 3 + 2, none⟩ (.int .i64 0)).heap.size = w.heap.size := by simp
  have i0 : (0 : Int) ≤ (i : Int) := by omega
  have i1 : (i : Int) < (N : Int) := by omega
  have H2 := Lib.hid h2
  have Hfr := Lib.hid hfr
  have Hm := Lib.hid hm
  have HNN := Lib.hid hN
  have Hsz := Lib.hid hsz
  have Hlim := Lib.hid hlim
  obtain ⟨i9, hj0, hj1, hj2, hj3⟩ := info_parts infoInt
  have J0 := Lib.hid hj0
  have J1 := Lib.hid hj1
  have J2 := Lib.hid hj2
  have J3 := Lib.hid hj3
  clear h h1 h2 hfr hm hN hsz hfz hx hj0 hj1 hj2 hj3 hlim
  have hgb' : b ≠ g := Ne.symm hgb
  go_enter Try.func28, Try.ntmps28
  go_wp2_with (at_builtin; refine Stop.of ?_)
  refine Stop.go ?_
  generalize (w.setCell ⟨g, i * 3, none⟩ (.int .i64 0)).setCell ⟨g, i * 3 + 2, none⟩ (.int .i64 0) = w1 at H2 Hfr Hsz ⊢
  have hn0 := Lib.hid ((Holds.start w1).nilRow 3 1)
  have hrf := H2.out.rowF
  dsimp only at hrf
  rw [Hm.out] at hrf
  obtain ⟨hs1, hs2⟩ := nat_row hrf Hm.out
  clear hrf
  have Hs1 := Lib.hid hs1
  clear hs1
  refine wpList_append_sl (enc := natEnc) _ rfl _ _ 52 rfl 3 i9 (.int .i64 0) 1 8 Try.underlying52 J0.out J1.out J2.out J3.out rfl (by decide) (.slice none 0 0) 0 [] rfl hn0.out.row af m cf r.F rfl Hs1.out hs2 natEnc_len natEnc_one (by unfold maxLen; omega) (by omega) ?_
  intro a3 c3 w3 hown hF hnew
  have h1 := hn0.out.appended noneR_stable hown hF hnew
  simp only [Nat.zero_add, List.nil_append, flat_nat] at h1 ⊢
  have H1 := Lib.hid h1
  clear hown hF hnew h1 hn0 hs2
  go_wp2_with (at_builtin; refine Stop.of ?_)
  refine Stop.go ?_
  have h5 := H1.out.alloc (sepR_stable (rowR_stable _ _ _ _ _) noneR_stable) (.cells #[.int .i64 (i : Int)] 3)
  refine wpList_append_foot _ rfl _ _ 52 rfl 3 i9 (.int .i64 0) 1 8 Try.underlying52 J0.out J1.out J2.out J3.out rfl (by decide) (.slice a3 m c3) m (natCells r.F) rfl h5.row ⟨_, 0, none⟩ 1 1 (natEnc i) rfl rfl (cells_at _ (natEnc i) _ _ (by simp)) (natEnc_one i) (by unfold maxLen; omega) (by omega) ?_
  intro a4 c4 w4 hown hF hnew
  have h6 := (h5.appended noneR_stable hown hF hnew).sub (M := []) (by simp)
  rw [show natCells r.F ++ natEnc i = natCells (r.F ++ [i]) by simp [natCells, natEnc]] at h6
  have hF4 : Frm [] w1 w4 := Frm.of_below h6.below (Nat.le_refl _)
  have hab : ∀ k, (Value.slice a4 (m + 1) c4).ownBlock = some k → w1.heap.size ≤ k := fun k hk => by
    obtain ⟨F, hc, _, h3, _⟩ := h6
    obtain ⟨F1, F2, ⟨_, rfl⟩, _, _, _, _, rfl⟩ := hc.res
    exact h3 k (List.mem_append_left _ (by rw [hk]; simp))
  have hr4 := H2.out.kept hF4 (by simp)
  have z4 := lt_of_obj hr4.box
  have y4 := frozen_of_obj hr4.box 1
  have x4 := hr4.c1
  have hrow4 := h6.row
  have hput := RefAt.putF (r := ⟨r.L.set i (0, t, 0), r.F, r.res⟩) (fs := r.F ++ [i]) (fv' := .slice a4 (m + 1) c4) hr4.box hr4.rowL hr4.neL (by rw [show (r.F ++ [i]).length = m + 1 by rw [List.length_append, Hm.out]; rfl]; exact hrow4)
    (fun k hk e => by have h9 := hab k hk; have h8 := Hlim.out b (mem_foot.2 (.inl rfl)); rw [Hsz.out] at h9; omega)
    (fun k hk e => by
      have h9 := hab k e
      have h8 := Hlim.out k (mem_foot.2 (.inr (.inl (by simpa [Value.ownBlock] using hk))))
      rw [Hsz.out] at h9
      omega)
  have Hput := Lib.hid hput
  have HF4 := Lib.hid hF4
  have Hab := Lib.hid hab
  clear hown hF hnew h5 h6 hF4 hab hr4 hrow4 hput H1
  go_wp2_with fail
  go_end0
  refine ⟨rfl, .slice (some ⟨g, 0, none⟩) N cap, .slice a4 (m + 1) c4, Hput.out, ?_, fun k hk => ?_⟩
  · exact (Hfr.out.trans HF4.out (by simp)).setCell (a := ⟨b, 1, none⟩) (.inl (mem_foot.2 (.inl rfl))) _
  · rcases mem_foot.1 hk with rfl | hk | hk
    · exact .inl (mem_foot.2 (.inl rfl))
    · exact .inl (mem_foot.2 (.inr (.inl (by simpa [Value.ownBlock] using hk))))
    · exact .inr (by have h9 := Hab.out k hk; rw [Hsz.out] at h9; exact h9)

section
variable {b : Nat} {s : St} {w w0 : World} {B : Nat} {L : List (Nat × Obj)} {Q : World → List Nat → Prop}
theorem rtells_goes (hQ : Stable Q) (h : Holds B w0 (sepR (refR b s.ref) Q) w L) (ho : s.Ok) (x t : Int) :
    Calls Try.prog 18 #[.pointer (some ⟨b, 0, none⟩), .int .i64 x, .int .i64 t] w (Goes (.bool (s.look x t).isSome) B w0 (sepR (refR b s.ref) Q) L) := by
  have hr := ho.room
  refine Goes.call_made (refR_stable _ _) hQ h fun F ⟨lv, fv, hS, hF⟩ => ?_
  have h1 := rtells_any hS (by show s.full.length ≤ 10000; rw [full_len]; omega) x t
  refine h1.mono fun e w' ⟨he, hw⟩ => ⟨?_, hw ▸ Frm.refl _ _⟩
  rw [he, ← tells_look ho]
  rfl
theorem rleft_goes (hQ : Stable Q) (h : Holds B w0 (sepR (refR b s.ref) Q) w L) (ho : s.Ok) :
    Calls Try.prog 29 #[.pointer (some ⟨b, 0, none⟩)] w (Goes (.int .i64 s.left) B w0 (sepR (refR b s.ref) Q) L) :=
  Goes.call_made (refR_stable _ _) hQ h fun _ ⟨_, _, hS, _⟩ => (left_says hS ho).mono fun _ _ ⟨he, hw⟩ => ⟨he, hw ▸ Frm.refl _ _⟩
theorem rlive_goes (hQ : Stable Q) (h : Holds B w0 (sepR (refR b s.ref) Q) w L) (ho : s.Ok) (cl : Int) :
    Calls Try.prog 19 #[.pointer (some ⟨b, 0, none⟩), .int .i64 cl] w (Goes (.int .i64 ((s.full.countP (isOf cl) : Nat) : Int)) B w0 (sepR (refR b s.ref) Q) L) := by
  have hr := ho.room
  exact Goes.call_made (refR_stable _ _) hQ h fun F ⟨lv, fv, hS, hF⟩ => (rlive_any hS (by show s.full.length ≤ 10000; rw [full_len]; omega) cl).mono fun e w' ⟨he, hw⟩ => ⟨he, hw ▸ Frm.refl _ _⟩
/-- What the document's Take answers. -/
def St.rtakes (s : St) (c : Int) (u : Bool) : Value :=
  if c < 1 ∨ 4 < c then .tuple #[.int .i64 0, .int .i64 1] else if s.isFull u then .tuple #[.int .i64 0, .int .i64 11] else .tuple #[.int .i64 (s.pick.1 : Int), .int .i64 0]
theorem rtake_goes (hQ : Stable Q) (h : Holds B w0 (sepR (refR b s.ref) Q) w L) (ho : s.Ok) (c v : Int) (u : Bool) (ht : s.turn ≤ 1000000) :
    Calls Try.prog 27 #[.pointer (some ⟨b, 0, none⟩), .int .i64 c, .bool u, .int .i64 v] w (Goes (s.rtakes c u) B w0 (sepR (refR b (s.takes c u v).2.ref) Q) L) := by
  unfold St.rtakes St.takes
  by_cases hc : c < 1 ∨ 4 < c
  · rw [if_pos hc, if_pos hc]
    exact Goes.call_made (refR_stable _ _) hQ h fun F _ => (rtake_class b c v u hc).mono fun e w' ⟨he, hw⟩ => ⟨he, hw ▸ Frm.refl _ _⟩
  · rw [if_neg hc, if_neg hc]
    cases hf : s.isFull u with
    | true =>
      exact Goes.call_made (refR_stable _ _) hQ h fun F ⟨lv, fv, hS, hF⟩ => (rtake_full hS ho c v u (by omega) (by omega) hf).mono fun e w' ⟨he, hw⟩ => ⟨he, hw ▸ Frm.refl _ _⟩
    | false =>
      have hl := full_left ho hf
      refine Goes.call hQ h fun F ⟨lv, fv, hS, hF⟩ => ?_
      subst hF
      have hpr := pick_room ho hl
      have hpf := pick_free' ho
      show Calls _ _ _ _ (Turns (.tuple #[.int .i64 (s.pick.1 : Int), .int .i64 0]) w (foot b lv fv) (refR b (s.take c v).ref))
      rw [take_ref ho hl]
      by_cases hfr : s.freed = []
      · have hp := pick_first hfr
        have ht1 : s.turn = 1 := by
          have h1 := hpf.2.1
          rw [hp, at_ge (Nat.le_refl _)] at h1
          simpa using h1
        rw [ht1, hp]
        rw [show ({ s with slots := s.slots ++ [(0, 0, 0)] } : St).freed = [] from hfr]
        exact (rtake_new hS ho c v u (by omega) (by omega) hf hl hfr).mono fun e w' hm => turns_of_rdoes hm
      · obtain ⟨fs, i, hfi⟩ : ∃ fs i, s.freed = fs ++ [i] := by
          rcases List.eq_nil_or_concat s.freed with h9 | ⟨fs, i, h9⟩
          · exact absurd h9 hfr
          · exact ⟨fs, i, by rw [h9, List.concat_eq_append]⟩
        have hp := pick_old hfi
        have hx : s.full[i]? = some (0, (s.at' i).2.1, (s.at' i).2.2) := by
          rw [hp] at hpr hpf
          rw [full_get hpr]
          have h1 := hpf.1
          generalize s.at' i = y at h1
          obtain ⟨c', t', v'⟩ := y
          dsimp only at h1 ⊢
          rw [h1]
        have ht1 : s.turn = (s.at' i).2.1 + 1 := by rw [hpf.2.1, hp]
        have ht2 : 0 ≤ (s.at' i).2.1 := by have h9 := hpf.2.2; rw [hp] at h9; exact h9
        rw [hp, ht1]
        exact (rtake_old hS ho c v u (by omega) (by omega) hf hl hfi hx ht2 (by omega)).mono fun e w' hm => turns_of_rdoes hm
theorem rfree_goes (hQ : Stable Q) (h : Holds B w0 (sepR (refR b s.ref) Q) w L) (ho : s.Ok) {i : Nat} {c t v : Int} (hi : s.slots[i]? = some (c, t, v)) :
    Calls Try.prog 28 #[.pointer (some ⟨b, 0, none⟩), .int .i64 (i : Int)] w (Goes (.tuple #[]) B w0 (sepR (refR b (s.free i t).ref) Q) L) := by
  have h1 := ho.freed_le
  have h2 := ho.len
  have h3 := ho.room
  have hlt := (List.getElem?_eq_some_iff.1 hi).1
  refine Goes.call hQ h fun F ⟨lv, fv, hS, hF⟩ => ?_
  subst hF
  rw [free_ref hlt h2]
  have hx : s.ref.L[i]? = some (c, t, v) := by
    show s.full[i]? = _
    rw [full_get (by omega), at_some hi]
  exact (rfree_any hS hx (by show s.full.length ≤ 4096; rw [full_len]; omega) (by show s.freed.length ≤ 4096; omega)).mono fun e w' hm => turns_of_rdoes hm
end
end Go.Proofs.Ytpfolcoijncfjaa
