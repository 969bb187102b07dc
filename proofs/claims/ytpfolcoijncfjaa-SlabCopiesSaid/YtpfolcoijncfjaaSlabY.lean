/- Free of package slab, and the calls of a nil slab. -/
import Derived.Test.YtpfolcoijncfjaaSlabX
namespace Go.Proofs.Ytpfolcoijncfjaa
open Go.RowKit

set_option maxHeartbeats 400000 in
theorem free_none {w : World} {b : Nat} {s : St} {sv fv : Value} (h : SlabAt w b s sv fv) (hl : s.slots.length ≤ 4096) (x t : Int) (hn : s.look x t = none) :
    Calls Try.prog 22 #[.pointer (some ⟨b, 0, none⟩), .agg #[.int .i64 x, .int .i64 t]] w (Made (.tuple #[.int .i64 0, .int .i64 12]) w) := by
  have hk := Lib.hid h
  have Hn := Lib.hid hn
  clear h hn
  go_enter Try.func22, Try.ntmps22
  go_wp2_with fail
  refine (find_none (hk.out.alloc _) hl x t Hn.out).mono ?_
  rintro e w1 ⟨rfl, hF⟩
  go_wp2
  go_ret2
  exact ⟨rfl, ((Frm.refl _ _).alloc _).trans hF (by simp)⟩

/-- What there is behind Free of slot i. -/
def St.free (s : St) (i : Nat) (t : Int) : St := { s with slots := s.slots.set i (0, t, 0), freed := s.freed ++ [i] }

set_option maxHeartbeats 1000000 in
theorem free_some {w : World} {b : Nat} {s : St} {sv fv : Value} (h : SlabAt w b s sv fv) (hl : s.slots.length ≤ 4096) (hfl : s.freed.length ≤ 4096) (x t : Int) (i : Nat) (c v : Int) (hn : s.look x t = some (i, c, v)) :
    Calls Try.prog 22 #[.pointer (some ⟨b, 0, none⟩), .agg #[.int .i64 x, .int .i64 t]] w (Does (.tuple #[.int .i64 v, .int .i64 0]) w b (s.free i t) (foot b sv fv)) := by
  obtain ⟨rfl, hi, hc0, hlt⟩ := look_some hn
  obtain ⟨g, cap, rfl, hg, hc, hct, hcv, hfz⟩ := h.slot hi
  have hlim := h.lt
  have hk := Lib.hid h
  have Hi := Lib.hid hi
  have Hc := Lib.hid hc0
  have Hcc := Lib.hid hc
  have Hcv := Lib.hid hcv
  have Hz2 := Lib.hid (hfz (i * 3 + 2))
  have Hz0 := Lib.hid (hfz (i * 3))
  have hb := lt_of_obj h.box
  obtain ⟨i0, hi0, hi1, hi2, hi3⟩ := info_parts infoInt
  clear h hn hi hc0 hc hct hcv hfz
  go_enter Try.func22, Try.ntmps22
  go_wp2_with fail
  refine (find_some (hk.out.alloc _) hl i c t v Hi.out (by simpa using Hc.out)).mono ?_
  rintro e w1 ⟨rfl, hF⟩
  have hF' := ((Frm.refl [] w).alloc (.cells #[.int .i64 (i : Int), .int .i64 t] 38)).trans hF (by simp)
  have hv1 := hF'.cell Hcv.out (by simp)
  have hv0 := hF'.cell Hcc.out (by simp)
  have hz2 := (hF'.frozen (a := ⟨g, i * 3 + 2, none⟩) hg (by simp)).trans Hz2.out
  have hz0 := (hF'.frozen (a := ⟨g, i * 3, none⟩) hg (by simp)).trans Hz0.out
  have hk1 := Lib.hid (hk.out.kept hF' (by simp))
  have hbx : w1.heap[w.heap.size]? = some (.cells #[.int .i64 (i : Int), .int .i64 t] 38) := hF.obj (obj_new w _) (by simp)
  have Hbx := Lib.hid hbx
  have HF := Lib.hid hF'
  clear hbx hF hF'
  go_wp2
  have H1 := hk1.out
  have H2 := (H1.storeV rfl Hi.out 0).storeC (by simp) (get_set hlt _) 0
  simp only [List.set_set] at H2
  refine wp_world (fun w2 => SlabAt w2 b { s with slots := s.slots.set i (0, t, 0) } (.slice (some ⟨g, 0, none⟩) s.slots.length cap) fv ∧ Frm (foot b (.slice (some ⟨g, 0, none⟩) s.slots.length cap) fv) w w2 ∧
    w2.heap[w.heap.size]? = some (.cells #[.int .i64 (i : Int), .int .i64 t] 38)) ⟨H2, ?_, ?_⟩ ?_
  · exact (((HF.out).mono (by simp)).setCell (a := ⟨g, i * 3 + 2, none⟩) (.inl (mem_foot.2 (.inr (.inl rfl)))) _).setCell (a := ⟨g, i * 3, none⟩) (.inl (mem_foot.2 (.inr (.inl rfl)))) _
  · have : w.heap.size ≠ g := by omega
    exact obj_setCell_ne (obj_setCell_ne Hbx.out this _) this _
  clear H1 H2 HF Hbx hk1 hv1 hv0 hz2 hz0 w1
  rintro w2 ⟨hS2, hF2, hbx2⟩
  have h3 := hS2.c3
  have hz3 := frozen_of_obj hS2.box 3
  have hb2 := lt_of_obj hS2.box
  have hx0 := cell_of_obj hbx2 0
  simp only [List.getElem?_toArray, List.getElem?_cons_zero] at hx0
  have hlx := lt_of_obj hbx2
  have HS2 := Lib.hid hS2
  have HF2 := Lib.hid hF2
  clear hS2 hF2 hbx2
  have hbF : b ∉ fv.ownBlock.toList := by
    intro hm
    cases hv : fv.ownBlock with
    | none => simp [hv] at hm
    | some k => simp [hv] at hm; exact HS2.out.neF k hv hm.symm
  go_region_law (refine step_append_foot rfl (.tmp 33) (.tmp 36) 52 rfl 3 i0 (.int .i64 0) 1 8 Try.underlying52 hi0 hi1 hi2 hi3 rfl (by decide) fv s.freed.length (natCells s.freed) rfl (HS2.out.rowF.drew.alloc _) ⟨w2.heap.size, 0, none⟩ 1 1 [.int .i64 (i : Int)] rfl rfl (cells_new _ _ _) (by simp [Value.oneCell']) (by unfold maxLen; omega) (by omega) ?_; intro afv cfv w3 hown' hF3 hnew3; have hb3 := hF3.obj (obj_alloc (w := w2.drew) HS2.out.box _) hbF; have hlb3 := lt_of_obj hb3; have hc3 := cell_of_obj hb3 3; have hzz3 := frozen_of_obj hb3 3; simp only [List.getElem?_toArray, List.getElem?_cons_succ, List.getElem?_cons_zero] at hc3; have Hb3 := Lib.hid hb3; have Hown := Lib.hid hown'; have HF3 := Lib.hid hF3; have Hnew := Lib.hid hnew3; clear hb3 hown' hF3 hnew3)
  all_goals go_wp2
  all_goals
    go_ret2
    have H2 := HS2.out
    have hN := Hnew.out
    have hsz := HF2.out.size
    have hgS : g ∉ fv.ownBlock.toList := by
      intro hm
      cases hv : fv.ownBlock with
      | none => simp [hv] at hm
      | some k => simp [hv] at hm; subst hm; exact H2.neSF _ rfl hv
    have hS3 := HF3.out.row (H2.rowS.alloc (.cells #[.int .i64 (i : Int)] 3)) (fun k hk => by simp [Value.ownBlock] at hk; subst hk; exact hgS)
    have hne : ∀ k, (Value.slice afv (s.freed.length + 1) cfv).ownBlock = some k → fv.ownBlock = some k ∨ w2.heap.size + 1 ≤ k := fun k hk => by
      rcases hN k hk with h1 | h1
      · exact .inl h1
      · simp at h1; exact .inr h1
    refine ⟨rfl, .slice (some ⟨g, 0, none⟩) s.slots.length cap, .slice afv (s.freed.length + 1) cfv, SlabAt.putF (s := { s with slots := s.slots.set i (0, t, 0) }) (fs := s.freed ++ [i]) Hb3.out hS3 H2.neS (by simpa [natCells] using Hown.out) ?_ ?_, ?_, ?_⟩
    · intro k hk
      rcases hne k hk with h1 | h1
      · exact H2.neF k h1
      · omega
    · intro k hk
      simp [Value.ownBlock] at hk
      subst hk
      intro h2
      rcases hne g h2 with h1 | h1
      · exact H2.neSF g rfl h1
      · omega
    · have hF3 : Frm (foot b (.slice (some ⟨g, 0, none⟩) s.slots.length cap) fv) w w3 :=
        ((HF2.out.alloc (.cells #[.int .i64 (i : Int)] 3)).drew).trans HF3.out (fun k hk => .inl (mem_foot.2 (.inr (.inr (by simpa using hk)))))
      exact hF3.setCell (a := ⟨b, 3, none⟩) (.inl (mem_foot.2 (.inl rfl))) _
    · intro k hk
      rcases mem_foot.1 hk with rfl | h1 | h1
      · exact .inl (mem_foot.2 (.inl rfl))
      · exact .inl (mem_foot.2 (.inr (.inl h1)))
      · rcases hne k h1 with h2 | h2
        · exact .inl (mem_foot.2 (.inr (.inr h2)))
        · exact .inr (by omega)
end Go.Proofs.Ytpfolcoijncfjaa
