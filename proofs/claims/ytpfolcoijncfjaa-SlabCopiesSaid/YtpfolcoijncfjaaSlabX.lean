/- What the calls of package slab that turn it do: New, pick, Take, Free, and how many there are: Live. -/
import Derived.Test.YtpfolcoijncfjaaSlabW
import Derived.Deep.RegionLaw
namespace Go.Proofs.Ytpfolcoijncfjaa
open Go.RowKit

theorem infoSlot : (Try.prog.info? 75).map (fun i => (i.zero, i.size, i.bytes)) = some (some (.agg #[.int .i64 0, .int .i64 0, .int .i64 0]), 3, 24) := by kernel_rfl
theorem infoInt : (Try.prog.info? 3).map (fun i => (i.zero, i.size, i.bytes)) = some (some (.int .i64 0), 1, 8) := by kernel_rfl

set_option maxHeartbeats 400000 in
theorem new_ok {w : World} (n r : Nat) (h1 : 1 ≤ n) (h2 : n ≤ 4096) (h3 : r ≤ n) :
    Calls Try.prog 9 #[.int .i64 n, .int .i64 r] w fun e w' => e = .returned (.tuple #[.pointer (some ⟨w.heap.size, 0, none⟩), .int .i64 0]) ∧
      SlabAt w' w.heap.size ⟨n, r, [], []⟩ (.slice none 0 0) (.slice none 0 0) ∧ Frm [] w w' := by
  go_enter Try.func9, Try.ntmps9
  go_wp2
  go_ret2
  refine ⟨rfl, ?_, (Frm.refl _ _).alloc _⟩
  exact ⟨obj_new _ _, World.ownsRow_nil _ _ _ _, World.ownsRow_nil _ _ _ _, by simp [Value.ownBlock], by simp [Value.ownBlock], by simp [Value.ownBlock]⟩

set_option maxHeartbeats 400000 in
theorem new_bad {w : World} (n r : Int) (h : n < 1 ∨ 4096 < n ∨ r < 0 ∨ n < r) :
    Calls Try.prog 9 #[.int .i64 n, .int .i64 r] w (fun e w' => e = .returned (.tuple #[.pointer none, .int .i64 1]) ∧ w = w') := by
  by_cases h1 : n < 1
  · go_enter Try.func9, Try.ntmps9
    go_wp2
    go_ret2
    exact ⟨rfl, rfl⟩
  by_cases h2 : 4096 < n
  · go_enter Try.func9, Try.ntmps9
    go_wp2
    go_ret2
    exact ⟨rfl, rfl⟩
  by_cases h3 : r < 0
  · go_enter Try.func9, Try.ntmps9
    go_wp2
    go_ret2
    exact ⟨rfl, rfl⟩
  have h4 : n < r := by omega
  clear h
  go_enter Try.func9, Try.ntmps9
  go_wp2
  go_ret2
  exact ⟨rfl, rfl⟩

/-- A slot that was freed last is taken again. -/
theorem pick_freed {w : World} {b : Nat} {s : St} {sv fv : Value} (h : SlabAt w b s sv fv) (fs : List Nat) (i : Nat) (hfr : s.freed = fs ++ [i]) (hl : s.freed.length ≤ 4096) :
    Calls Try.prog 36 #[.pointer (some ⟨b, 0, none⟩)] w (Does (.int .i64 i) w b { s with freed := fs } (foot b sv fv)) := by
  have hlen : s.freed.length = fs.length + 1 := by rw [hfr]; simp
  obtain ⟨g, cap, rfl, hg, hc1, hc2⟩ := row_some h.rowF (by omega)
  have hb := lt_of_obj h.box
  have h3 := h.c3
  have hz3 := frozen_of_obj h.box 3
  have hgb : g ≠ b := h.neF g rfl
  have hcell : w.cell? ⟨g, fs.length, none⟩ = some (.int .i64 (i : Int)) := by
    rw [h.rowF.cellAt _ (by omega), hfr]; simp [natCells]
  have hrow := Lib.hid (row_cut h.rowF (k := fs.length) (by omega))
  have hk := Lib.hid h
  have hlen1 : ((s.freed.length : Int)) - 1 = (fs.length : Int) := by omega
  have Hlen := Lib.hid hlen
  generalize hnn : s.freed.length = n at *
  obtain rfl : n = fs.length + 1 := Hlen.out
  clear h hlen
  go_enter Try.func36, Try.ntmps36
  go_wp2
  go_ret
  clear Hlen
  have H := hk.out
  refine ⟨rfl, sv, _, SlabAt.putF H.box H.rowS H.neS (by simpa [hfr, natCells] using hrow.out) H.neF H.neSF, (Frm.refl _ _).setCell (a := ⟨b, 3, none⟩) (.inl (mem_foot.2 (.inl rfl))) _, fun k hk => .inl ?_⟩
  simpa [mem_foot, Value.ownBlock] using hk

/-- A slot that never held a thing is taken. -/
theorem pick_new {w : World} {b : Nat} {s : St} {sv fv : Value} (h : SlabAt w b s sv fv) (hfr : s.freed = []) (hl : s.slots.length < 4096) :
    Calls Try.prog 36 #[.pointer (some ⟨b, 0, none⟩)] w (Does (.int .i64 (s.slots.length : Int)) w b { s with slots := s.slots ++ [(0, 0, 0)] } (foot b sv fv)) := by
  obtain ⟨af, cf, hfv⟩ := row_slice h.rowF
  rw [hfr] at hfv
  have hb := lt_of_obj h.box
  have h2 := h.c2
  have h3 := h.c3
  have hz2 := frozen_of_obj h.box 2
  have Hfv := Lib.hid hfv
  rw [hfv] at h3
  obtain ⟨i0, hi, hi0, hi1, hi2⟩ := info_parts infoSlot
  have hk := Lib.hid h
  have Hfr := Lib.hid hfr
  have hrow := Lib.hid h.rowS
  clear h hfr hfv
  go_enter Try.func36, Try.ntmps36
  go_wp2_with (at_builtin; refine Stop.of ?_)
  refine Stop.go ?_
  refine wpList_append_foot _ rfl _ _ 66 rfl 75 i0 (.agg #[.int .i64 0, .int .i64 0, .int .i64 0]) 3 24 Try.underlying66 hi hi0 hi1 hi2 rfl (by decide) sv _ (slotCells s.slots) rfl (hrow.out.alloc _) ⟨w.heap.size, 0, none⟩ 1 1 [.int .i64 0, .int .i64 0, .int .i64 0] rfl rfl (cells_new _ _ _) (by simp [Value.oneCell']) (by unfold maxLen; omega) (by omega) ?_
  intro asl csl w1 hown' hF hnew
  have H := hk.out
  have hbS : b ∉ sv.ownBlock.toList := by
    intro hm
    cases hv : sv.ownBlock with
    | none => simp [hv] at hm
    | some k => simp [hv] at hm; exact H.neS k hv hm.symm
  have hb1 := Lib.hid (hF.obj (obj_alloc H.box _) hbS)
  have hz1 := frozen_of_obj hb1.out 2
  have hc1 := cell_of_obj hb1.out 2
  simp only [List.getElem?_toArray, List.getElem?_cons_succ, List.getElem?_cons_zero] at hc1
  have hlb := lt_of_obj hb1.out
  have hF1 := Lib.hid (hF.row (H.rowF.alloc _) (fun k hk hm => by
    cases hv : sv.ownBlock with
    | none => simp [hv] at hm
    | some k' => simp [hv] at hm; subst hm; exact H.neSF _ hv hk))
  have Hown := Lib.hid hown'
  have HF := Lib.hid hF
  have Hnew := Lib.hid hnew
  clear H hown' hF hnew h2 h3
  go_wp2
  go_ret
  have H := hk.out
  have hN := Hnew.out
  simp only [World.size_alloc] at hN
  have hFw : Frm (foot b sv fv) w w1 := ((Frm.refl (foot b sv fv) w).alloc _).trans HF.out (fun k hm => .inl (mem_foot.2 (.inr (.inl (by simpa using hm)))))
  refine ⟨rfl, _, fv, SlabAt.putS hb1.out hF1.out H.neF (by simpa [slotCells_append, slotCells] using Hown.out) ?_ ?_, ?_, ?_⟩
  · intro k hk
    rcases hN k hk with h1 | h1
    · exact H.neS k h1
    · omega
  · intro k hk
    rcases hN k hk with h1 | h1
    · exact H.neSF k h1
    · intro h2
      have := row_lt H.rowF k h2
      omega
  · exact hFw.setCell (a := ⟨b, 2, none⟩) (.inl (mem_foot.2 (.inl rfl))) _
  · intro k hk
    rcases mem_foot.1 hk with rfl | h1 | h1
    · exact .inl (mem_foot.2 (.inl rfl))
    · rcases hN k h1 with h2 | h2
      · exact .inl (mem_foot.2 (.inr (.inl h2)))
      · exact .inr (by omega)
    · exact .inl (mem_foot.2 (.inr (.inr h1)))

/-- The slot that comes next, and what there is then. -/
def St.pick (s : St) : Nat × St :=
  match s.freed.getLast? with
  | some i => (i, { s with freed := s.freed.dropLast })
  | none => (s.slots.length, { s with slots := s.slots ++ [(0, 0, 0)] })
def St.left (s : St) : Int := (s.room : Int) - ((s.slots.length : Int) - (s.freed.length : Int))
def St.isFull (s : St) (u : Bool) : Bool := if u then s.left == 0 else decide (s.left ≤ s.reserve)
/-- The turn that the next thing will have. -/
def St.turn (s : St) : Int := match s.pick.2.slots[s.pick.1]? with
  | some (_, t, _) => t + 1
  | none => 0
/-- What there is behind Take. -/
def St.take (s : St) (c v : Int) : St := { s.pick.2 with slots := s.pick.2.slots.set s.pick.1 (c, s.turn, v) }

theorem pick_slot {s : St} (h : s.Ok) : ∃ t v, s.pick.2.slots[s.pick.1]? = some (0, t, v) ∧ 0 ≤ t ∧ s.turn = t + 1 := by
  unfold St.turn St.pick
  cases hl : s.freed.getLast? with
  | none => exact ⟨0, 0, by simp, by simp, by simp⟩
  | some i =>
    have hm : i ∈ s.freed := List.mem_of_getLast? hl
    have hlt := h.freed i hm
    obtain ⟨⟨c, t, v⟩, hs⟩ : ∃ x, s.slots[i]? = some x := ⟨_, List.getElem?_eq_getElem hlt⟩
    have hc := h.cls i c t v hs
    have hc0 : c = 0 := hc.2.2.2.2 hm
    subst hc0
    exact ⟨t, v, hs, by omega, by simp [hs]⟩

theorem full_any {w : World} {b : Nat} {s : St} {sv fv : Value} (h : SlabAt w b s sv fv) (hr : s.room ≤ 4096) (hl : s.slots.length ≤ s.room) (hf : s.freed.length ≤ s.slots.length) (u : Bool) :
    Calls Try.prog 35 #[.pointer (some ⟨b, 0, none⟩), .bool u] w (Still (.bool (s.isFull u)) w) := by
  cases u
  · exact full_plain h hr hl hf
  · exact full_urgent h hr hl hf

theorem pick_any {w : World} {b : Nat} {s : St} {sv fv : Value} (h : SlabAt w b s sv fv) (ho : s.Ok) (hn : 0 < s.left) :
    Calls Try.prog 36 #[.pointer (some ⟨b, 0, none⟩)] w (Does (.int .i64 (s.pick.1 : Int)) w b s.pick.2 (foot b sv fv)) := by
  have h1 := ho.freed_le
  have h2 := ho.len
  have h3 := ho.room
  unfold St.pick
  cases hl : s.freed.getLast? with
  | none =>
    have hnil : s.freed = [] := by simpa using hl
    refine pick_new h hnil ?_
    unfold St.left at hn
    simp only [hnil, List.length_nil] at hn
    omega
  | some i =>
    refine pick_freed h s.freed.dropLast i ?_ (by omega)
    obtain ⟨ys, hys⟩ := List.getLast?_eq_some_iff.1 hl
    rw [hys]; simp

set_option maxHeartbeats 1000000 in
theorem take_class {w : World} (b : Nat) (c v : Int) (u : Bool) (hc : c < 1 ∨ 4 < c) :
    Calls Try.prog 21 #[.pointer (some ⟨b, 0, none⟩), .int .i64 c, .bool u, .int .i64 v] w (Made (.tuple #[.agg #[.int .i64 0, .int .i64 0], .int .i64 1]) w) := by
  by_cases h1 : c < 1
  · go_enter Try.func21, Try.ntmps21
    go_wp2
    exact bodyPost_ret (v := .tuple #[.agg #[.int .i64 0, .int .i64 0], .int .i64 1]) (by simp [results, Try.results21, go_sem]) rfl ⟨rfl, (Frm.refl _ _).alloc _⟩
  · have h2 : 4 < c := by omega
    clear hc
    go_enter Try.func21, Try.ntmps21
    go_wp2
    exact bodyPost_ret (v := .tuple #[.agg #[.int .i64 0, .int .i64 0], .int .i64 1]) (by simp [results, Try.results21, go_sem]) rfl ⟨rfl, (Frm.refl _ _).alloc _⟩

set_option maxHeartbeats 1000000 in
theorem take_full {w : World} {b : Nat} {s : St} {sv fv : Value} (h : SlabAt w b s sv fv) (hr : s.room ≤ 4096) (hl : s.slots.length ≤ s.room) (hf : s.freed.length ≤ s.slots.length) (c v : Int) (u : Bool) (hc : 1 ≤ c) (hc' : c ≤ 4) (hfull : s.isFull u = true) :
    Calls Try.prog 21 #[.pointer (some ⟨b, 0, none⟩), .int .i64 c, .bool u, .int .i64 v] w (Made (.tuple #[.agg #[.int .i64 0, .int .i64 0], .int .i64 11]) w) := by
  have hk := Lib.hid h
  have Hfull := Lib.hid hfull
  clear h hfull
  go_enter Try.func21, Try.ntmps21
  go_wp2_with fail
  refine (full_any (hk.out.alloc _) hr hl hf u).mono ?_
  rintro e w' ⟨rfl, n, rfl⟩
  rw [Hfull.out]
  go_wp2
  exact bodyPost_ret (v := .tuple #[.agg #[.int .i64 0, .int .i64 0], .int .i64 11]) (by simp [results, Try.results21, go_sem]) rfl ⟨rfl, ((((Frm.refl _ _).alloc _).drewN _).setCell (a := ⟨w.heap.size, 0, none⟩) (.inr (Nat.le_refl _)) _).setCell (a := ⟨w.heap.size, 1, none⟩) (.inr (Nat.le_refl _)) _⟩

set_option maxHeartbeats 1000000 in
theorem take_ok {w : World} {b : Nat} {s : St} {sv fv : Value} (h : SlabAt w b s sv fv) (ho : s.Ok) (c v : Int) (u : Bool) (hc : 1 ≤ c) (hc' : c ≤ 4) (hfull : s.isFull u = false) (hn : 0 < s.left) (ht : s.turn ≤ 1000000) :
    Calls Try.prog 21 #[.pointer (some ⟨b, 0, none⟩), .int .i64 c, .bool u, .int .i64 v] w
      (Does (.tuple #[.agg #[.int .i64 (s.pick.1 : Int), .int .i64 s.turn], .int .i64 0]) w b (s.take c v) (foot b sv fv)) := by
  obtain ⟨t, v0, hp, ht0, hte⟩ := pick_slot ho
  have hlim := h.lt
  have hlt := (List.getElem?_eq_some_iff.1 hp).1
  have htake : s.take c v = { s.pick.2 with slots := s.pick.2.slots.set s.pick.1 (c, t + 1, v) } := by unfold St.take; rw [hte]
  have hlen : s.pick.2.slots.length ≤ 4096 := by
    have h1 := ho.len
    have h2 := ho.room
    unfold St.left at hn
    unfold St.pick
    cases hl : s.freed.getLast? with
    | none =>
      have hnil : s.freed = [] := by simpa using hl
      simp only [hnil, List.length_nil] at hn
      simp; omega
    | some i => simp; omega
  rw [htake]
  rw [hte] at ht ⊢
  have HP := Lib.hid (fun w (h : SlabAt w b s sv fv) => pick_any h ho hn)
  have Hf := Lib.hid (fun w (h : SlabAt w b s sv fv) => full_any h ho.room ho.len ho.freed_le u)
  have hk := Lib.hid h
  have Hfull := Lib.hid hfull
  generalize s.pick = ps at *
  obtain ⟨i, s1⟩ := ps
  dsimp only at hp hlt hlen ⊢
  have Hp := Lib.hid hp
  have Hlim := Lib.hid hlim
  clear h hfull hte htake hp hlim
  go_enter Try.func21, Try.ntmps21
  go_wp2_with fail
  refine (Hf.out _ (hk.out.alloc _)).mono ?_
  rintro e w' ⟨rfl, n, rfl⟩
  rw [Hfull.out]
  go_wp2_with fail
  refine (HP.out _ ((hk.out.alloc _).drewN _)).mono ?_
  rintro e w1 ⟨rfl, sv1, fv1, hS, hF, hnew⟩
  obtain ⟨g, cap, rfl, hg, hcc, hct, hcv, hfz⟩ := hS.slot Hp.out
  have hb1 := lt_of_obj hS.box
  have hw1 := hF.size
  simp only [World.heap_drewN, World.size_alloc] at hw1
  have hc2 := hS.c2
  have hres : ∀ j, w1.cell? ⟨w.heap.size, j, none⟩ = #[Value.int .i64 0, Value.int .i64 0][j]? := fun j => by
    have := hF.obj (k := w.heap.size) (o := .cells #[.int .i64 0, .int .i64 0] 38) (obj_new w _) (fun hm => by have := Hlim.out _ hm; omega)
    exact cell_of_obj this j
  have hr0 := hres 0
  have hr1 := hres 1
  have hzr : ∀ j, w1.frozen? ⟨w.heap.size, j, none⟩ = false := fun j => by
    have := hF.obj (k := w.heap.size) (o := .cells #[.int .i64 0, .int .i64 0] 38) (obj_new w _) (fun hm => by have := Hlim.out _ hm; omega)
    exact frozen_of_obj this j
  simp only [List.getElem?_toArray, List.getElem?_cons_succ, List.getElem?_cons_zero] at hr0 hr1
  have hz0 := hfz (i * 3)
  have hz1 := hfz (i * 3 + 1)
  have hz2 := hfz (i * 3 + 2)
  have hzr0 := hzr 0
  have hzr1 := hzr 1
  have hgr : g ≠ w.heap.size := fun e => by
    rcases hnew g (mem_foot.2 (.inr (.inl rfl))) with h1 | h1
    · have := Hlim.out _ h1; omega
    · simp at h1; omega
  have hgr' : w.heap.size ≠ g := Ne.symm hgr
  have HS := Lib.hid hS
  have HF := Lib.hid hF
  have Hnew := Lib.hid hnew
  clear hS hF hnew hfz hzr hres
  go_wp2
  refine bodyPost_ret (v := .tuple #[.agg #[.int .i64 (i : Int), .int .i64 (t + 1)], .int .i64 0]) (by simp [results, Try.results21, go_sem, hr0, hr1]) rfl ⟨rfl, .slice (some ⟨g, 0, none⟩) s1.slots.length cap, fv1, ?_, ?_, ?_⟩
  · have h1 := HS.out.storeC rfl Hp.out c
    have h2 := h1.storeV (by simp) (get_set hlt _) v
    have h3 := h2.storeT (by simp) (get_set (by simpa using hlt) _) (t + 1)
    simp only [List.set_set] at h3
    have hd : ∀ k ∈ foot b (.slice (some ⟨g, 0, none⟩) s1.slots.length cap) fv1, k ∉ [w.heap.size] := fun k hk hm => by
      have hke : k = w.heap.size := by simpa using hm
      subst hke
      rcases Hnew.out _ hk with h4 | h4
      · have := Hlim.out _ h4; omega
      · simp at h4; omega
    exact (h3.kept (S := [w.heap.size]) ((Frm.refl _ _).setCell (a := ⟨w.heap.size, 0, none⟩) (.inl (by simp)) _) hd).kept (S := [w.heap.size]) ((Frm.refl _ _).setCell (a := ⟨w.heap.size, 1, none⟩) (.inl (by simp)) _) hd
  · have hF1 : Frm (foot b sv fv) w w1 := (((Frm.refl _ w).alloc _).drewN _).trans HF.out (fun k hk => .inl hk)
    have hgin : g ∈ foot b sv fv ∨ w.heap.size ≤ g := by
      rcases Hnew.out g (mem_foot.2 (.inr (.inl rfl))) with h4 | h4
      · exact .inl h4
      · simp at h4; exact .inr (by omega)
    exact ((((hF1.setCell (a := ⟨g, i * 3, none⟩) hgin _).setCell (a := ⟨g, i * 3 + 2, none⟩) hgin _).setCell (a := ⟨g, i * 3 + 1, none⟩) hgin _).setCell (a := ⟨w.heap.size, 0, none⟩) (.inr (Nat.le_refl _)) _).setCell (a := ⟨w.heap.size, 1, none⟩) (.inr (Nat.le_refl _)) _
  · intro k hk
    rcases Hnew.out k hk with h4 | h4
    · exact .inl h4
    · simp at h4; exact .inr (by omega)
end Go.Proofs.Ytpfolcoijncfjaa
