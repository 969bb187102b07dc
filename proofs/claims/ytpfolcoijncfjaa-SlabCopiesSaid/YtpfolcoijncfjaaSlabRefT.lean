/- The document's slab is made, and turned: New, Take, Free. -/
import Derived.Test.YtpfolcoijncfjaaSlabRefP
import Derived.Test.YtpfolcoijncfjaaApp
import Derived.BigRegion
import Derived.OwnWalk
namespace Go.Proofs.Ytpfolcoijncfjaa
open Go.RowKit

theorem infoRSlot : (Try.prog.info? 50).map (fun i => (i.zero, i.size, i.bytes)) = some (some (.agg #[.int .i64 0, .int .i64 0, .int .i64 0]), 3, 24) := by kernel_rfl
theorem slotCells_zero (n : Nat) : slotCells (List.replicate n (0, 0, 0)) = List.replicate (n * 3) (.int .i64 0) := by
  induction n with
  | zero => rfl
  | succ n ih => rw [List.replicate_succ, slotCells, ih, show (n + 1) * 3 = n * 3 + 1 + 1 + 1 by omega, List.replicate_succ, List.replicate_succ, List.replicate_succ]
theorem madeCells_three (z : Value) (n : Nat) : (madeCells #[z, z, z] (n * 3)).toList = List.replicate (n * 3) z := by
  unfold madeCells
  refine List.ext_getElem? fun i => ?_
  simp only [Array.toList_map, Array.toList_range, List.getElem?_map, List.getElem?_replicate]
  by_cases hi : i < n * 3
  · rw [List.getElem?_range hi, if_pos hi]
    have hm : i % 3 = 0 ∨ i % 3 = 1 ∨ i % 3 = 2 := by omega
    rcases hm with h | h | h <;> simp [h]
  · rw [if_neg hi, List.getElem?_eq_none (by simpa using hi)]
    rfl
theorem new_full (n r : Nat) : (⟨n, r, [], []⟩ : St).full = List.replicate n (0, 0, 0) := by
  refine List.ext_getElem? fun i => ?_
  by_cases hi : i < n
  · rw [full_get hi, List.getElem?_replicate, if_pos hi]; rfl
  · rw [full_none (s := ⟨n, r, [], []⟩) (by show n ≤ i; omega), List.getElem?_replicate, if_neg hi]

section
variable {w w' : World} {b : Nat} {r : Rs} {fv : Value}
theorem RefAt.store {g n cap : Nat} (h : RefAt w b r (.slice (some ⟨g, 0, none⟩) n cap) fv) (j : Nat) (u : Value) {l : List Slot3} (hn : n = r.L.length) (hl : (slotCells r.L).set j u = slotCells l) (hll : l.length = r.L.length) :
    RefAt (w.setCell ⟨g, j, none⟩ u) b { r with L := l } (.slice (some ⟨g, 0, none⟩) n cap) fv := by
  subst hn
  have hgb : g ≠ b := h.neL g rfl
  refine ⟨obj_setCell_ne h.box (by simpa using Ne.symm hgb) u, ?_, ?_, h.neL, h.neF, h.neLF⟩
  · have := (h.rowL.stored j u).1
    rw [hl] at this
    show World.ownsRow _ _ _ _ _ l.length (slotCells l)
    rw [hll]; exact this
  · refine h.rowF.kept (h.rowL.stored j u).2 ?_
    have := h.neLF g rfl
    cases hv : fv.ownBlock with
    | none => exact .inl rfl
    | some k => right; rw [hv] at this; exact this
/-- The three cells of a slot are written. -/
theorem RefAt.store3 {g n cap : Nat} (h : RefAt w b r (.slice (some ⟨g, 0, none⟩) n cap) fv) (hn : n = r.L.length) {i : Nat} {c t v : Int} (hi : r.L[i]? = some (c, t, v)) (c' t' v' : Int) :
    RefAt (((w.setCell ⟨g, i * 3, none⟩ (.int .i64 c')).setCell ⟨g, i * 3 + 1, none⟩ (.int .i64 t')).setCell ⟨g, i * 3 + 2, none⟩ (.int .i64 v')) b { r with L := r.L.set i (c', t', v') } (.slice (some ⟨g, 0, none⟩) n cap) fv := by
  have hl := (List.getElem?_eq_some_iff.1 hi).1
  have h1 := h.store (i * 3) (.int .i64 c') hn (slotCells_set hi c' 0 0).1 (by simp)
  have h2 := h1.store (i * 3 + 1) (.int .i64 t') (by simpa using hn) (slotCells_set (get_set hl _) 0 t' 0).2.1 (by simp)
  have h3 := h2.store (i * 3 + 2) (.int .i64 v') (by simpa using hn) (slotCells_set (get_set (by simpa using hl) _) 0 0 v').2.2 (by simp)
  simpa [List.set_set] using h3
theorem RefAt.putF {lv fv' : Value} {fs : List Nat} (hb : w.heap[b]? = some (.cells #[lv, fv, .int .i64 (r.res : Int)] 54 (0, 0)))
    (hL : w.ownsRow 0 50 3 lv r.L.length (slotCells r.L)) (neL : ∀ k, lv.ownBlock = some k → k ≠ b) (hF : w.ownsRow 0 3 1 fv' fs.length (natCells fs))
    (neF : ∀ k, fv'.ownBlock = some k → k ≠ b) (neLF : ∀ k, lv.ownBlock = some k → fv'.ownBlock ≠ some k) : RefAt (w.setCell ⟨b, 1, none⟩ fv') b { r with F := fs } lv fv' :=
  ⟨obj_setCell hb 1 fv', row_setCell hL neL _, row_setCell hF neF _, neL, neF, neLF⟩
end
theorem RefAt.drew {w : World} {b : Nat} {r : Rs} {lv fv : Value} (h : RefAt w b r lv fv) : RefAt w.drew b r lv fv := ⟨h.box, h.rowL, h.rowF, h.neL, h.neF, h.neLF⟩
/-- What a call has done to the document's slab. -/
def RDoes (r : Value) (w : World) (b : Nat) (s' : Rs) (F : List Nat) (e : Ending) (w' : World) : Prop :=
  e = .returned r ∧ ∃ lv' fv', RefAt w' b s' lv' fv' ∧ Frm F w w' ∧ ∀ k ∈ foot b lv' fv', k ∈ F ∨ w.heap.size ≤ k
theorem turns_of_rdoes {r : Value} {b : Nat} {s' : Rs} {w : World} {F : List Nat} {e : Ending} {w' : World} (hd : RDoes r w b s' F e w') : Turns r w F (refR b s') e w' := by
  obtain ⟨he, lv', fv', hS', hf, hn⟩ := hd
  exact ⟨he, _, ⟨lv', fv', hS', rfl⟩, hf, hn, hS'.lt⟩

set_option maxHeartbeats 1000000 in
theorem rnew_goes {B : Nat} {w0 w : World} {Q : World → List Nat → Prop} {L : List (Nat × Obj)} (hQ : Stable Q) (h : Holds B w0 Q w L) (n r : Nat) (h2 : n ≤ 4096) :
    Calls Try.prog 12 #[.int .i64 n, .int .i64 r] w fun e w' => ∃ C, e = .returned (.pointer (some ⟨C, 0, none⟩)) ∧ w.heap.size ≤ C ∧ Holds B w0 (sepR (refR C (⟨n, r, [], []⟩ : St).ref) Q) w' L := by
  obtain ⟨F1, hF1, _, _, hk⟩ := h.empty.split hQ
  have hF0 : F1 = [] := hF1
  subst hF0
  have Hk := Lib.hid hk
  have H0 := Lib.hid (Holds.start w)
  clear h hF1 hk
  obtain ⟨i0, hi0, hi1, hi2, hi3⟩ := info_parts infoRSlot
  go_enter Try.func12, Try.ntmps12
  go_wp2_with (at_make; refine Stop.of ?_)
  refine Stop.go ?_
  refine wpList_make_full _ rfl _ _ 51 rfl w.heap.size 50 i0 (.agg #[.int .i64 0, .int .i64 0, .int .i64 0]) 3 Try.underlying51 hi0 hi1 hi2 .i64 .i64 _ _ n rfl rfl rfl rfl (by rw [hi3]; omega) (by unfold maxLen; omega) (Nat.le_refl _) ?_
  intro w1 hown hgrow
  have h1 := H0.out.newRow noneR_stable hown hgrow
  rw [show (Value.agg #[Value.int .i64 0, Value.int .i64 0, Value.int .i64 0]).cells = #[.int .i64 0, .int .i64 0, .int .i64 0] by rfl, madeCells_three, ← slotCells_zero] at h1
  have H1 := Lib.hid h1
  clear hown hgrow h1
  go_wp2_with fail
  go_ret
  have h2 := H1.out.row
  have hF : Frm [] w w1 := Frm.of_below H1.out.below (Nat.le_refl _)
  refine ⟨w1.heap.size, rfl, hF.size, Hk.out (refR w1.heap.size (⟨n, r, [], []⟩ : St).ref) _ (foot w1.heap.size (.slice (some ⟨w.heap.size, 0, none⟩) n n) (.slice none 0 0)) ⟨_, _, ⟨obj_new _ _, ?_, World.ownsRow_nil _ _ _ _, ?_, by simp [Value.ownBlock], by simp [Value.ownBlock]⟩, rfl⟩ ((hF).alloc _) (fun k hk => .inr ?_) (fun k hk => ?_)⟩
  · show World.ownsRow _ _ _ _ _ (⟨n, r, [], []⟩ : St).full.length (slotCells (⟨n, r, [], []⟩ : St).full)
    rw [new_full, List.length_replicate]
    exact h2.alloc _
  · intro k hk
    have : w.heap.size = k := by simpa [Value.ownBlock] using hk
    have := row_lt h2 _ rfl
    dsimp only at this
    omega
  · have := hF.size
    rcases mem_foot.1 hk with rfl | hk | hk
    · exact hF.size
    · have : w.heap.size = k := by simpa [Value.ownBlock] using hk
      omega
    · simp [Value.ownBlock] at hk
  · rw [World.size_alloc]
    rcases mem_foot.1 hk with rfl | hk | hk
    · omega
    · have : w.heap.size = k := by simpa [Value.ownBlock] using hk
      have := row_lt h2 _ rfl
      dsimp only at this
      omega
    · simp [Value.ownBlock] at hk

theorem left_says {w : World} {b : Nat} {s : St} {lv fv : Value} (h : RefAt w b s.ref lv fv) (ho : s.Ok) : Calls Try.prog 29 #[.pointer (some ⟨b, 0, none⟩)] w fun e w' => e = .returned (.int .i64 s.left) ∧ w = w' := by
  refine (rleft_any h (by show s.full.length ≤ 10000; rw [full_len]; have := ho.room; omega)).mono fun e w' hd => ⟨?_, hd.2⟩
  rw [hd.1]
  show Ending.returned (.int .i64 ((s.full.countP isFree : Nat) : Int)) = _
  rw [full_free ho]
theorem pick_old {s : St} {fs : List Nat} {i : Nat} (h : s.freed = fs ++ [i]) : s.pick = (i, { s with freed := fs }) := by
  unfold St.pick
  rw [h, List.getLast?_concat, List.dropLast_concat]
theorem pick_first {s : St} (h : s.freed = []) : s.pick = (s.slots.length, { s with slots := s.slots ++ [(0, 0, 0)] }) := by
  unfold St.pick
  rw [h]
  rfl

set_option maxHeartbeats 4000000 in
theorem rtake_old {w : World} {b : Nat} {s : St} {lv fv : Value} (h : RefAt w b s.ref lv fv) (ho : s.Ok) (c v : Int) (u : Bool) (hc : 1 ≤ c) (hc' : c ≤ 4) (hfull : s.isFull u = false) (hn : 0 < s.left) {fs : List Nat} {i : Nat} (hfr : s.freed = fs ++ [i]) {t v0 : Int} (hx : s.full[i]? = some (0, t, v0)) (ht0 : 0 ≤ t) (ht : t ≤ 1000000) :
    Calls Try.prog 27 #[.pointer (some ⟨b, 0, none⟩), .int .i64 c, .bool u, .int .i64 v] w (RDoes (.tuple #[.int .i64 (i : Int), .int .i64 0]) w b ⟨s.full.set i (c, t + 1, v), fs, s.reserve⟩ (foot b lv fv)) := by
  have hroom := ho.room
  have hlen : s.freed.length = fs.length + 1 := by rw [hfr]; simp
  have hfl := ho.freed_le
  have hsl := ho.len
  have hi : i < s.room := by have := ho.freed i (by rw [hfr]; simp); omega
  have hlf := left_says h ho
  have hrowF := h.rowF
  rw [show s.ref.F = fs ++ [i] from hfr, List.length_append, List.length_singleton] at hrowF
  obtain ⟨gf, capf, rfl, hgf, hcf, hcf2⟩ := row_some hrowF (by omega)
  obtain ⟨al, cl, rfl⟩ := row_slice h.rowL
  have hcell : w.cell? ⟨gf, fs.length, none⟩ = some (.int .i64 (i : Int)) := by
    rw [hrowF.cellAt _ (by omega)]; simp [natCells]
  have hcut := row_cut hrowF (k := fs.length) (by omega)
  have hk1 : RefAt (w.setCell ⟨b, 1, none⟩ (.slice (some ⟨gf, 0, none⟩) fs.length capf)) b ⟨s.full, fs, s.reserve⟩ (.slice al s.ref.L.length cl) (.slice (some ⟨gf, 0, none⟩) fs.length capf) :=
    RefAt.putF (r := s.ref) h.box h.rowL h.neL (by simpa [natCells] using hcut) h.neF h.neLF
  rw [show s.ref.L.length = s.room from full_len s] at h hk1 ⊢
  have c0 := h.c0
  have c1 := h.c1
  have c2 := h.c2
  have z0 := lt_of_obj h.box
  have y1 := frozen_of_obj h.box 1
  have hgb : gf ≠ b := h.neF gf rfl
  have gz : (s.left == 0) = false := by rw [beq_eq_false_iff_ne]; omega
  have gn : ((fs.length + 1 : Nat) : Int) - 1 = (fs.length : Int) := by omega
  have gn2 : decide (((fs.length + 1 : Nat) : Int) > 0) = true := by rw [decide_eq_true_eq]; omega
  have gn3 : ((fs.length : Int) + 1) - 1 = (fs.length : Int) := by omega
  have gfu : u = false → decide (s.left ≤ (s.reserve : Int)) = false := fun hu => by subst hu; simpa [St.isFull] using hfull
  have gat : decide ((i : Int) < 0) = false := by rw [decide_eq_false_iff_not]; omega
  have H1 := Lib.hid hk1
  have Hlf := Lib.hid hlf
  have Hgfu := Lib.hid gfu
  have Hx := Lib.hid hx
  have hfl' : fs.length ≤ 4096 := by omega
  rw [show s.ref.res = s.reserve from rfl] at c2
  obtain ⟨m, hm⟩ : ∃ m, fs.length = m := ⟨_, rfl⟩
  rw [hm] at c1 hcell gn gn2 gn3 hcf H1 hfl'
  generalize s.left = lf at gz Hlf Hgfu hn
  clear h hk1 hlf hrowF hcut hfull gfu hlen hfl hsl hfr hx ho hm
  cases u
  all_goals
    have gl := Hgfu.out
    simp at gl
    go_enter Try.func27, Try.ntmps27
    go_wp2_with fail
    refine Hlf.out.mono ?_
    rintro e w' ⟨rfl, rfl⟩
    go_wp2_with fail
    have hFr : Frm (foot b (.slice al s.room cl) (.slice (some ⟨gf, 0, none⟩) (m + 1) capf)) w (w.setCell ⟨b, 1, none⟩ (.slice (some ⟨gf, 0, none⟩) m capf)) := (Frm.refl _ _).setCell (a := ⟨b, 1, none⟩) (.inl (mem_foot.2 (.inl rfl))) _
    have HFr := Lib.hid hFr
    clear hFr c0 c1 c2 y1
    generalize w.setCell ⟨b, 1, none⟩ (.slice (some ⟨gf, 0, none⟩) m capf) = w1 at H1 HFr ⊢
    have c0 := H1.out.c0
    have z1 := lt_of_obj H1.out.box
    go_loopw [11, 13] (fun av iv wr => av = .int .i64 (i : Int) ∧ iv = .int .i64 0 ∧ w1 = wr) (fun _ _ _ => 0)
    case atStart => exact ⟨rfl, rfl, rfl⟩
    case round =>
      obtain ⟨rfl, rfl, rfl⟩ := hrel
      obtain ⟨g, cap, hlv, hg, hca, p0, p1, p2, hfz⟩ := H1.out.slot Hx.out
      have hlen1 : s.full.length = s.room := full_len s
      rw [show (⟨s.full, fs, s.reserve⟩ : Rs).L.length = s.room from hlen1] at hlv hca
      simp only [Value.slice.injEq, true_and] at hlv
      obtain ⟨rfl, rfl⟩ := hlv
      have c0 := H1.out.c0
      have z0 := lt_of_obj H1.out.box
      have f0 := hfz (i * 3)
      have f1 := hfz (i * 3 + 1)
      have f2 := hfz (i * 3 + 2)
      have hw1 : IntKind.i64.wrap (t + 1) = t + 1 := IntWalk.i64_in _ (by omega)
      have hst := H1.out.store3 (by simp [full_len]) Hx.out c (t + 1) v
      have Hst := Lib.hid hst
      clear hfz hst
      go_wp2_with fail
      go_region
      go_wp2_with fail
      go_ret2
      exact ⟨rfl, .slice (some ⟨g, 0, none⟩) s.room cl, .slice (some ⟨gf, 0, none⟩) m capf, Hst.out.drew, (((HFr.out.setCell (a := ⟨g, i * 3, none⟩) (.inl (mem_foot.2 (.inr (.inl rfl)))) _).setCell (a := ⟨g, i * 3 + 1, none⟩) (.inl (mem_foot.2 (.inr (.inl rfl)))) _).setCell (a := ⟨g, i * 3 + 2, none⟩) (.inl (mem_foot.2 (.inr (.inl rfl)))) _).drew, fun k hk => .inl (by simpa [mem_foot, Value.ownBlock] using hk)⟩
end Go.Proofs.Ytpfolcoijncfjaa
