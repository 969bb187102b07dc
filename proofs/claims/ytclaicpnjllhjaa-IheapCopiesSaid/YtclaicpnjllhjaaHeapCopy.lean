/- A heap's calls: Copy. -/
import Derived.Test.YtclaicpnjllhjaaHeapAll
import Derived.Shelf.SlMaps.Clone
namespace Go.Proofs.Ytclaicpnjllhjaa
open Go.RowKit Go.Maps

theorem mclone_goes (M n : Nat) (D : DataW Unit) (w : World) (hown : w.ownsMap Try.prog 33 (plainElem Try.prog 3) M n D) :
    Calls Try.prog 31 #[.map (some M)] w fun e w' => e = .returned (.map (some w.heap.size)) ∧ w'.ownsMap Try.prog 33 (plainElem Try.prog 3) w.heap.size n D ∧ w'.ownsMap Try.prog 33 (plainElem Try.prog 3) M n D ∧ Below w.heap.size w w' :=
  AnyW.maps_Clone_owns (P := Try.prog) (ρ := Try.cloneMap_ren) { Try.cloneMap with } 33 (plainElem Try.prog 3) M n D w hown
section
variable {B : Nat} {w0 w w' : World} {Q : World → List Nat → Prop} {L : List (Nat × Obj)}
theorem Holds.newMapOwn {k e : TypeId} (hQ : Stable Q) (h : Holds B w0 Q w L) {D : DataW Unit} {n : Nat} (ho : w'.ownsMap Try.prog k (plainElem Try.prog e) w.heap.size n D) (hB : Below w.heap.size w w') : Holds B w0 (sepR (mapR Try.prog k e w.heap.size D) Q) w' L := by
  obtain ⟨F1, _, _, _, hk⟩ := h.empty.split hQ
  refine hk _ _ [w.heap.size] ⟨ownsMap_sized ho, rfl⟩ (Frm.of_below hB (Nat.le_refl _)) (fun k hk => .inr ?_) (fun k hk => ?_)
  · simp at hk; omega
  · simp at hk; subst hk; exact ho.lt

set_option maxHeartbeats 2000000 in
set_option maxRecDepth 100000 in
theorem hcopy_goes (hQ : Stable Q) {b : Nat} {S : List Ent} (h : Holds B w0 (sepR (heapR b S) Q) w L) (hn : S.length ≤ 200) :
    Calls Try.prog 14 #[.pointer (some ⟨b, 0, none⟩)] w fun e w' => ∃ N : Nat, e = .returned (.pointer (some ⟨N, 0, none⟩)) ∧ Holds B w0 (sepR (heapR N S) (sepR (heapR b S) Q)) w' L := by
  obtain ⟨l, hfit, h0⟩ := h.heapOpen
  obtain ⟨ev, M, D, hp, h1⟩ := h0.rawOpen
  obtain ⟨c0, c1, f0, hb⟩ := h1.hCell0
  have hrow := h1.hRow.row
  obtain ⟨a0, cap0, rfl⟩ := row_slice hrow
  have hlen := hfit.len
  have hnil : a0 = none → l.length = 0 ∧ cap0 = 0 := fun ha => by
    rcases row_nil_or hrow with ⟨h2, h3⟩ | ⟨g, cap, h2, _⟩
    · simp only [Value.slice.injEq] at h2; exact ⟨h3, h2.2.2⟩
    · simp only [Value.slice.injEq] at h2; rw [ha] at h2; exact absurd h2.1 (by simp)
  have hs : Stable (sepR (heap0 b (.slice a0 l.length cap0) M D l) Q) := sepR_stable (heap0_stable _ _ _ _ _) hQ
  have hcl := fun (W : World) (hW : Holds B w0 (sepR (heap0 b (.slice a0 l.length cap0) M D l) Q) W L) => clone_goes hs hW (SlAt.of_row ent_len hW.hRow.row rfl) hnil (by omega)
  have Hcl := Lib.hid hcl
  have Hfit := Lib.hid hfit
  have Hp := Lib.hid hp
  have H1 := Lib.hid h1
  have H1d := Lib.hid (h1.drew hs)
  have hs2 : ∀ v n xs, Stable (sepR (rowR 68 5 v n xs) (sepR (heap0 b (.slice a0 l.length cap0) M D l) Q)) := fun v n xs => sepR_stable (rowR_stable _ _ _ _ _) hs
  clear h h0 h1 hp hrow hnil hcl hfit f0 hlen
  go_enter Try.func14, Try.ntmps14
  go_wp2_with fail
  go_region_held3 (fun w' => w'.cell? ⟨b, 0, none⟩ = some (.slice a0 l.length cap0) ∧ w'.cell? ⟨b, 1, none⟩ = some (.map (some M)))
    (first | exact ⟨r0, r1⟩ | exact ⟨q0, q1⟩ | go_keep)
    ((first
      | (go_at_call 31; refine (mclone_goes M _ D _ Hmo.out).mono ?_; rintro e w2 ⟨rfl, ho, _, hB⟩; have h3 := H2.out.newMapOwn (hs2 _ _ _) ho hB; obtain ⟨r0, r1, _, _⟩ := (h3.drop.drop).hCell0; have H3 := Lib.hid h3; clear h3 ho hB)
      | (go_at_call 30; refine (Hcl.out _ (by first | exact H1d.out | exact H1.out)).mono ?_; rintro e w1 ⟨a1, c1', rfl, h2⟩; obtain ⟨q0, q1, _, _⟩ := (h2.drop).hCell0; obtain ⟨F9, hm9⟩ := (h2.drop.hMap).res; obtain ⟨F8, F7, hm8, _⟩ := hm9; have Hmo := Lib.hid hm8.1; have H2 := Lib.hid h2; clear h2 hm8)))
  all_goals
    have h4 := H3.out.newBox (sepR_stable (mapR_stable _ _ _ _ _) (hs2 _ _ _)) #[.slice a1 l.length c1', .map (some w1.heap.size)] 64
    have h5 : Holds B w0 (sepR (heap0 w2.heap.size (.slice a1 l.length c1') w1.heap.size D l) (sepR (heap0 b (.slice a0 l.length cap0) M D l) Q)) _ L := h4.conv ((Conv.right Conv.fold).trans Conv.fold)
    have h6 := (((((h5.rawShut Hp.out).heapShut Hfit.out).conv Conv.exch).rawShut Hp.out).heapShut Hfit.out).conv Conv.exch
    have H6 := Lib.hid h6
    clear h4 h5 h6
    go_wp2_with fail
    go_ret
    exact ⟨w2.heap.size, rfl, H6.out⟩
end
end Go.Proofs.Ytclaicpnjllhjaa
