/- The document's answer: a list that begins anywhere in its row. What lies there; an append. -/
import Derived.Test.YthamnalpkjjnlaaRingX
namespace Go.Proofs.Ythamnalpkjjnlaa
open Go.RowKit Go.Maps

theorem infoThing : (Try.prog.info? 44).map (fun i => (i.zero, i.size, i.bytes)) = some (some (.agg #[.int .i64 0, .int .i64 0]), 2, 16) := by kernel_rfl
/-- A list in a row of its own, behind what was there before. -/
def OffAt (a : Option Addr) (n c : Nat) (S : List It) (w : World) (F : List Nat) : Prop :=
  (n = 0 ∧ c = 0 ∧ S = [] ∧ F = []) ∨ ∃ (g : Nat) (D : List It), a = some ⟨g, D.length * 2, none⟩ ∧ S.length = n ∧ n ≤ c ∧ w.ownsRow 0 44 2 (.slice (some ⟨g, 0, none⟩) (D.length + n) (D.length + c)) (D.length + n) (flat It.cells (D ++ S)) ∧ F = [g]
theorem OffAt_stable (a : Option Addr) (n c : Nat) (S : List It) : Stable (OffAt a n c S) := by
  rintro T w w' F (⟨h1, h2, h3, h4⟩ | ⟨g, D, h1, h2, h3, h4, rfl⟩) hf hd
  · exact .inl ⟨h1, h2, h3, h4⟩
  · exact .inr ⟨g, D, h1, h2, h3, hf.row h4 (fun k hk => by simp [Value.ownBlock] at hk; subst hk; exact hd g (by simp)), rfl⟩
theorem OffAt.sl {a : Option Addr} {n c : Nat} {S : List It} {w : World} {F : List Nat} (h : OffAt a n c S w F) : SlAt It.cells 2 w a n c S ∧ (a = none → n = 0 ∧ c = 0) := by
  rcases h with ⟨rfl, rfl, rfl, _⟩ | ⟨g, D, rfl, h2, h3, h4, _⟩
  · exact ⟨SlAt.nil _ _ _ _, fun _ => ⟨rfl, rfl⟩⟩
  · have h5 := SlAt.of_row it_len h4 (by rw [List.length_append]; omega)
    have h6 := h5.drop (m := D.length) (by omega)
    rw [List.drop_left, show D.length + n - D.length = n by omega, show D.length + c - D.length = c by omega, Nat.zero_add] at h6
    exact ⟨h6, fun e => by cases e⟩
theorem OffAt.lt {a : Option Addr} {n c : Nat} {S : List It} {w : World} {F : List Nat} (h : OffAt a n c S w F) : ∀ k ∈ F, k < w.heap.size := by
  rcases h with ⟨_, _, _, rfl⟩ | ⟨g, D, rfl, h2, h3, h4, rfl⟩
  · simp
  · intro k hk
    simp at hk
    subst hk
    exact row_lt h4 _ rfl
/-- A list at the head of its row. -/
theorem OffAt.of_row {a : Option Addr} {n c : Nat} {S : List It} {w : World} (h : w.ownsRow 0 44 2 (.slice a n c) n (flat It.cells S)) (hl : S.length = n) : OffAt a n c S w (Value.slice a n c).ownBlock.toList := by
  rcases row_nil_or h with ⟨h0, rfl⟩ | ⟨g, cc, hv, hg, hn, hc⟩
  · simp only [Value.slice.injEq] at h0
    obtain ⟨rfl, _, rfl⟩ := h0
    exact .inl ⟨rfl, rfl, List.eq_nil_of_length_eq_zero hl, rfl⟩
  · simp only [Value.slice.injEq] at hv
    obtain ⟨rfl, _, rfl⟩ := hv
    exact .inr ⟨g, [], rfl, hl, hn, by simpa using h, rfl⟩

set_option maxHeartbeats 1000000 in
/-- One more thing. -/
theorem off_append {a : Option Addr} {n c : Nat} {S : List It} {w : World} {F : List Nat} (h : OffAt a n c S w F) (hn : n ≤ 10000) (x : It) {sb : Nat} (hx : w.heap[sb]? = some (.cells #[.int .i64 x.at_, .int .i64 x.v] 44)) (ty : TypeId) :
    ∃ (a' : Option Addr) (c' : Nat) (w' : World) (F' : List Nat), (Builtin.append_ #[30, 30] ty #[.slice a n c, .slice (some ⟨sb, 0, none⟩) 1 1]).run Try.prog w = .ok (.slice a' (n + 1) c') w' ∧ OffAt a' (n + 1) c' (S ++ [x]) w' F' ∧ Frm F w w' ∧ (∀ k ∈ F', k ∈ F ∨ w.heap.size ≤ k) := by
  obtain ⟨i1, hj0, hj1, hj2, hj3⟩ := info_parts infoThing
  have hnews : ∀ (j : Nat) (u : Value), x.cells[j]? = some u → w.cell? ((⟨sb, 0, none⟩ : Addr).add j) = some u := fun j u hj => by
    rw [addr_add, cell_of_obj hx, Nat.zero_add]
    have hl := (List.getElem?_eq_some_iff.1 hj).1
    simp only [It.cells, List.length_cons, List.length_nil] at hl
    match j, hl with
    | 0, _ => exact hj
    | 1, _ => exact hj
  have hfresh : ∀ (a' : Option Addr) (c' : Nat) (w' : World), w'.ownsRow 0 44 2 (.slice a' (0 + 1) c') (0 + 1) ([] ++ x.cells) → OffAt a' 1 c' [x] w' (Value.slice a' 1 c').ownBlock.toList := fun a' c' w' h1 => OffAt.of_row (by simpa [flat] using h1) rfl
  by_cases hroom : n + 1 ≤ c
  · rcases h with ⟨h1, h2, _⟩ | ⟨g, D, rfl, h2, h3, h4, rfl⟩
    · omega
    · have hfc := run_firstCells_some (P := Try.prog) w 2 1 ⟨sb, 0, none⟩ 1 1 x.cells rfl hnews
      obtain ⟨hlen, hn0 | ⟨g', cap, cur, hv, _, hgb, hnc, hcm, hcs, htake⟩⟩ := h4
      · exact absurd hn0.1 (by simp)
      simp only [Value.slice.injEq, Option.some.injEq, Addr.mk.injEq, and_true, true_and] at hv
      obtain ⟨rfl, rfl⟩ := hv
      have ho : (D.length + n) * 2 + 2 ≤ cur.size := by rw [hcs]; omega
      have hst := run_storeCells_cells (P := Try.prog) g (D.length * 2 + n * 2) x.cells 0 w (fun j hj => by
          have hj' : j < 2 := hj
          rw [cell_of_obj hgb, Array.getElem?_eq_getElem (by omega)]; rfl) (fun j _ => frozen_of_obj hgb _) (it_one x)
      have hst2 : (storeCells ((⟨g, D.length * 2, none⟩ : Addr).add (n * 2)) x.cells).run Try.prog w = .ok () (w.setCells g (D.length * 2 + n * 2) x.cells) := by
        have he : ∀ i, ((⟨g, D.length * 2, none⟩ : Addr).add (n * 2)).add i = (⟨g, D.length * 2 + n * 2, none⟩ : Addr).add i := fun i => by rw [addr_add]
        rw [addr_add]
        rw [Nat.add_zero] at hst
        exact hst
      refine ⟨some ⟨g, D.length * 2, none⟩, c, w.setCells g (D.length * 2 + n * 2) x.cells, [g], ?_, .inr ⟨g, D, rfl, by simp [h2], hroom, ?_, rfl⟩, ?_, fun k hk => .inl hk⟩
      · simp [Builtin.append_, run_underlying Try.underlying30, sizeOf, typeInfo, hj0, hj2, Builtin.lenOf, hroom, hfc, hst2]
      · rw [show D.length * 2 + n * 2 = (D.length + n) * 2 by omega]
        refine ⟨by rw [flat_length it_len, List.length_append, List.length_append, h2]; simp, .inr ⟨g, D.length + c, _, rfl, Nat.zero_le _, obj_setCell (obj_setCell hgb ((D.length + n) * 2) (.int .i64 x.at_)) ((D.length + n) * 2 + 1) (.int .i64 x.v), by omega, hcm, by simp [hcs], ?_⟩⟩
        rw [← List.append_assoc, flat_append, flat_single, ← htake]
        refine List.ext_getElem? fun j => ?_
        have hcl : cur.toList.length = cur.size := Array.length_toList
        rw [List.getElem?_take]
        by_cases hj : j < (D.length + n) * 2
        · rw [if_pos (by omega), List.getElem?_append_left (by rw [List.length_take]; omega), List.getElem?_take, if_pos hj]
          simp only [Array.toList_setIfInBounds]
          rw [List.getElem?_set_ne (by omega), List.getElem?_set_ne (by omega)]
        · rw [List.getElem?_append_right (by rw [List.length_take]; omega), List.length_take, Nat.min_eq_left (by omega)]
          by_cases hj2 : j < (D.length + n) * 2 + 2
          · rw [if_pos (by omega)]
            simp only [Array.toList_setIfInBounds]
            rcases (by omega : j = (D.length + n) * 2 ∨ j = (D.length + n) * 2 + 1) with rfl | rfl
            · rw [List.getElem?_set_ne (by omega), List.getElem?_set_self (by omega), Nat.sub_self]; rfl
            · rw [List.getElem?_set_self (by rw [List.length_set]; omega), Nat.add_sub_cancel_left]; rfl
          · rw [if_neg (by omega), List.getElem?_eq_none (by simp [It.cells]; omega)]
      · rw [setCells_storeAll]
        exact ((Frm.refl _ _).setCell (a := ⟨g, D.length * 2 + n * 2, none⟩) (.inl (by simp)) _).setCell (a := ⟨g, D.length * 2 + n * 2 + 1, none⟩) (.inl (by simp)) _
  · have hsl := h.sl
    have hnc : n = c := by have := hsl.1.2.1; omega
    subst hnc
    have hlt := h.lt
    cases a with
    | none =>
      obtain ⟨rfl, _⟩ := hsl.2 rfl
      have hS : S = [] := List.eq_nil_of_length_eq_zero hsl.1.1
      subst hS
      have hx0 := run_append_nil (P := Try.prog) w 30 ty 44 i1 _ Try.underlying30 hj0 hj1 ⟨sb, 0, none⟩ 1 1 x.cells (by rw [hj2]; rfl) hnews (by omega) (by omega) (by rw [hj3]; omega)
      have hc1 := grownCap_ge w 1 0 44
      have hc2 := grownCap_le_maxLen w 1 0 44 (by unfold maxLen; omega)
      refine ⟨_, _, _, [w.heap.size], hx0, .inr ⟨w.heap.size, [], by simp, rfl, hc1, ?_, rfl⟩, (Frm.refl _ _).drew.alloc _, fun k hk => .inr (by simp at hk; omega)⟩
      simp only [List.length_nil, Nat.zero_add, List.nil_append, flat, List.append_nil]
      refine ⟨rfl, .inr ⟨w.heap.size, _, _, rfl, Nat.zero_le _, obj_new w.drew _, hc1, hc2, ?_, ?_⟩⟩
      · simp only [Array.size_append, size_zeroCells, List.size_toArray, It.cells, List.length_cons, List.length_nil]
        show 0 + 1 + 1 + (_ - 1) * 2 = _ * 2
        omega
      · simp [It.cells]
    | some ad =>
      have hsp : S = [] ∨ ∃ b off, ad = ⟨b, off, none⟩ := by
        rcases hsl.1.2.2.2 with h0 | ⟨b, off, he, _⟩
        · exact .inl (List.eq_nil_of_length_eq_zero (by have := hsl.1.1; omega))
        · exact .inr ⟨b, off, Option.some.inj he⟩
      have hold : ∀ (j : Nat) (u : Value), (flat It.cells S)[j]? = some u → w.cell? (ad.add j) = some u := by
        rcases hsp with rfl | ⟨b, off, rfl⟩
        · intro j u hj; simp [flat] at hj
        · exact hsl.1.news it_len (by omega)
      have hSl := hsl.1.1
      have hx0 := run_append_grow (P := Try.prog) w 30 ty 44 i1 _ Try.underlying30 hj0 hj1 ad n n (flat It.cells S) (by rw [flat_length it_len, hj2, hSl]) hold ⟨sb, 0, none⟩ 1 1 x.cells (by rw [hj2]; rfl) hnews (by omega) (by omega) (growslice_fits (by omega) (by rw [hj3]; omega))
      have hc1 := grownCap_ge w (n + 1) n 44
      have hc2 := grownCap_le_maxLen w (n + 1) n 44 (by unfold maxLen; omega)
      have hfl : (flat It.cells S).length = n * 2 := by rw [flat_length it_len, hSl]
      refine ⟨_, _, _, [w.heap.size], hx0, .inr ⟨w.heap.size, [], by simp, by simp [hSl], hc1, ?_, rfl⟩, (Frm.refl _ _).drew.alloc _, fun k hk => .inr (by simp at hk; omega)⟩
      simp only [List.length_nil, Nat.zero_add, List.nil_append, flat_append, flat_single]
      refine ⟨by rw [List.length_append, hfl]; simp only [It.cells, List.length_cons, List.length_nil]; omega, .inr ⟨w.heap.size, _, _, rfl, Nat.zero_le _, obj_new w.drew _, hc1, hc2, ?_, ?_⟩⟩
      · simp only [Array.size_append, size_zeroCells, List.size_toArray, It.cells, List.length_cons, List.length_nil, hfl]
        show n * 2 + (0 + 1 + 1) + (_ - (n + 1)) * 2 = _ * 2
        omega
      · rw [Array.toList_append, Array.toList_append, List.take_append_of_le_length]
        · rw [List.take_of_length_le]
          simp only [List.length_append, hfl, It.cells, List.length_cons, List.length_nil]; omega
        · simp only [List.length_append, hfl, It.cells, List.length_cons, List.length_nil]; omega

/-- The document's ring. -/
def refR (b room : Nat) (S : List It) : World → List Nat → Prop := fun w F => ∃ x : Option Addr × Nat, sepR (boxR b #[.int .i64 (room : Int), .slice x.1 S.length x.2] 32) (OffAt x.1 S.length x.2 S) w F
theorem refR_stable (b room : Nat) (S : List It) : Stable (refR b room S) := exR_stable fun _ => sepR_stable (boxR_stable _ _ _) (OffAt_stable _ _ _ _)
section
variable {B : Nat} {w0 w : World} {Q : World → List Nat → Prop} {L : List (Nat × Obj)} {b room : Nat} {S : List It} {a : Option Addr} {c : Nat}
theorem Holds.refOpen (h : Holds B w0 (sepR (refR b room S) Q) w L) : ∃ a c, Holds B w0 (sepR (boxR b #[.int .i64 (room : Int), .slice a S.length c] 32) (sepR (OffAt a S.length c S) Q)) w L := by
  obtain ⟨⟨a, c⟩, h1⟩ := h.ex
  exact ⟨a, c, h1.conv Conv.flat⟩
theorem Holds.refShut (h : Holds B w0 (sepR (boxR b #[.int .i64 (room : Int), .slice a S.length c] 32) (sepR (OffAt a S.length c S) Q)) w L) : Holds B w0 (sepR (refR b room S) Q) w L :=
  Holds.ofEx (a, c) (h.conv Conv.fold)
theorem Holds.off {n : Nat} (h : Holds B w0 (sepR (OffAt a n c S) Q) w L) : SlAt It.cells 2 w a n c S ∧ (a = none → n = 0 ∧ c = 0) := by
  obtain ⟨F, h, _⟩ := h
  obtain ⟨F1, F2, hR, _⟩ := h.res
  exact hR.sl
/-- The document's ring, read. -/
def RefAt (w : World) (b room : Nat) (S : List It) : Prop := ∃ (a : Option Addr) (c : Nat), w.heap[b]? = some (.cells #[.int .i64 (room : Int), .slice a S.length c] 32) ∧ SlAt It.cells 2 w a S.length c S ∧ (a = none → S.length = 0 ∧ c = 0)
theorem RefAt.frm {w' : World} (h : RefAt w b room S) (hf : Frm [] w w') : RefAt w' b room S := by
  obtain ⟨a, c, h1, h2, h3⟩ := h
  exact ⟨a, c, hf.obj h1 (by simp), h2.frm hf, h3⟩
theorem Holds.refAt (h : Holds B w0 (sepR (refR b room S) Q) w L) : RefAt w b room S := by
  obtain ⟨a, c, h1⟩ := h.refOpen
  exact ⟨a, c, h1.theBox, (h1.conv Conv.exch).off.1, (h1.conv Conv.exch).off.2⟩
/-- Behind an append onto the list. -/
theorem Holds.offTurned {a' : Option Addr} {c' n n' : Nat} {S' : List It} {w' : World} (hQ : Stable Q) (h : Holds B w0 (sepR (OffAt a n c S) Q) w L) (hh : ∀ F, OffAt a n c S w F → ∃ F', OffAt a' n' c' S' w' F' ∧ Frm F w w' ∧ (∀ k ∈ F', k ∈ F ∨ w.heap.size ≤ k)) : Holds B w0 (sepR (OffAt a' n' c' S') Q) w' L := by
  obtain ⟨F1, hR, _, _, hk⟩ := h.split hQ
  obtain ⟨F', h1, h2, h3⟩ := hh F1 hR
  exact hk _ _ F' h1 h2 h3 h1.lt
end
end Go.Proofs.Ythamnalpkjjnlaa
