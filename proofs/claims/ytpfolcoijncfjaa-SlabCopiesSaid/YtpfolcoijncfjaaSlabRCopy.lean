/- The document's Copy. -/
import Derived.Test.YtpfolcoijncfjaaSlabCopy
import Derived.Deep.RegionLaw
namespace Go.Proofs.Ytpfolcoijncfjaa
open Go.RowKit

section
variable {α : Type} {enc : α → List Value} {P : Program}
theorem step_append_sl {w : World} {ops : Array Oper} {o : Oper} {a : Act} {K : Act → World → Prop} {Q : Exit → Act → World → Prop} {E : Prop} (hgd : o.guard = none) (s x : Operand) (t : TypeId)
    (ho : o.op = .call { callee := .builtin .append, args := #[s, x], argTypes := #[t, t] })
    (e : TypeId) (i : TypeInfo) (z : Value) (size bytes : Nat) (ht : P.underlying t = some (.slice e)) (hi : P.info? e = some i) (hz : i.zero = some z)
    (hsize : i.size = size) (hby : i.bytes = bytes) (hzs : z.cells.size = size) (hsz : 0 < size)
    (v : Value) (n : Nat) (xs : List Value) (hs : a.eval s = v) (hown : w.ownsRow 0 e size v n xs)
    (A : Option Addr) (m c : Nat) (l : List α) (hx : a.eval x = .slice A m c) (hsl : SlAt enc size w A m c l) (hnil : A = none → m = 0 ∧ c = 0) (hk : ∀ x, (enc x).length = size) (h1 : ∀ x, ∀ u ∈ enc x, u.oneCell' = true)
    (h63 : n + m ≤ maxLen) (hbytes : (n + m) * bytes ≤ 140737488355328)
    (h : ∀ (a' : Option Addr) (c' : Nat) (w' : World), w'.ownsRow 0 e size (.slice a' (n + m) c') (n + m) (xs ++ flat enc l) → Frm v.ownBlock.toList w w' → (∀ k, (Value.slice a' (n + m) c').ownBlock = some k → v.ownBlock = some k ∨ w.heap.size ≤ k) → K (a.put o.dst (.slice a' (n + m) c')) w') :
    if Region.wanted o (yielded ops a.tmps) = true then Oper.wp P o a w K Q else E := by
  have hw : Region.wanted o (yielded ops a.tmps) = true := by simp [Region.wanted, hgd]
  rw [if_pos hw]
  exact wp_append_sl w s x t ho e i z size bytes ht hi hz hsize hby hzs hsz v n xs hs hown A m c l hx hsl hnil hk h1 h63 hbytes h
end

set_option maxHeartbeats 4000000 in
set_option maxRecDepth 100000 in
theorem rcopy_any {w : World} {b : Nat} {r : Rs} {lv fv : Value} (h : RefAt w b r lv fv) (hL4 : r.L.length ≤ 4096) (hF4 : r.F.length ≤ 4096) :
    Calls Try.prog 17 #[.pointer (some ⟨b, 0, none⟩)] w fun e w' => ∃ K, e = .returned (.pointer (some ⟨K, 0, none⟩)) ∧ Holds w.heap.size w (sepR (refR K r) noneR) w' [] := by
  obtain ⟨a, c, rfl⟩ := row_slice h.rowL
  obtain ⟨af, cf, rfl⟩ := row_slice h.rowF
  have hrow := h.rowL
  rw [← flat_sl] at hrow
  have hnil : a = none → r.L.length = 0 ∧ c = 0 := fun ha => by
    subst ha
    rcases row_nil_or hrow with ⟨hv, _⟩ | ⟨g, cc, hv, _⟩
    · simp only [Value.slice.injEq] at hv
      exact ⟨hv.2.1, hv.2.2⟩
    · simp at hv
  have hs1 := SlAt.of_row slEnc_len hrow rfl
  obtain ⟨hs2, hnil2⟩ := nat_row h.rowF rfl
  have c0 := h.c0
  have c1 := h.c1
  have c2 := h.c2
  have z0 := lt_of_obj h.box
  have hne : b ≠ w.heap.size := by omega
  have hne' : w.heap.size ≠ b := by omega
  have h0 := ((Holds.start w).alloc noneR_stable (.cells #[.slice none 0 0, .slice none 0 0, .int .i64 (r.res : Int)] 54)).nilRow 50 3
  have hst : Stable (sepR (rowR 50 3 (.slice none 0 0) 0 []) noneR) := sepR_stable (rowR_stable _ _ _ _ _) noneR_stable
  have h1 := h0.drew hst
  have hob := h0.box (k := w.heap.size) (o := .cells #[.slice none 0 0, .slice none 0 0, .int .i64 (r.res : Int)] 54) (by simp)
  have k0 := cell_of_obj hob 0
  have kf := frozen_of_obj hob 0
  have kl := lt_of_obj hob
  have H1 := Lib.hid h1
  have Hs1 := Lib.hid hs1
  have Hs2 := Lib.hid hs2
  have Hnil := Lib.hid hnil
  have Hnil2 := Lib.hid hnil2
  have Hr := Lib.hid h
  obtain ⟨i0, hi0, hi1, hi2, hi3⟩ := info_parts infoRSlot
  have I0 := Lib.hid hi0
  have I1 := Lib.hid hi1
  have I2 := Lib.hid hi2
  have I3 := Lib.hid hi3
  obtain ⟨j0, hj0, hj1, hj2, hj3⟩ := info_parts infoInt
  have J0 := Lib.hid hj0
  have J1 := Lib.hid hj1
  have J2 := Lib.hid hj2
  have J3 := Lib.hid hj3
  have hfw : Frm [] w (w.alloc (.cells #[.slice none 0 0, .slice none 0 0, .int .i64 (r.res : Int)] 54)).drew := ((Frm.refl _ _).alloc _).drew
  have Hfw := Lib.hid hfw
  simp only [List.getElem?_toArray, List.getElem?_cons_zero] at k0
  clear h hrow hnil hs1 hs2 hnil2 h0 h1 hst hob hi0 hi1 hi2 hi3 hj0 hj1 hj2 hj3 hfw
  go_enter Try.func17, Try.ntmps17
  go_wp2_with fail
  go_region_law (refine step_append_sl rfl (.tmp 14) (.tmp 18) 51 rfl 50 i0 (.agg #[.int .i64 0, .int .i64 0, .int .i64 0]) 3 24 Try.underlying51 I0.out I1.out I2.out I3.out rfl (by decide) (.slice none 0 0) 0 [] rfl H1.out.row a r.L.length c r.L rfl (Hs1.out.frm Hfw.out) Hnil.out slEnc_len slEnc_one (by unfold maxLen; omega) (by omega) ?_; intro a3 c3 w3 hown hF hnew; have h5 := H1.out.appended noneR_stable hown hF hnew; have hb3 := h5.box (k := w.heap.size) (o := .cells #[.slice none 0 0, .slice none 0 0, .int .i64 (r.res : Int)] 54) (by simp); have hlb3 := lt_of_obj hb3; have hc3 : w3.cell? ⟨w.heap.size, 0, none⟩ = some (.slice none 0 0) := by { rw [cell_of_obj hb3]; rfl }; have hzz3 := frozen_of_obj hb3 0; have H5 := Lib.hid h5; clear hown hF hnew hb3 h5)
  all_goals
    have h7 : Holds w.heap.size w (sepR (rowR 50 3 (.slice a3 r.L.length c3) r.L.length (slotCells r.L)) noneR) (w3.setCell ⟨w.heap.size, 0, none⟩ (.slice a3 r.L.length c3)) [(w.heap.size, .cells #[.slice a3 r.L.length c3, .slice none 0 0, .int .i64 (r.res : Int)] 54)] := by
      have h6 := H5.out
      simp only [Nat.zero_add, List.nil_append, flat_sl] at h6
      exact Holds.put (L := []) (M := []) (sepR_stable (rowR_stable _ _ _ _ _) noneR_stable) h6 (Nat.le_refl _) (by simp) (by simp) 0 (.slice a3 r.L.length c3)
    have hR7 : Stable (sepR (rowR 50 3 (.slice a3 r.L.length c3) r.L.length (slotCells r.L)) noneR) := sepR_stable (rowR_stable _ _ _ _ _) noneR_stable
    have h8 := (h7.nilRow 3 1).drew (sepR_stable (rowR_stable _ _ _ _ _) hR7)
    have hob := h7.box (k := w.heap.size) (o := .cells #[.slice a3 r.L.length c3, .slice none 0 0, .int .i64 (r.res : Int)] 54) (by simp)
    have hf7 : Frm [] w (w3.setCell ⟨w.heap.size, 0, none⟩ (.slice a3 r.L.length c3)) := Frm.of_below h7.below (Nat.le_refl _)
    have hr7 := Hr.out.kept hf7 (by simp)
    have hd1 := hr7.c1
    have hdl := lt_of_obj hr7.box
    have e1 : (w3.setCell ⟨w.heap.size, 0, none⟩ (.slice a3 r.L.length c3)).cell? ⟨w.heap.size, 1, none⟩ = some (.slice none 0 0) := by rw [cell_of_obj hob]; rfl
    have e2 := frozen_of_obj hob 1
    have e3 := lt_of_obj hob
    have Hf7 := Lib.hid hf7.drew
    have H8 := Lib.hid h8
    clear h7 h8 hob hf7 hr7 hc3 hlb3 hzz3 k0 kf kl c0 c1 c2
    generalize w3.setCell ⟨w.heap.size, 0, none⟩ (.slice a3 r.L.length c3) = w4 at hd1 hdl e1 e2 e3 Hf7 H8 ⊢
    go_wp2_with fail
    go_region_law (refine step_append_sl rfl (.tmp 26) (.tmp 30) 52 rfl 3 j0 (.int .i64 0) 1 8 Try.underlying52 J0.out J1.out J2.out J3.out rfl (by decide) (.slice none 0 0) 0 [] rfl H8.out.row af r.F.length cf r.F rfl (Hs2.out.frm Hf7.out) Hnil2.out natEnc_len natEnc_one (by unfold maxLen; omega) (by omega) ?_; intro a5 c5 w5 hown hF hnew; have h9 := H8.out.appended hR7 hown hF hnew; have hb9 := h9.box (k := w.heap.size) (o := .cells #[.slice a3 r.L.length c3, .slice none 0 0, .int .i64 (r.res : Int)] 54) (by simp); have hlb9 := lt_of_obj hb9; have hc9 : w5.cell? ⟨w.heap.size, 1, none⟩ = some (.slice none 0 0) := by { rw [cell_of_obj hb9]; rfl }; have hzz9 := frozen_of_obj hb9 1; have H9 := Lib.hid h9; clear hown hF hnew hb9 h9)
    all_goals
      have h10 : Holds w.heap.size w (sepR (rowR 3 1 (.slice a5 r.F.length c5) r.F.length (natCells r.F)) (sepR (rowR 50 3 (.slice a3 r.L.length c3) r.L.length (slotCells r.L)) noneR)) (w5.setCell ⟨w.heap.size, 1, none⟩ (.slice a5 r.F.length c5)) [(w.heap.size, .cells #[.slice a3 r.L.length c3, .slice a5 r.F.length c5, .int .i64 (r.res : Int)] 54)] := by
        have h6 := H9.out
        simp only [Nat.zero_add, List.nil_append, flat_nat] at h6
        exact Holds.put (L := []) (M := []) (sepR_stable (rowR_stable _ _ _ _ _) hR7) h6 (Nat.le_refl _) (by simp) (by simp) 1 (.slice a5 r.F.length c5)
      have H10 := Lib.hid h10
      clear h10
      go_wp2_with fail
      go_ret
      refine ⟨w.heap.size, rfl, ?_⟩
      obtain ⟨F, hc, hb1, hb2, hb3⟩ := H10.out
      obtain ⟨hbx, hbF⟩ := hc.box (w.heap.size, .cells #[.slice a3 r.L.length c3, .slice a5 r.F.length c5, .int .i64 (r.res : Int)] 54) (by simp)
      obtain ⟨F1, F2, ⟨r1, rfl⟩, ⟨F3, F4, ⟨r2, rfl⟩, hnn, _, _, _, rfl⟩, hdis, hlt1, hlt2, rfl⟩ := hc.res
      have hn4 : F4 = [] := hnn
      subst hn4
      dsimp only at hbx hbF
      have hS : RefAt (w5.setCell ⟨w.heap.size, 1, none⟩ (.slice a5 r.F.length c5)) w.heap.size r (.slice a3 r.L.length c3) (.slice a5 r.F.length c5) := by
        refine ⟨hbx, r2, r1, fun k hk e => ?_, fun k hk e => ?_, fun k hk e => ?_⟩
        · subst e; exact hbF (by simp [hk])
        · subst e; exact hbF (by simp [hk])
        · exact hdis k (by simp [e]) (by simp [hk])
      refine ⟨foot w.heap.size (.slice a3 r.L.length c3) (.slice a5 r.F.length c5), ⟨⟨_, [], ⟨_, _, hS, rfl⟩, rfl, by simp, hS.lt, by simp, by simp⟩, hS.lt, by simp⟩, hb1, fun k hk => ?_, hb3⟩
      rcases mem_foot.1 hk with rfl | hk | hk
      · exact Nat.le_refl _
      · exact hb2 k (by simp [hk])
      · exact hb2 k (by simp [hk])
end Go.Proofs.Ytpfolcoijncfjaa
