/- A slab's Copy; Live of one class, and of classes twice. -/
import Derived.Test.YtpfolcoijncfjaaSlabAll
namespace Go.Proofs.Ytpfolcoijncfjaa
open Go.RowKit

theorem Holds.join {R R' : World → List Nat → Prop} {B : Nat} {w0 w w' : World} {L : List (Nat × Obj)} (hR : Stable R) (h : Holds B w0 R w L) (h' : Holds w.heap.size w R' w' []) : Holds B w0 (sepR R' R) w' L := by
  obtain ⟨F', h1, hb, hlo, hle⟩ := h'
  have hf : Frm [] w w' := Frm.of_below hb (Nat.le_refl _)
  have hm := h.made hR hf
  obtain ⟨F, h2, _, h3, h4⟩ := h
  obtain ⟨_, h5, h6, _, _⟩ := hm
  have hR' : R w' F := hR [] w w' F h2.res hf (by simp)
  have hlt : ∀ k ∈ F, k < w'.heap.size := fun k hk => Nat.lt_of_lt_of_le (h2.lt k hk) hle
  refine ⟨F' ++ F, ⟨⟨F', F, h1.res, hR', fun k hk hm => ?_, h1.lt, hlt, rfl⟩, fun k hk => ?_, fun p hp => ⟨hf.obj (h2.box p hp).1 (by simp), fun hm => ?_⟩⟩, h6, fun k hk => ?_, Nat.le_trans h4 hle⟩
  · have := hlo k hk; have := h2.lt k hm; omega
  · rcases List.mem_append.1 hk with h | h
    · exact h1.lt k h
    · exact hlt k h
  · rcases List.mem_append.1 hm with h | h
    · have := hlo _ h; have := lt_of_obj (h2.box p hp).1; omega
    · exact (h2.box p hp).2 h
  · rcases List.mem_append.1 hk with h | h
    · have := hlo k h; omega
    · exact h3 k h

section
variable {b : Nat} {s : St} {w w0 : World} {B : Nat} {L : List (Nat × Obj)} {Q : World → List Nat → Prop}
theorem live_one (hQ : Stable Q) (h : Holds B w0 (sepR (slabR b s) Q) w L) (ho : s.Ok) (k : Int) (gc : Nat) (hgc : w.heap[gc]? = some (.cells #[.int .i64 k] 3)) :
    Calls Try.prog 23 #[.pointer (some ⟨b, 0, none⟩), .slice (some ⟨gc, 0, none⟩) 1 1] w (Goes (.int .i64 (s.liveOf [k] : Int)) B w0 (sepR (slabR b s) Q) L) := by
  refine Goes.call_made (slabR_stable _ _) hQ h fun F ⟨sv, fv, hS, hF⟩ => ?_
  refine live_any hS ho [k] gc 0 1 (by simp) (by simp) (lt_of_obj hgc) fun j c hc => ?_
  rw [Nat.zero_add, cell_of_obj hgc]
  match j, hc with
  | 0, hc => cases hc; rfl
  | j + 1, hc => simp at hc
theorem live_twice (hQ : Stable Q) (h : Holds B w0 (sepR (slabR b s) Q) w L) (ho : s.Ok) (gc : Nat) (hgc : w.heap[gc]? = some (.cells #[.int .i64 1, .int .i64 3, .int .i64 1] 3)) :
    Calls Try.prog 23 #[.pointer (some ⟨b, 0, none⟩), .slice (some ⟨gc, 0, none⟩) 3 3] w (Goes (.int .i64 (s.liveOf [1, 3, 1] : Int)) B w0 (sepR (slabR b s) Q) L) := by
  refine Goes.call_made (slabR_stable _ _) hQ h fun F ⟨sv, fv, hS, hF⟩ => ?_
  refine live_any hS ho [1, 3, 1] gc 0 3 (by simp) (by simp) (lt_of_obj hgc) fun j c hc => ?_
  rw [Nat.zero_add, cell_of_obj hgc]
  match j, hc with
  | 0, hc => cases hc; rfl
  | 1, hc => cases hc; rfl
  | 2, hc => cases hc; rfl
  | j + 3, hc => simp at hc
end

/-- A copy of numbers. -/
def CloneI (l : List Nat) (n : Nat) (w : World) (e : Ending) (w' : World) : Prop :=
  ∃ (a : Option Addr) (c : Nat), e = .returned (.slice a n c) ∧ Holds w.heap.size w (sepR (rowR 3 1 (.slice a n c) n (natCells l)) noneR) w' []
set_option maxHeartbeats 1000000 in
theorem cloneI_any (w : World) (a : Option Addr) (n cap : Nat) (l : List Nat) (hl : SlAt natEnc 1 w a n cap l) (hn : n ≤ 4096) (hnil : a = none → n = 0 ∧ cap = 0) : Calls Try.prog 31 #[.slice a n cap] w (CloneI l n w) := by
  have hl1 := hl.1
  have qT : ∀ (w : World) (a : Option Addr) (n c n' c' : Nat), (binOp .eql 52 (.slice a n c) (.slice none n' c')).run Try.prog w = .ok (.bool a.isNone) w := fun w a n c n' c' => Lib.run_eql_slice_nil w _ _ a n c n' c' Try.underlying52
  cases a with
  | none =>
    obtain ⟨rfl, rfl⟩ := hnil rfl
    have hle : l = [] := List.eq_nil_of_length_eq_zero hl1
    subst hle
    have H0 := Lib.hid ((Holds.start w).nilRow 3 1)
    clear hl hl1 hnil
    go_enter Try.func31, Try.ntmps31
    go_wp2_with fail
    go_ret
    exact ⟨none, 0, rfl, H0.out⟩
  | some ad =>
    have Hl := Lib.hid hl
    have H0 := Lib.hid ((Holds.start w).emptyRow noneR_stable 3 1)
    clear hl hl1 hnil
    go_enter Try.func31, Try.ntmps31
    go_wp2_with (at_builtin; refine Stop.of ?_)
    refine Stop.go ?_
    obtain ⟨i1, hj0, hj1, hj2, hj3⟩ := info_parts infoInt
    have h5 := H0.out
    refine wpList_append_sl (enc := natEnc) _ rfl _ _ 52 rfl 3 i1 (.int .i64 0) 1 8 Try.underlying52 hj0 hj1 hj2 hj3 rfl (by decide) (.slice (some ⟨w.heap.size, 0, none⟩) 0 0) 0 [] rfl h5.row (some ad) n cap l rfl (Hl.out.frm ((Frm.refl _ _).alloc _)) (by simp) natEnc_len natEnc_one (by unfold maxLen; omega) (by omega) ?_
    intro a3 c3 w3 hown hF hnew
    have hs1 := h5.appended noneR_stable hown hF hnew
    simp only [Nat.zero_add, List.nil_append, flat_nat] at hs1 ⊢
    have HS1 := Lib.hid hs1
    clear hown hF hnew h5 hs1 hj0 hj1 hj2 hj3
    go_wp2_with fail
    go_ret
    exact ⟨a3, c3, rfl, HS1.out⟩

set_option maxHeartbeats 2000000 in
theorem copy_any {w : World} {b : Nat} {s : St} {sv fv : Value} (h : SlabAt w b s sv fv) (ho : s.Ok) :
    Calls Try.prog 15 #[.pointer (some ⟨b, 0, none⟩)] w fun e w' => ∃ K, e = .returned (.pointer (some ⟨K, 0, none⟩)) ∧ Holds w.heap.size w (sepR (slabR K s) noneR) w' [] := by
  have h1 := ho.len
  have h2 := ho.room
  have h3 := ho.freed_le
  have c0 := h.c0
  have c1 := h.c1
  have c2 := h.c2
  have c3 := h.c3
  have z0 := lt_of_obj h.box
  obtain ⟨a, cap, rfl⟩ := row_slice h.rowS
  obtain ⟨af, capf, rfl⟩ := row_slice h.rowF
  have hrow := h.rowS
  rw [← flat_sl] at hrow
  have hnil : a = none → s.slots.length = 0 ∧ cap = 0 := fun ha => by
    subst ha
    rcases row_nil_or hrow with ⟨hv, _⟩ | ⟨g, cc, hv, _⟩
    · simp only [Value.slice.injEq] at hv
      exact ⟨hv.2.1, hv.2.2⟩
    · simp at hv
  have hs1 := SlAt.of_row slEnc_len hrow rfl
  obtain ⟨hs2, hnil2⟩ := nat_row h.rowF rfl
  have Hs1 := Lib.hid hs1
  have Hs2 := Lib.hid hs2
  have Hnil := Lib.hid hnil
  have Hnil2 := Lib.hid hnil2
  have Hk := Lib.hid h
  have H0 := Lib.hid ((Holds.start w).alloc noneR_stable (.cells #[.int .i64 (s.room : Int), .int .i64 (s.reserve : Int), .slice a s.slots.length cap, .slice af s.freed.length capf] 68))
  clear h hrow hnil hs1 hs2 hnil2 ho
  go_enter Try.func15, Try.ntmps15
  go_wp2_with fail
  refine (clone_any _ a s.slots.length cap s.slots (Hs1.out.frm ((Frm.refl _ _).alloc _)) (by omega) Hnil.out).mono ?_
  rintro e w1 ⟨a1, d1, rfl, h5⟩
  have h6 := sepR_unit (H0.out.join noneR_stable h5)
  have hob := h6.box (k := w.heap.size) (o := .cells #[.int .i64 (s.room : Int), .int .i64 (s.reserve : Int), .slice a s.slots.length cap, .slice af s.freed.length capf] 68) (by simp)
  have v2 := frozen_of_obj hob 2
  have x2 : w1.cell? ⟨w.heap.size, 2, none⟩ = some (.slice a s.slots.length cap) := by rw [cell_of_obj hob]; rfl
  have zz := lt_of_obj hob
  have hfr1 : Frm [] w w1 := Frm.of_below h6.below (Nat.le_refl _)
  have hk1 := Hk.out.kept hfr1 (by simp)
  have y3 := hk1.c3
  have hbb : b < w1.heap.size := lt_of_obj hk1.box
  have hne : b ≠ w.heap.size := by omega
  have hne' : w.heap.size ≠ b := by omega
  have h7 : Holds w.heap.size w (sepR (rowR 75 3 (.slice a1 s.slots.length d1) s.slots.length (slotCells s.slots)) noneR) (w1.setCell ⟨w.heap.size, 2, none⟩ (.slice a1 s.slots.length d1)) [(w.heap.size, .cells #[.int .i64 (s.room : Int), .int .i64 (s.reserve : Int), .slice a1 s.slots.length d1, .slice af s.freed.length capf] 68)] :=
    Holds.put (L := []) (M := []) (sepR_stable (rowR_stable _ _ _ _ _) noneR_stable) h6 (Nat.le_refl _) (by simp) (by simp) 2 (.slice a1 s.slots.length d1)
  have H7 := Lib.hid h7
  clear h5 h6 hob hfr1 hk1 h7 H0
  go_wp2_with fail
  have hfr2 : Frm [] w (w1.setCell ⟨w.heap.size, 2, none⟩ (.slice a1 s.slots.length d1)) := Frm.of_below H7.out.below (Nat.le_refl _)
  refine (cloneI_any _ af s.freed.length capf s.freed (Hs2.out.frm hfr2) (by omega) Hnil2.out).mono ?_
  rintro e w2 ⟨a2, d2, rfl, h5⟩
  have h6 := sepR_unit (H7.out.join (sepR_stable (rowR_stable _ _ _ _ _) noneR_stable) h5)
  have hob := h6.box (k := w.heap.size) (o := .cells #[.int .i64 (s.room : Int), .int .i64 (s.reserve : Int), .slice a1 s.slots.length d1, .slice af s.freed.length capf] 68) (by simp)
  have v3 := frozen_of_obj hob 3
  have x3 : w2.cell? ⟨w.heap.size, 3, none⟩ = some (.slice af s.freed.length capf) := by rw [cell_of_obj hob]; rfl
  have z3 := lt_of_obj hob
  have h8 : Holds w.heap.size w (sepR (rowR 3 1 (.slice a2 s.freed.length d2) s.freed.length (natCells s.freed)) (sepR (rowR 75 3 (.slice a1 s.slots.length d1) s.slots.length (slotCells s.slots)) noneR)) (w2.setCell ⟨w.heap.size, 3, none⟩ (.slice a2 s.freed.length d2)) [(w.heap.size, .cells #[.int .i64 (s.room : Int), .int .i64 (s.reserve : Int), .slice a1 s.slots.length d1, .slice a2 s.freed.length d2] 68)] :=
    Holds.put (L := []) (M := []) (sepR_stable (rowR_stable _ _ _ _ _) (sepR_stable (rowR_stable _ _ _ _ _) noneR_stable)) h6 (Nat.le_refl _) (by simp) (by simp) 3 (.slice a2 s.freed.length d2)
  have H8 := Lib.hid h8
  clear h5 h6 hob hfr2 h8 H7
  go_wp2_with fail
  go_ret
  refine ⟨w.heap.size, rfl, ?_⟩
  have h9 := H8.out
  obtain ⟨F, hc, hb1, hb2, hb3⟩ := h9
  obtain ⟨hbx, hbF⟩ := hc.box (w.heap.size, .cells #[.int .i64 (s.room : Int), .int .i64 (s.reserve : Int), .slice a1 s.slots.length d1, .slice a2 s.freed.length d2] 68) (by simp)
  obtain ⟨F1, F2, ⟨r1, rfl⟩, ⟨F3, F4, ⟨r2, rfl⟩, hnn, _, _, _, rfl⟩, hdis, hlt1, hlt2, rfl⟩ := hc.res
  have hn4 : F4 = [] := hnn
  subst hn4
  dsimp only at hbx hbF
  have hS : SlabAt (w2.setCell ⟨w.heap.size, 3, none⟩ (.slice a2 s.freed.length d2)) w.heap.size s (.slice a1 s.slots.length d1) (.slice a2 s.freed.length d2) := by
    refine ⟨hbx, r2, r1, fun k hk e => ?_, fun k hk e => ?_, fun k hk e => ?_⟩
    · subst e; exact hbF (by simp [hk])
    · subst e; exact hbF (by simp [hk])
    · exact hdis k (by simp [e]) (by simp [hk])
  have hpos : w.heap.size < (w2.setCell ⟨w.heap.size, 3, none⟩ (.slice a2 s.freed.length d2)).heap.size := lt_of_obj hbx
  refine ⟨foot w.heap.size (.slice a1 s.slots.length d1) (.slice a2 s.freed.length d2), ⟨⟨_, [], ⟨_, _, hS, rfl⟩, rfl, by simp, hS.lt, by simp, by simp⟩, hS.lt, by simp⟩, hb1, fun k hk => ?_, hb3⟩
  rcases mem_foot.1 hk with rfl | hk | hk
  · exact Nat.le_refl _
  · exact hb2 k (by simp [hk])
  · exact hb2 k (by simp [hk])
end Go.Proofs.Ytpfolcoijncfjaa
