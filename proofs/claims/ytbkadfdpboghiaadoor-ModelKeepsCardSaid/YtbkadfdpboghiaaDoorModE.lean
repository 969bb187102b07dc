/- Package model: a copy of a program, of places, of starts. -/
import Derived.Test.YtbkadfdpboghiaaDoorModP
namespace Go.Proofs.YtbkadfdpboghiaaDoor
open Go.RowKit Go.Maps

theorem infoInsM : (Tryd.prog.info? 58).map (fun i => (i.zero, i.size, i.bytes)) = some (some (.agg #[.int .i64 0, .int .i64 0, .int .i64 0, .int .i64 0, .int .i64 0]), 5, 40) := by kernel_rfl
theorem infoPlM : (Tryd.prog.info? 59).map (fun i => (i.zero, i.size, i.bytes)) = some (some (.agg #[.int .i64 0, .int .i64 0, .int .i64 0, .int .i64 0, .int .i64 0]), 5, 40) := by kernel_rfl
theorem infoStM : (Tryd.prog.info? 61).map (fun i => (i.zero, i.size, i.bytes)) = some (some (.agg #[.int .i64 0, .int .i64 0, .int .i64 0, .int .i64 0]), 4, 32) := by kernel_rfl

theorem made_flatG {α : Type} {enc : α → List Value} {k : Nat} (hk : ∀ x, (enc x).length = k) (hk0 : 0 < k) (z : Array Value) (z0 : α) (hz : z.toList = enc z0) (n : Nat) : (madeCells z (n * k)).toList = flat enc (List.replicate n z0) := by
  have hs : z.size = k := by rw [← Array.length_toList, hz, hk]
  refine List.ext_getElem? fun i => ?_
  by_cases hi : i < n * k
  · have hq : i / k < n := (Nat.div_lt_iff_lt_mul hk0).2 hi
    have hr := Nat.mod_lt i hk0
    have hd : i / k * k + i % k = i := by rw [Nat.mul_comm]; exact Nat.div_add_mod i k
    have hu : (enc z0)[i % k]? = some ((enc z0)[i % k]'(by rw [hk]; exact hr)) := List.getElem?_eq_getElem _
    have h1 := flat_get hk (l := List.replicate n z0) (i := i / k) (x := z0) (by rw [List.getElem?_replicate, if_pos hq]) hu
    rw [hd] at h1
    rw [h1]
    unfold madeCells
    simp only [Array.toList_map, Array.toList_range, List.getElem?_map, List.getElem?_range hi, Option.map_some, hs]
    rw [getElem!_pos z (i % k) (by omega)]
    simp only [← hz, Array.getElem_toList]
  · rw [List.getElem?_eq_none (by rw [Array.length_toList, size_madeCells]; omega), List.getElem?_eq_none (by rw [flat_length hk, List.length_replicate]; omega)]

/-- The same, with the row that has been made. -/
def CloneOwn {α : Type} (t : TypeId) (enc : α → List Value) (k : Nat) (l : List α) (n : Nat) (w : World) (e : Ending) (w' : World) : Prop :=
  ∃ (a : Option Addr) (c : Nat), e = .returned (.slice a n c) ∧ w'.ownsRow 0 t k (.slice a n c) n (flat enc l) ∧ Betw w.heap.size w'.heap.size a ∧ Frm [] w w'
/-- A copy that has been made, in a block of its own. -/
def CloneMade {α : Type} (enc : α → List Value) (k : Nat) (l : List α) (n : Nat) (w : World) (e : Ending) (w' : World) : Prop :=
  ∃ (a : Option Addr) (c : Nat), e = .returned (.slice a n c) ∧ SlAt enc k w' a n c l ∧ NilOk a n c ∧ Betw w.heap.size w'.heap.size a ∧ Frm [] w w'
theorem CloneOwn.made {α : Type} {t : TypeId} {enc : α → List Value} {k : Nat} (hk : ∀ x, (enc x).length = k) {l : List α} {n : Nat} {w : World} {e : Ending} {w' : World} (hl : l.length = n) (h : CloneOwn t enc k l n w e w') : CloneMade enc k l n w e w' := by
  obtain ⟨a, c, he, hr, hb, hf⟩ := h
  refine ⟨a, c, he, SlAt.of_row hk hr hl, fun ha => ?_, hb, hf⟩
  subst ha
  rcases row_nil_or hr with ⟨h0, _⟩ | ⟨g, cap, h0, _⟩
  · simp only [Value.slice.injEq] at h0; exact ⟨h0.2.1, h0.2.2⟩
  · simp at h0
theorem betw_of {Q : World → List Nat → Prop} {w w' : World} {L : List (Nat × Obj)} {t : TypeId} {k n c : Nat} {a : Option Addr} {xs : List Value} (h : Holds w.heap.size w (sepR (rowR t k (.slice a n c) n xs) Q) w' L) : Betw w.heap.size w'.heap.size a := fun x hx => by
  subst hx
  obtain ⟨F, h1, _, h3, _⟩ := h
  obtain ⟨F1, F2, ⟨_, hF1⟩, _, _, hl1, _, rfl⟩ := h1.res
  have hm : x.block ∈ F1 := by rw [hF1]; simp [Value.ownBlock]
  exact ⟨h3 _ (by simp [hm]), hl1 _ hm⟩
theorem Holds.emptyRowM {R : World → List Nat → Prop} {B : Nat} {w0 w : World} {L : List (Nat × Obj)} (hR : Stable R) (h : Holds B w0 R w L) (e : TypeId) (size : Nat) : Holds B w0 (sepR (rowR e size (.slice (some ⟨w.heap.size, 0, none⟩) 0 0) 0 []) R) (w.alloc (.cells #[] e)) L := by
  obtain ⟨F1, _, _, _, hk⟩ := h.empty.split hR
  refine hk _ _ [w.heap.size] ⟨⟨by simp, .inr ⟨w.heap.size, 0, #[], rfl, Nat.zero_le _, obj_new w _, Nat.le_refl _, Nat.zero_le _, by simp, by simp⟩⟩, rfl⟩ ((Frm.refl _ _).alloc _) (fun k hk => .inr ?_) (fun k hk => ?_)
  · simp at hk; omega
  · simp at hk; subst hk; simp

set_option maxHeartbeats 1000000 in
theorem cloneI_own (w : World) (a : Option Addr) (n cap : Nat) (l : List Ins) (hl : SlAt Ins.enc 5 w a n cap l) (hn : n ≤ 300) (hnil : NilOk a n cap) : Calls Tryd.prog 29 #[.slice a n cap] w (CloneOwn 58 Ins.enc 5 l n w) := by
  have hl1 := hl.1
  have qT : ∀ (w : World) (a : Option Addr) (n c n' c' : Nat), (binOp .eql 52 (.slice a n c) (.slice none n' c')).run Tryd.prog w = .ok (.bool a.isNone) w := fun w a n c n' c' => Lib.run_eql_slice_nil w _ _ a n c n' c' Tryd.underlying52
  cases a with
  | none =>
    obtain ⟨rfl, rfl⟩ := hnil rfl
    have hle : l = [] := List.eq_nil_of_length_eq_zero hl1
    subst hle
    clear hl hl1 hnil
    go_enter Tryd.func29, Tryd.ntmps29
    go_wp2_with fail
    go_ret
    exact ⟨none, 0, rfl, World.ownsRow_nil _ _ _ _, (fun x hx => by cases hx), Frm.refl _ _⟩
  | some ad =>
    have Hl := Lib.hid hl
    have Hnil := Lib.hid hnil
    have Hl1 := Lib.hid hl1
    have H0 := Lib.hid ((Holds.start w).emptyRowM noneR_stable 58 5)
    clear hl hl1 hnil
    go_enter Tryd.func29, Tryd.ntmps29
    go_wp2_with (at_builtin; refine Stop.of ?_)
    refine Stop.go ?_
    obtain ⟨i1, hj0, hj1, hj2, hj3⟩ := info_parts infoInsM
    have h5 := H0.out
    refine wpList_append_sl (enc := Ins.enc) _ rfl _ _ 52 rfl 58 i1 (.agg #[.int .i64 0, .int .i64 0, .int .i64 0, .int .i64 0, .int .i64 0]) 5 40 Tryd.underlying52 hj0 hj1 hj2 hj3 rfl (by decide) (.slice (some ⟨w.heap.size, 0, none⟩) 0 0) 0 [] rfl h5.row (some ad) n cap l rfl (Hl.out.frm ((Frm.refl _ _).alloc _)) Hnil.out Ins.enc_len Ins.enc_one (by unfold maxLen; omega) (by omega) ?_
    intro a3 c3 w3 hown hF hnew
    have hs1 := h5.appended noneR_stable hown hF hnew
    simp only [Nat.zero_add, List.nil_append] at hs1
    have HS1 := Lib.hid hs1
    clear hown hF hnew h5 hs1 hj0 hj1 hj2 hj3
    simp only [Nat.zero_add]
    go_wp2_with fail
    go_ret
    exact ⟨a3, c3, rfl, HS1.out.row, betw_of HS1.out, Frm.of_below HS1.out.below (Nat.le_refl _)⟩
theorem cloneI_any (w : World) (a : Option Addr) (n cap : Nat) (l : List Ins) (hl : SlAt Ins.enc 5 w a n cap l) (hn : n ≤ 300) (hnil : NilOk a n cap) : Calls Tryd.prog 29 #[.slice a n cap] w (CloneMade Ins.enc 5 l n w) :=
  (cloneI_own w a n cap l hl hn hnil).mono fun _ _ h => h.made Ins.enc_len hl.1

set_option maxHeartbeats 1000000 in
theorem cloneP_own (w : World) (a : Option Addr) (n cap : Nat) (l : List Pl) (hl : SlAt Pl.enc 5 w a n cap l) (hn : n ≤ 300) (hnil : NilOk a n cap) : Calls Tryd.prog 30 #[.slice a n cap] w (CloneOwn 59 Pl.enc 5 l n w) := by
  have hl1 := hl.1
  have qT : ∀ (w : World) (a : Option Addr) (n c n' c' : Nat), (binOp .eql 23 (.slice a n c) (.slice none n' c')).run Tryd.prog w = .ok (.bool a.isNone) w := fun w a n c n' c' => Lib.run_eql_slice_nil w _ _ a n c n' c' Tryd.underlying23
  cases a with
  | none =>
    obtain ⟨rfl, rfl⟩ := hnil rfl
    have hle : l = [] := List.eq_nil_of_length_eq_zero hl1
    subst hle
    clear hl hl1 hnil
    go_enter Tryd.func30, Tryd.ntmps30
    go_wp2_with fail
    go_ret
    exact ⟨none, 0, rfl, World.ownsRow_nil _ _ _ _, (fun x hx => by cases hx), Frm.refl _ _⟩
  | some ad =>
    have Hl := Lib.hid hl
    have Hnil := Lib.hid hnil
    have Hl1 := Lib.hid hl1
    have H0 := Lib.hid ((Holds.start w).emptyRowM noneR_stable 59 5)
    clear hl hl1 hnil
    go_enter Tryd.func30, Tryd.ntmps30
    go_wp2_with (at_builtin; refine Stop.of ?_)
    refine Stop.go ?_
    obtain ⟨i1, hj0, hj1, hj2, hj3⟩ := info_parts infoPlM
    have h5 := H0.out
    refine wpList_append_sl (enc := Pl.enc) _ rfl _ _ 23 rfl 59 i1 (.agg #[.int .i64 0, .int .i64 0, .int .i64 0, .int .i64 0, .int .i64 0]) 5 40 Tryd.underlying23 hj0 hj1 hj2 hj3 rfl (by decide) (.slice (some ⟨w.heap.size, 0, none⟩) 0 0) 0 [] rfl h5.row (some ad) n cap l rfl (Hl.out.frm ((Frm.refl _ _).alloc _)) Hnil.out Pl.enc_len Pl.enc_one (by unfold maxLen; omega) (by omega) ?_
    intro a3 c3 w3 hown hF hnew
    have hs1 := h5.appended noneR_stable hown hF hnew
    simp only [Nat.zero_add, List.nil_append] at hs1
    have HS1 := Lib.hid hs1
    clear hown hF hnew h5 hs1 hj0 hj1 hj2 hj3
    simp only [Nat.zero_add]
    go_wp2_with fail
    go_ret
    exact ⟨a3, c3, rfl, HS1.out.row, betw_of HS1.out, Frm.of_below HS1.out.below (Nat.le_refl _)⟩
theorem cloneP_any (w : World) (a : Option Addr) (n cap : Nat) (l : List Pl) (hl : SlAt Pl.enc 5 w a n cap l) (hn : n ≤ 300) (hnil : NilOk a n cap) : Calls Tryd.prog 30 #[.slice a n cap] w (CloneMade Pl.enc 5 l n w) :=
  (cloneP_own w a n cap l hl hn hnil).mono fun _ _ h => h.made Pl.enc_len hl.1

set_option maxHeartbeats 1000000 in
theorem cloneS_own (w : World) (a : Option Addr) (n cap : Nat) (l : List St) (hl : SlAt St.enc 4 w a n cap l) (hn : n ≤ 300) (hnil : NilOk a n cap) : Calls Tryd.prog 31 #[.slice a n cap] w (CloneOwn 61 St.enc 4 l n w) := by
  have hl1 := hl.1
  have qT : ∀ (w : World) (a : Option Addr) (n c n' c' : Nat), (binOp .eql 24 (.slice a n c) (.slice none n' c')).run Tryd.prog w = .ok (.bool a.isNone) w := fun w a n c n' c' => Lib.run_eql_slice_nil w _ _ a n c n' c' Tryd.underlying24
  cases a with
  | none =>
    obtain ⟨rfl, rfl⟩ := hnil rfl
    have hle : l = [] := List.eq_nil_of_length_eq_zero hl1
    subst hle
    clear hl hl1 hnil
    go_enter Tryd.func31, Tryd.ntmps31
    go_wp2_with fail
    go_ret
    exact ⟨none, 0, rfl, World.ownsRow_nil _ _ _ _, (fun x hx => by cases hx), Frm.refl _ _⟩
  | some ad =>
    have Hl := Lib.hid hl
    have Hnil := Lib.hid hnil
    have Hl1 := Lib.hid hl1
    have H0 := Lib.hid ((Holds.start w).emptyRowM noneR_stable 61 4)
    clear hl hl1 hnil
    go_enter Tryd.func31, Tryd.ntmps31
    go_wp2_with (at_builtin; refine Stop.of ?_)
    refine Stop.go ?_
    obtain ⟨i1, hj0, hj1, hj2, hj3⟩ := info_parts infoStM
    have h5 := H0.out
    refine wpList_append_sl (enc := St.enc) _ rfl _ _ 24 rfl 61 i1 (.agg #[.int .i64 0, .int .i64 0, .int .i64 0, .int .i64 0]) 4 32 Tryd.underlying24 hj0 hj1 hj2 hj3 rfl (by decide) (.slice (some ⟨w.heap.size, 0, none⟩) 0 0) 0 [] rfl h5.row (some ad) n cap l rfl (Hl.out.frm ((Frm.refl _ _).alloc _)) Hnil.out St.enc_len St.enc_one (by unfold maxLen; omega) (by omega) ?_
    intro a3 c3 w3 hown hF hnew
    have hs1 := h5.appended noneR_stable hown hF hnew
    simp only [Nat.zero_add, List.nil_append] at hs1
    have HS1 := Lib.hid hs1
    clear hown hF hnew h5 hs1 hj0 hj1 hj2 hj3
    simp only [Nat.zero_add]
    go_wp2_with fail
    go_ret
    exact ⟨a3, c3, rfl, HS1.out.row, betw_of HS1.out, Frm.of_below HS1.out.below (Nat.le_refl _)⟩
theorem cloneS_any (w : World) (a : Option Addr) (n cap : Nat) (l : List St) (hl : SlAt St.enc 4 w a n cap l) (hn : n ≤ 300) (hnil : NilOk a n cap) : Calls Tryd.prog 31 #[.slice a n cap] w (CloneMade St.enc 4 l n w) :=
  (cloneS_own w a n cap l hl hn hnil).mono fun _ _ h => h.made St.enc_len hl.1
end Go.Proofs.YtbkadfdpboghiaaDoor
