/- Sort: a copy of events, in order; two lists of events are compared. -/
import Derived.Test.YtbkadfdpboghiaaDoorSortT
namespace Go.Proofs.YtbkadfdpboghiaaDoor
open Go.RowKit Go.Maps

/-- A slice of events that is read. -/
def EvsAt (w : World) (a : Option Addr) (n cap : Nat) (l : List Ev) : Prop :=
  l.length = n ∧ n ≤ cap ∧ cap ≤ maxLen ∧ (n = 0 ∨ ∃ b off, a = some ⟨b, off, none⟩ ∧ b < w.heap.size ∧
      ∀ (k : Nat) (e : Ev), l[k]? = some e → ∀ (j : Nat) (u : Value), e.cells[j]? = some u → w.cell? ⟨b, off + k * 7 + j, none⟩ = some u)
theorem EvsAt.at_ {w : World} {a : Option Addr} {n cap : Nat} {l : List Ev} (h : EvsAt w a n cap l) {k : Nat} (hk : k < n) :
    ∃ b off e, a = some ⟨b, off, none⟩ ∧ b < w.heap.size ∧ l[k]? = some e ∧ w.cell? ⟨b, off + k * 7, none⟩ = some (.int .i64 e.k.at_) ∧ w.cell? ⟨b, off + k * 7 + 1, none⟩ = some (.int .i64 e.k.src) ∧
      w.cell? ⟨b, off + k * 7 + 2, none⟩ = some (.int .i64 e.k.sent) ∧ w.cell? ⟨b, off + k * 7 + 3, none⟩ = some (.int .i64 e.k.no) ∧ w.cell? ⟨b, off + k * 7 + 4, none⟩ = some (.int .i64 e.dst) ∧
      w.cell? ⟨b, off + k * 7 + 5, none⟩ = some (.int .i64 e.kind) ∧ w.cell? ⟨b, off + k * 7 + 6, none⟩ = some (.int .i64 e.data) := by
  obtain ⟨hl1, hl2, hl3, hl5⟩ := h
  rcases hl5 with h0 | ⟨bl, off, rfl, hbl, hcells⟩
  · omega
  obtain ⟨o, hok⟩ : ∃ o, l[k]? = some o := ⟨_, List.getElem?_eq_getElem (by omega)⟩
  have hcs := hcells k o hok
  exact ⟨bl, off, o, rfl, hbl, hok, hcs 0 _ rfl, hcs 1 _ rfl, hcs 2 _ rfl, hcs 3 _ rfl, hcs 4 _ rfl, hcs 5 _ rfl, hcs 6 _ rfl⟩
theorem EvsAt.frm {w w' : World} {a : Option Addr} {n cap : Nat} {l : List Ev} (h : EvsAt w a n cap l) (hf : Frm [] w w') : EvsAt w' a n cap l := by
  obtain ⟨hl1, hl2, hl3, hl5⟩ := h
  refine ⟨hl1, hl2, hl3, ?_⟩
  rcases hl5 with h0 | ⟨bl, off, rfl, hbl, hcells⟩
  · exact .inl h0
  · exact .inr ⟨bl, off, rfl, Nat.lt_of_lt_of_le hbl hf.size, fun k m hk j u hj => hf.cell (hcells k m hk j u hj) (by simp)⟩
theorem evCells_at {l : List Ev} {i : Nat} {e : Ev} (h : l[i]? = some e) (j : Nat) (u : Value) (hj : e.cells[j]? = some u) : (evCells l)[i * 7 + j]? = some u := by
  obtain ⟨h0, h1, h2, h3, h4, h5, h6⟩ := evCells_get h
  have hl := (List.getElem?_eq_some_iff.1 hj).1
  simp only [Ev.cells, List.length_cons, List.length_nil] at hl
  match j, hl with
  | 0, _ => cases hj; exact h0
  | 1, _ => cases hj; exact h1
  | 2, _ => cases hj; exact h2
  | 3, _ => cases hj; exact h3
  | 4, _ => cases hj; exact h4
  | 5, _ => cases hj; exact h5
  | 6, _ => cases hj; exact h6
theorem EvsAt.of_row {w : World} {base : Nat} {a : Option Addr} {n cap : Nat} {l : List Ev} (h : w.ownsRow base 65 7 (.slice a n cap) n (evCells l)) (hl : l.length = n) : EvsAt w a n cap l := by
  rcases row_nil_or h with ⟨h0, rfl⟩ | ⟨g, c, hv, hg, hn, hc⟩
  · simp only [Value.slice.injEq] at h0
    obtain ⟨rfl, _, rfl⟩ := h0
    exact ⟨hl, Nat.le_refl _, by unfold maxLen; omega, .inl rfl⟩
  · simp only [Value.slice.injEq] at hv
    obtain ⟨rfl, _, rfl⟩ := hv
    refine ⟨hl, hn, hc, .inr ⟨g, 0, rfl, hg, fun k m hk j u hj => ?_⟩⟩
    have h1 := evCells_at hk j u hj
    have h2 := (List.getElem?_eq_some_iff.1 h1).1
    rw [h.cellAt _ (by rw [evCells_length] at h2; omega), Nat.zero_add]
    exact h1
theorem EvsAt.news {w : World} {b off n cap : Nat} {l : List Ev} (h : EvsAt w (some ⟨b, off, none⟩) n cap l) : ∀ (j : Nat) (u : Value), (evCells l)[j]? = some u → w.cell? ((⟨b, off, none⟩ : Addr).add j) = some u := by
  obtain ⟨hl1, hl2, hl3, hl5⟩ := h
  intro j u hj
  have hjl := (List.getElem?_eq_some_iff.1 hj).1
  rw [evCells_length] at hjl
  rcases hl5 with h0 | ⟨bl, o, he, hbl, hcells⟩
  · omega
  · simp only [Option.some.injEq, Addr.mk.injEq, and_true] at he
    obtain ⟨rfl, rfl⟩ := he
    obtain ⟨m, hm⟩ : ∃ m, l[j / 7]? = some m := ⟨_, List.getElem?_eq_getElem (by omega)⟩
    obtain ⟨v, hv⟩ : ∃ v, m.cells[j % 7]? = some v := ⟨_, List.getElem?_eq_getElem (by simp [Ev.cells]; omega)⟩
    have h1 := evCells_at hm (j % 7) v hv
    rw [show j / 7 * 7 + j % 7 = j by omega, hj] at h1
    cases h1
    have h2 := hcells (j / 7) m hm (j % 7) u hv
    rw [addr_add, show off + j = off + j / 7 * 7 + j % 7 by omega]
    exact h2
theorem infoEvent : (Tryd.prog.info? 65).map (fun i => (i.zero, i.size, i.bytes)) = some (some (.agg #[.int .i64 0, .int .i64 0, .int .i64 0, .int .i64 0, .int .i64 0, .int .i64 0, .int .i64 0]), 7, 56) := by kernel_rfl

/-- What Sort does: what there is is in order, and alike. -/
def SortDoes (l : List Ev) (w : World) (e : Ending) (w' : World) : Prop :=
  ∃ (a : Option Addr) (c : Nat) (r : List Ev), e = .returned (.slice a l.length c) ∧ Asc r ∧ Alike l r ∧ r.length = l.length ∧ Holds w.heap.size w (rowR 65 7 (.slice a l.length c) l.length (evCells r)) w' []
def CloneDoes (l : List Ev) (w : World) (e : Ending) (w' : World) : Prop :=
  ∃ (a : Option Addr) (c : Nat), e = .returned (.slice a l.length c) ∧ Holds w.heap.size w (sepR (rowR 65 7 (.slice a l.length c) l.length (evCells l)) noneR) w' []

theorem Holds.emptyRow {R : World → List Nat → Prop} {B : Nat} {w0 w : World} {L : List (Nat × Obj)} (hR : Stable R) (h : Holds B w0 R w L) (e : TypeId) (size : Nat) : Holds B w0 (sepR (rowR e size (.slice (some ⟨w.heap.size, 0, none⟩) 0 0) 0 []) R) (w.alloc (.cells #[] e)) L := by
  obtain ⟨F1, _, _, _, hk⟩ := h.empty.split hR
  refine hk _ _ [w.heap.size] ⟨⟨by simp, .inr ⟨w.heap.size, 0, #[], rfl, Nat.zero_le _, obj_new w _, Nat.le_refl _, Nat.zero_le _, by simp, by simp⟩⟩, rfl⟩ ((Frm.refl _ _).alloc _) (fun k hk => .inr ?_) (fun k hk => ?_)
  · simp at hk; omega
  · simp at hk; subst hk; simp

set_option maxHeartbeats 1000000 in
theorem clone_any (w : World) (a : Option Addr) (n cap : Nat) (l : List Ev) (hl : EvsAt w a n cap l) (hn : n ≤ 400) (hnil : a = none → n = 0 ∧ cap = 0) : Calls Tryd.prog 44 #[.slice a n cap] w (CloneDoes l w) := by
  have hl1 := hl.1
  have qT : ∀ (w : World) (a : Option Addr) (n c n' c' : Nat), (binOp .eql 43 (.slice a n c) (.slice none n' c')).run Tryd.prog w = .ok (.bool a.isNone) w := fun w a n c n' c' => Lib.run_eql_slice_nil w _ _ a n c n' c' Tryd.underlying43
  cases a with
  | none =>
    obtain ⟨rfl, rfl⟩ := hnil rfl
    have hle : l = [] := List.eq_nil_of_length_eq_zero hl1
    subst hle
    have H0 := Lib.hid ((Holds.start w).nilRow 65 7)
    clear hl hl1 hnil
    go_enter Tryd.func44, Tryd.ntmps44
    go_wp2_with fail
    go_ret
    exact ⟨none, 0, rfl, H0.out⟩
  | some ad =>
    have had : ∃ b off, ad = ⟨b, off, none⟩ ∨ n = 0 := by
      rcases hl.2.2.2 with h0 | ⟨b, off, he, _⟩
      · exact ⟨0, 0, .inr h0⟩
      · exact ⟨b, off, .inl (Option.some.inj he)⟩
    obtain ⟨b, off, had⟩ := had
    have Had := Lib.hid had
    have Hl := Lib.hid hl
    have Hl1 := Lib.hid hl1
    have H0 := Lib.hid ((Holds.start w).emptyRow noneR_stable 65 7)
    clear hl hl1 hnil had
    go_enter Tryd.func44, Tryd.ntmps44
    go_wp2_with (at_builtin; refine Stop.of ?_)
    refine Stop.go ?_
    obtain ⟨i1, hj0, hj1, hj2, hj3⟩ := info_parts infoEvent
    have h5 := H0.out
    have hnews : ∀ (j : Nat) (u : Value), (evCells l)[j]? = some u → (w.alloc (.cells #[] 65)).cell? (ad.add j) = some u := by
      rcases Had.out with rfl | h0
      · exact (Hl.out.frm ((Frm.refl _ _).alloc _)).news
      · intro j u hj
        have hjl := (List.getElem?_eq_some_iff.1 hj).1
        rw [evCells_length, Hl1.out] at hjl
        omega
    refine wpList_append_foot _ rfl _ _ 43 rfl 65 i1 (.agg #[.int .i64 0, .int .i64 0, .int .i64 0, .int .i64 0, .int .i64 0, .int .i64 0, .int .i64 0]) 7 56 Tryd.underlying43 hj0 hj1 hj2 hj3 rfl (by decide) (.slice (some ⟨w.heap.size, 0, none⟩) 0 0) 0 [] rfl h5.row ad n cap (evCells l) rfl (by rw [evCells_length, Hl1.out]) hnews (evCells_one l) (by unfold maxLen; omega) (by omega) ?_
    intro a3 c3 w3 hown hF hnew
    have hs1 := h5.appended noneR_stable hown hF hnew
    simp only [Nat.zero_add, List.nil_append] at hs1
    have HS1 := Lib.hid hs1
    clear hown hF hnew h5 hs1 hnews hj0 hj1 hj2 hj3
    go_wp2_with fail
    go_ret
    refine ⟨a3, c3, ?_, ?_⟩
    · rw [Hl1.out]; first | rfl | simp
    · rw [Hl1.out]; exact HS1.out

set_option maxHeartbeats 1000000 in
theorem ins_none (w : World) : Calls Tryd.prog 57 #[.slice none 0 0, .int .i64 0, .int .i64 0, .func (.func 46) #[] #[]] w fun e w' => e = .returned (.tuple #[]) ∧ w = w' := by
  go_enter Tryd.func57, Tryd.ntmps57
  go_wp2_with fail
  go_loopw [8] (fun iv wr => iv = .int .i64 1 ∧ w = wr) (fun _ _ => 0)
  case atStart => exact ⟨rfl, rfl⟩
  case round =>
    obtain ⟨rfl, rfl⟩ := hrel
    go_wp2_with fail
    go_end0
    exact ⟨rfl, rfl⟩
set_option maxHeartbeats 1000000 in
theorem stable_none (w : World) : Calls Tryd.prog 52 #[.slice none 0 0, .int .i64 0, .func (.func 46) #[] #[]] w fun e w' => e = .returned (.tuple #[]) ∧ w = w' := by
  go_enter Tryd.func52, Tryd.ntmps52
  go_wp2_with fail
  go_loopw [7, 8] (fun av bv wr => av = .int .i64 0 ∧ bv = .int .i64 20 ∧ w = wr) (fun _ _ _ => 0)
  case atStart => exact ⟨rfl, rfl, rfl⟩
  case round =>
    obtain ⟨rfl, rfl, rfl⟩ := hrel
    go_wp2_with fail
    refine (ins_none _).mono ?_
    rintro e w' ⟨rfl, rfl⟩
    go_wp2_with fail
    go_loopw [6] (fun sv wr => sv = .int .i64 20 ∧ w = wr) (fun _ _ => 0)
    case atStart => exact ⟨rfl, rfl⟩
    case round =>
      obtain ⟨rfl, rfl⟩ := hrel
      go_wp2_with fail
      go_end0
      exact ⟨rfl, rfl⟩

set_option maxHeartbeats 1000000 in
theorem sortStable_none (w : World) : Calls Tryd.prog 45 #[.slice none 0 0, .func (.func 46) #[] #[]] w fun e w' => e = .returned (.tuple #[]) ∧ w = w' := by
  go_enter Tryd.func45, Tryd.ntmps45
  go_wp2_with fail
  refine (stable_none _).mono ?_
  rintro e w' ⟨rfl, rfl⟩
  go_wp2_with fail
  go_end0
  exact ⟨rfl, rfl⟩
set_option maxHeartbeats 1000000 in
theorem sortStable_goes {B : Nat} {w0 w : World} {Q : World → List Nat → Prop} {L : List (Nat × Obj)} {g n cap : Nat} (hQ : Stable Q) (l : List Ev) (h : Holds B w0 (sepR (evR g n cap l) Q) w L) (hl : l.length = n) (hn' : n ≤ 400) (hcap : n ≤ cap) :
    Calls Tryd.prog 45 #[.slice (some ⟨g, 0, none⟩) n cap, .func (.func 46) #[] #[]] w fun e w' => e = .returned (.tuple #[]) ∧ ∃ r, Asc r ∧ Alike l r ∧ r.length = n ∧ Holds B w0 (sepR (evR g n cap r) Q) w' L := by
  have H := Lib.hid h
  have Hl := Lib.hid hl
  clear h hl
  go_enter Tryd.func45, Tryd.ntmps45
  go_wp2_with fail
  refine (stable_goes hQ l H.out Hl.out hn' hcap).mono ?_
  rintro e w1 ⟨rfl, hr⟩
  have Hr := Lib.hid hr
  clear hr
  go_wp2_with fail
  go_end0
  exact ⟨rfl, Hr.out⟩

set_option maxHeartbeats 1000000 in
theorem sort_any (w : World) (a : Option Addr) (n cap : Nat) (l : List Ev) (hl : EvsAt w a n cap l) (hn : n ≤ 400) (hnil : a = none → n = 0 ∧ cap = 0) : Calls Tryd.prog 38 #[.slice a n cap] w (SortDoes l w) := by
  have Hl := Lib.hid hl
  have Hnil := Lib.hid hnil
  have Hl1 := Lib.hid hl.1
  clear hl hnil
  go_enter Tryd.func38, Tryd.ntmps38
  go_wp2_with fail
  refine (clone_any w a n cap l Hl.out hn Hnil.out).mono ?_
  rintro e w1 ⟨a1, c1, rfl, h1⟩
  rw [Hl1.out] at h1 ⊢
  rcases row_nil_or h1.row with ⟨hv, rfl⟩ | ⟨g, cc, hv, _, hnc, _⟩
  · simp only [Value.slice.injEq] at hv
    obtain ⟨rfl, _, rfl⟩ := hv
    have hle : l = [] := List.eq_nil_of_length_eq_zero Hl1.out
    subst hle
    have H1 := Lib.hid h1
    clear h1
    go_wp2_with fail
    refine (sortStable_none _).mono ?_
    rintro e w2 ⟨rfl, rfl⟩
    go_wp2_with fail
    go_ret
    exact ⟨none, 0, [], rfl, asc_nil, Alike.refl _, rfl, (sepR_comm H1.out).drop⟩
  · simp only [Value.slice.injEq] at hv
    obtain ⟨rfl, _, rfl⟩ := hv
    have H1 := Lib.hid h1
    clear h1
    go_wp2_with fail
    refine (sortStable_goes noneR_stable l H1.out Hl1.out hn hnc).mono ?_
    rintro e w2 ⟨rfl, r, r1, r2, r3, h2⟩
    have R1 := Lib.hid r1
    have R2 := Lib.hid r2
    have R3 := Lib.hid r3
    have H2 := Lib.hid h2
    clear r1 r2 r3 h2
    go_wp2_with fail
    go_ret
    refine ⟨some ⟨g, 0, none⟩, c1, r, ?_, R1.out, R2.out, by rw [R3.out, Hl1.out], ?_⟩
    · rw [Hl1.out]; rfl
    · rw [Hl1.out]; exact (sepR_comm H2.out).drop
end Go.Proofs.YtbkadfdpboghiaaDoor
