/- IheapPlays, walked. -/
import Derived.Test.YtclaicpnjllhjaaHeapDoes2
import Derived.Test.YtclaicpnjllhjaaHeapSame
namespace Go.Proofs.Ytclaicpnjllhjaa
open Go.RowKit Go.Maps

/-- What a call makes of the things. -/
def doS (o : OpV) (S : List Ent) : List Ent :=
  if o.ask = 0 then pushS ⟨o.k, o.v⟩ S else if o.ask = 1 then delE o.k S else if o.ask = 2 then S else if o.ask = 3 then S.tail else if o.ask = 4 then batchR S else S
structure InvB (i : Nat) (S : List Ent) : Prop where
  srt : Srt S
  len : S.length ≤ i
theorem InvB.more {i : Nat} {S : List Ent} (h : InvB i S) : InvB (i + 1) S := ⟨h.srt, by have := h.len; omega⟩
theorem InvB.does {i : Nat} {S : List Ent} (h : InvB i S) (o : OpV) : InvB (i + 1) (doS o S) := by
  have hl := h.len
  unfold doS
  split
  · cases hf : findE o.k S with
    | none => rw [(push_none (x := ⟨o.k, o.v⟩) hf).2]; exact ⟨insE_srt h.srt (findE_none hf), by rw [(insE_perm _ _).length_eq]; simp; omega⟩
    | some y => rw [(push_some (x := ⟨o.k, o.v⟩) hf).2]; exact h.more
  · split
    · exact ⟨delE_srt h.srt, by have := List.length_filter_le (fun x : Ent => decide (x.k ≠ o.k)) S; unfold delE; omega⟩
    · split
      · exact h.more
      · split
        · exact ⟨List.Pairwise.sublist (List.tail_sublist S) h.srt, by have := (List.tail_sublist S).length_le; omega⟩
        · split
          · exact ⟨List.Pairwise.sublist (List.dropWhile_sublist _) h.srt, by have := (List.dropWhile_sublist (l := S) (fun y => decide (y.k.at_ = timeOf S))).length_le; unfold batchR; omega⟩
          · exact h.more
section
variable {B : Nat} {w0 w : World} {Q : World → List Nat → Prop} {L : List (Nat × Obj)}
theorem does_goes (hQ : Stable Q) {hb rb : Nat} {S : List Ent} (h : Holds B w0 (bothR hb rb S Q) w L) (hn : S.length ≤ 199) (hS : Srt S) (o : OpV) (hw : o.k.Wf) :
    Calls Try.prog 12 #[.pointer (some ⟨hb, 0, none⟩), .pointer (some ⟨rb, 0, none⟩), o.val] w (Goes (.bool true) B w0 (bothR hb rb (doS o S) Q) L) := by
  obtain ⟨ask, k, v⟩ := o
  unfold doS
  dsimp only at hw ⊢
  by_cases h0 : ask = 0
  · subst h0; exact does_push hQ h hn v k hw
  rw [if_neg h0]
  by_cases h1 : ask = 1
  · subst h1; exact does_pull hQ h hn hS v k hw
  rw [if_neg h1]
  by_cases h2 : ask = 2
  · subst h2; exact does_get hQ h hn v k hw
  rw [if_neg h2]
  by_cases h3 : ask = 3
  · subst h3; exact does_pop hQ h hn hS v k
  rw [if_neg h3]
  by_cases h4 : ask = 4
  · subst h4; exact does_batch hQ h hn v k
  rw [if_neg h4]
  exact does_first hQ h hn ask v k (by simpa using h0) (by simpa using h1) (by simpa using h2) (by simpa using h3) (by simpa using h4)
end
theorem few_le (w : World) (a1 : Option Addr) (n1 c1 : Nat) (h : n1 ≤ 60) : Calls Try.prog 10 #[.slice a1 n1 c1] w fun e w' => e = .returned (.bool true) ∧ w' = w := by
  go_enter Try.func10, Try.ntmps10
  go_wp2_with fail
  go_ret
  exact ⟨by simp; omega, rfl⟩
theorem few_gt (w : World) (a1 : Option Addr) (n1 c1 : Nat) (h : 60 < n1) : Calls Try.prog 10 #[.slice a1 n1 c1] w fun e w' => e = .returned (.bool false) ∧ w' = w := by
  go_enter Try.func10, Try.ntmps10
  go_wp2_with fail
  go_ret
  exact ⟨by simp; omega, rfl⟩

set_option maxHeartbeats 1000000 in
set_option maxRecDepth 100000 in
theorem plays_out (w : World) (a1 : Option Addr) (n1 c1 : Nat) (h : 60 < n1) : Calls Try.prog 3 #[.slice a1 n1 c1] w (LawTrue w) := by
  go_enter Try.func3, Try.ntmps3
  go_wp2_with fail
  refine (new_goes noneR_stable (Holds.start w)).mono ?_
  rintro e w1 ⟨rfl, h1⟩
  have H1 := Lib.hid h1
  clear h1
  go_wp2_with fail
  refine (few_gt _ a1 n1 c1 h).mono ?_
  rintro e w2 ⟨rfl, rfl⟩
  go_wp2_with fail
  refine (awake_any _).mono ?_
  rintro e w3 ⟨rfl, hf⟩
  have H3 := Lib.hid (H1.out.made (sepR_stable (heapR_stable _ _) noneR_stable) (Frm.of_below hf (Nat.le_refl _)))
  clear hf H1
  go_wp2_with fail
  go_ret
  exact ⟨rfl, H3.out.below⟩

def PlayRel (w : World) (A C n : Nat) (iv : Value) (wr : World) : Prop :=
  ∃ (i : Nat) (S : List Ent), i ≤ n ∧ iv = .int .i64 (i : Int) ∧ InvB i S ∧ Holds w.heap.size w (bothR A C S noneR) wr []

set_option maxHeartbeats 4000000 in
set_option maxRecDepth 100000 in
theorem plays_in (w : World) (a1 : Option Addr) (n1 c1 : Nat) (l : List OpV) (hl : SlAt opEnc 6 w a1 n1 c1 l) (hw : ∀ o ∈ l, o.k.Wf) (h2 : n1 ≤ 60) :
    Calls Try.prog 3 #[.slice a1 n1 c1] w (LawTrue w) := by
  have gc1 := hl.2.1
  have Hl := Lib.hid hl
  have Hw := Lib.hid hw
  clear hl hw
  go_enter Try.func3, Try.ntmps3
  go_wp2_with fail
  refine (new_goes noneR_stable (Holds.start w)).mono ?_
  rintro e w1 ⟨rfl, h1⟩
  obtain ⟨A, hA⟩ : ∃ A, w.heap.size + 1 = A := ⟨_, rfl⟩
  rw [hA] at h1 ⊢
  have hsA := sepR_stable (heapR_stable A []) noneR_stable
  have h3 := ((h1.newBox hsA #[.slice none 0 0] 30).nilRow 42 5).toRead ent_len (l := []) rfl
  have h4 := ((h3.conv Conv.exch).refShut (S := [])).conv Conv.exch
  obtain ⟨C, hC⟩ : ∃ C, w1.heap.size = C := ⟨_, rfl⟩
  rw [hC] at h4
  have hloop : PlayRel w A C n1 (.int .i64 0) (w1.alloc (.cells #[.slice none 0 0] 30)) := ⟨0, [], Nat.zero_le _, rfl, ⟨List.Pairwise.nil, Nat.le_refl _⟩, h4⟩
  have Hloop := Lib.hid hloop
  have HC := Lib.hid hC
  clear hloop h1 h3 h4 hA hC
  go_wp2_with fail
  refine (few_le _ a1 n1 c1 h2).mono ?_
  rintro e w2 ⟨rfl, rfl⟩
  go_wp2_with fail
  rw [HC.out]
  go_loopw [5] (fun iv wr => PlayRel w A C n1 iv wr) (fun iv _ => n1 - (intOf iv).toNat)
  case atStart => exact Hloop.out
  case round =>
    obtain ⟨i, S, hi, rfl, hinv, hH⟩ := hrel
    have HH := Lib.hid hH
    have Hinv := Lib.hid hinv
    have hSl := hinv.len
    clear hH Hloop hinv
    by_cases hlt : i < n1
    · have hm := Hl.out.frm (Frm.of_below HH.out.below (Nat.le_refl _))
      obtain ⟨b1, o1, o, rfl, hb1, ho, hcell⟩ := hm.at_ hlt
      have p0 := hcell 0 _ rfl
      have p1 := hcell 1 _ rfl
      have p2 := hcell 2 _ rfl
      have p3 := hcell 3 _ rfl
      have p4 := hcell 4 _ rfl
      have p5 := hcell 5 _ rfl
      simp only [Nat.add_zero] at p0
      have How := Lib.hid (Hw.out o (List.mem_of_getElem? ho))
      have hwf : IntKind.i64.wrap ((i : Int) + 1) = (i : Int) + 1 := IntWalk.i64_in _ (by omega)
      have i0 : (0 : Int) ≤ (i : Int) := by omega
      have i1 : (i : Int) < (n1 : Int) := by omega
      clear hm hcell ho
      go_wp2_with fail
      refine (does_goes noneR_stable HH.out (by omega) Hinv.out.srt o How.out).mono ?_
      rintro e w3 ⟨rfl, h3⟩
      have Hnew := Lib.hid (Hinv.out.does o)
      have hnl := Hnew.out.len
      have H3 := Lib.hid h3
      clear h3 HH p0 p1 p2 p3 p4 p5
      go_wp2_with fail
      refine (same_goes noneR_stable H3.out (by omega) H3.out.boxes).mono ?_
      rintro e w4 ⟨rfl, h4⟩
      have H4 := Lib.hid h4
      clear h4 H3
      go_wp2_with fail
      go_roundw
      case rel => exact ⟨i + 1, doS o S, by omega, by go_num, Hnew.out, H4.out⟩
      case measure => simp [intOf]; omega
    · obtain rfl : i = n1 := by omega
      go_wp2_with fail
      refine (awake_any _).mono ?_
      rintro e w3 ⟨rfl, hf⟩
      have H3 := Lib.hid (HH.out.made (bothR_stable noneR_stable _ _ _) (Frm.of_below hf (Nat.le_refl _)))
      clear hf HH
      go_wp2_with fail
      go_ret
      exact ⟨rfl, H3.out.below⟩
end Go.Proofs.Ytclaicpnjllhjaa
