/- All things of a ring in a list of its own: slices.Grow of nothing, slices.Concat of two, items. -/
import Derived.Test.YthamnalpkjjnlaaRingP
import Derived.Lib.AppendZeros
namespace Go.Proofs.Ythamnalpkjjnlaa
open Go.RowKit Go.Maps

/-- A row that has been made since. -/
def NewRow (w w' : World) (e : TypeId) (size : Nat) (v : Value) (n : Nat) (xs : List Value) : Prop := w'.ownsRow 0 e size v n xs ∧ (∀ k, v.ownBlock = some k → w.heap.size ≤ k) ∧ Frm [] w w'
theorem Holds.newRowF {R : World → List Nat → Prop} {B : Nat} {w0 w w' : World} {L : List (Nat × Obj)} (hR : Stable R) (h : Holds B w0 R w L) {e : TypeId} {size : Nat} {v : Value} {n : Nat} {xs : List Value} (hn : NewRow w w' e size v n xs) : Holds B w0 (sepR (rowR e size v n xs) R) w' L := by
  obtain ⟨h1, h2, h3⟩ := hn
  obtain ⟨F1, _, _, _, hk⟩ := h.empty.split hR
  exact hk _ _ v.ownBlock.toList ⟨h1, rfl⟩ (h3.mono (by simp)) (fun k hk => .inr (h2 k (by simpa using hk))) (fun k hk => row_lt h1 k (by simpa using hk))
theorem NewRow.app {w w1 w2 : World} {e : TypeId} {size : Nat} {v v' : Value} {n n' : Nat} {xs xs' : List Value} (h : NewRow w w1 e size v n xs) (hown : w2.ownsRow 0 e size v' n' xs') (hf : Frm v.ownBlock.toList w1 w2) (hk : ∀ k, v'.ownBlock = some k → v.ownBlock = some k ∨ w1.heap.size ≤ k) : NewRow w w2 e size v' n' xs' := by
  obtain ⟨_, h2, h3⟩ := h
  refine ⟨hown, fun k hk' => ?_, h3.trans hf (fun k hk' => .inr (h2 k (by simpa using hk')))⟩
  rcases hk k hk' with h4 | h4
  · exact h2 k h4
  · exact Nat.le_trans h3.size h4

set_option maxHeartbeats 1000000 in
theorem grow_nil (w : World) (n : Nat) (hn : n ≤ 100000) : Calls Try.prog 48 #[.slice none 0 0, .int .i64 (n : Int)] w fun e w' => ∃ (a : Option Addr) (c : Nat), e = .returned (.slice a 0 c) ∧ NewRow w w' 66 2 (.slice a 0 c) 0 [] := by
  have hg : decide ((n : Int) < 0) = false := by rw [decide_eq_false_iff_not]; omega
  have hs : IntKind.i64.wrap (n : Int) = (n : Int) := IntWalk.i64_in _ (by omega)
  by_cases h0 : n = 0
  · subst h0
    clear hs hg
    go_enter Try.func48, Try.ntmps48
    go_wp2_with fail
    go_ret
    exact ⟨none, 0, rfl, ⟨by simp, .inl ⟨rfl, rfl⟩⟩, by simp [Value.ownBlock], Frm.refl _ _⟩
  · obtain ⟨i1, hj0, hj1, hj2, hj3⟩ := info_parts infoItem
    have hgt : (0 : Int) < (n : Int) := by omega
    have hz := Lib.run_append_nil_zeros w 57 3 57 66 i1 (.agg #[.int .i64 0, .int .i64 0]) .i64 .i64 Try.underlying57 Try.underlying3 hj0 hj1 n (by omega) (by rw [hj2]; omega) (by omega) (by rw [hj3]; omega)
    have Hz := Lib.hid hz
    have c1 := grownCap_ge w n 0 66
    have c2 := grownCap_le_maxLen w n 0 66 (by unfold maxLen; omega)
    generalize grownCap w n 0 66 = c at c1 c2 Hz
    clear hz hj0 hj1 hj2 hj3 h0
    go_enter Try.func48, Try.ntmps48
    go_wp2_with (at_builtin; refine Stop.of ?_)
    refine Stop.go ?_
    refine Lib.wpList_append_run _ rfl _ _ _ _ rfl _ _ rfl rfl _ _ Hz.out ?_
    have hrow : NewRow w (w.drew.alloc (.cells (Builtin.zeroCells (Value.agg #[.int .i64 0, .int .i64 0]).cells n ++ Builtin.zeroCells (Value.agg #[.int .i64 0, .int .i64 0]).cells (c - n)) 66)) 66 2 (.slice (some ⟨w.heap.size, 0, none⟩) 0 c) 0 [] := by
      refine ⟨⟨by simp, .inr ⟨w.heap.size, c, _, rfl, Nat.zero_le _, obj_new w.drew _, Nat.zero_le _, c2, ?_, by simp⟩⟩, ?_, (Frm.refl _ _).drew.alloc _⟩
      · rw [Array.size_append, size_zeroCells, size_zeroCells, ← Nat.add_mul, show n + (c - n) = c by omega]; rfl
      · intro k hk; simp [Value.ownBlock] at hk; omega
    have hz0 := obj_new w.drew (.cells (Builtin.zeroCells (Value.agg #[.int .i64 0, .int .i64 0]).cells n ++ Builtin.zeroCells (Value.agg #[.int .i64 0, .int .i64 0]).cells (c - n)) 66)
    refine wpList_world (fun W => NewRow w W 66 2 (.slice (some ⟨w.heap.size, 0, none⟩) 0 c) 0 []) hrow fun w1 h1 => ?_
    have H1 := Lib.hid h1
    clear h1 hrow hz0 Hz
    go_wp2_with fail
    all_goals go_ret
    all_goals exact ⟨_, _, rfl, H1.out⟩

set_option maxHeartbeats 2000000 in
theorem concat_says (w : World) (sb : Nat) (a1 : Option Addr) (n1 c1 : Nat) (l1 : List It) (a2 : Option Addr) (n2 c2 : Nat) (l2 : List It) (hb : w.heap[sb]? = some (.cells #[.slice a1 n1 c1, .slice a2 n2 c2] 57))
    (h1 : SlAt It.cells 2 w a1 n1 c1 l1) (h2 : SlAt It.cells 2 w a2 n2 c2 l2) (hn1 : a1 = none → n1 = 0 ∧ c1 = 0) (hn2 : a2 = none → n2 = 0 ∧ c2 = 0) (hm1 : n1 ≤ 10000) (hm2 : n2 ≤ 10000) :
    Calls Try.prog 45 #[.slice (some ⟨sb, 0, none⟩) 2 2] w fun e w' => ∃ (a : Option Addr) (c : Nat), e = .returned (.slice a (n1 + n2) c) ∧ NewRow w w' 66 2 (.slice a (n1 + n2) c) (n1 + n2) (flat It.cells (l1 ++ l2)) := by
  have hl1 := h1.1
  have hl2 := h2.1
  obtain ⟨q0, q1⟩ := cells2 hb
  have hsb := lt_of_obj hb
  have e1 : IntKind.i64.wrap ((0 : Int) + (n1 : Int)) = (n1 : Int) := by rw [IntWalk.i64_in _ (by omega)]; omega
  obtain ⟨N, hN⟩ : ∃ N : Nat, n1 + n2 = N := ⟨_, rfl⟩
  rw [hN]
  have e2 : IntKind.i64.wrap ((n1 : Int) + (n2 : Int)) = (N : Int) := by rw [IntWalk.i64_in _ (by omega)]; omega
  have g1 : decide ((n1 : Int) < 0) = false := by rw [decide_eq_false_iff_not]; omega
  have g2 : decide ((N : Int) < 0) = false := by rw [decide_eq_false_iff_not]; omega
  have hNm : N ≤ 100000 := by omega
  have HN := Lib.hid hN
  obtain ⟨i1, hj0, hj1, hj2, hj3⟩ := info_parts infoItem
  have Hb := Lib.hid hb
  have H1 := Lib.hid h1
  have H2 := Lib.hid h2
  have Hn1 := Lib.hid hn1
  have Hn2 := Lib.hid hn2
  have Hl1 := Lib.hid hl1
  have Hl2 := Lib.hid hl2
  clear hb h1 h2 hn1 hn2 hl1 hl2 hN
  go_enter Try.func45, Try.ntmps45
  go_wp2_with fail
  go_loopw [3, 11] (fun s i wr => (i = .int .i64 0 ∧ s = .int .i64 0 ∨ i = .int .i64 1 ∧ s = .int .i64 (n1 : Int) ∨ i = .int .i64 2 ∧ s = .int .i64 (N : Int)) ∧ w = wr) (fun _ i _ => 2 - (intOf i).toNat)
  case atStart => exact ⟨.inl ⟨rfl, rfl⟩, rfl⟩
  case round =>
    obtain ⟨⟨rfl, rfl⟩ | ⟨rfl, rfl⟩ | ⟨rfl, rfl⟩, rfl⟩ := hrel
    · go_wp2_with fail
      go_roundw
      case rel => exact ⟨.inr (.inl ⟨rfl, rfl⟩), by first | trivial | rfl⟩
      case measure => simp [intOf]
    · go_wp2_with fail
      go_roundw
      case rel => exact ⟨.inr (.inr ⟨rfl, rfl⟩), by first | trivial | rfl⟩
      case measure => simp [intOf]
    · go_wp2_with fail
      refine (grow_nil _ _ hNm).mono ?_
      rintro e w1 ⟨a0, c0, rfl, h0⟩
      have H0 := Lib.hid h0
      clear h0
      go_wp2_with fail
      go_loopw [6, 27] (fun s i wr => ∃ (a : Option Addr) (c : Nat), i = .int .i64 0 ∧ s = .slice a 0 c ∧ NewRow w wr 66 2 (.slice a 0 c) 0 [] ∨ i = .int .i64 1 ∧ s = .slice a n1 c ∧ NewRow w wr 66 2 (.slice a n1 c) n1 (flat It.cells l1) ∨ i = .int .i64 2 ∧ s = .slice a N c ∧ NewRow w wr 66 2 (.slice a N c) N (flat It.cells (l1 ++ l2))) (fun _ i _ => 2 - (intOf i).toNat)
      case atStart => exact ⟨a0, c0, .inl ⟨rfl, rfl, H0.out⟩⟩
      case round =>
        obtain ⟨a, c, ⟨rfl, rfl, hr⟩ | ⟨rfl, rfl, hr⟩ | ⟨rfl, rfl, hr⟩⟩ := hrel
        · have HR := Lib.hid hr
          have hb1 := hr.2.2.obj Hb.out (by simp)
          obtain ⟨q0, q1⟩ := cells2 hb1
          have hsb := lt_of_obj hb1
          clear hr hb1
          go_wp2_with (at_builtin; refine Stop.of ?_)
          refine Stop.go ?_
          refine wpList_append_sl _ rfl _ _ 57 rfl 66 i1 (.agg #[.int .i64 0, .int .i64 0]) 2 16 Try.underlying57 hj0 hj1 hj2 hj3 rfl (by decide) (.slice a 0 c) 0 [] rfl HR.out.1 a1 n1 c1 l1 rfl (H1.out.frm HR.out.2.2) Hn1.out it_len it_one (by unfold maxLen; omega) (by omega) ?_
          intro a3 c3 w3 hown hF hnew
          have h3 := HR.out.app hown hF hnew
          simp only [Nat.zero_add, List.nil_append] at h3
          have H3 := Lib.hid h3
          clear hown hF hnew h3
          go_wp2_with fail
          go_roundw
          case rel => exact ⟨a3, c3, .inr (.inl ⟨rfl, by simp, H3.out⟩)⟩
          case measure => simp [intOf]
        · have HR := Lib.hid hr
          have hb1 := hr.2.2.obj Hb.out (by simp)
          obtain ⟨q0, q1⟩ := cells2 hb1
          have hsb := lt_of_obj hb1
          clear hr hb1
          go_wp2_with (at_builtin; refine Stop.of ?_)
          refine Stop.go ?_
          refine wpList_append_sl _ rfl _ _ 57 rfl 66 i1 (.agg #[.int .i64 0, .int .i64 0]) 2 16 Try.underlying57 hj0 hj1 hj2 hj3 rfl (by decide) (.slice a n1 c) n1 (flat It.cells l1) rfl HR.out.1 a2 n2 c2 l2 rfl (H2.out.frm HR.out.2.2) Hn2.out it_len it_one (by unfold maxLen; omega) (by omega) ?_
          intro a3 c3 w3 hown hF hnew
          have h3 := HR.out.app hown hF hnew
          rw [HN.out, ← flat_append] at h3
          have H3 := Lib.hid h3
          clear hown hF hnew h3
          go_wp2_with fail
          go_roundw
          case rel => exact ⟨a3, c3, .inr (.inr ⟨rfl, by first | rfl | (rw [HN.out]) | simp [HN.out], H3.out⟩)⟩
          case measure => simp [intOf]
        · have HR := Lib.hid hr
          clear hr
          go_wp2_with fail
          go_ret
          exact ⟨a, c, rfl, HR.out⟩

set_option maxHeartbeats 1000000 in
/-- All things in order, in a list of its own. -/
theorem items_says {w : World} {b room : Nat} {S : List It} (h : RingAt w b room S) : Calls Try.prog 31 #[.pointer (some ⟨b, 0, none⟩)] w fun e w' => ∃ (a : Option Addr) (c : Nat), e = .returned (.slice a S.length c) ∧ NewRow w w' 66 2 (.slice a S.length c) S.length (flat It.cells S) := by
  obtain ⟨a, c, f, P, hb, hsl, hnil, hw⟩ := h
  have hpc := pieces_at hb hnil hsl hw (Nat.zero_le S.length) (Nat.le_refl _)
  have hm := hw.many
  have hr := hw.room
  obtain ⟨c0, c1, c2, c3⟩ := cells4 hb
  have hl := lt_of_obj hb
  rw [Nat.sub_zero, List.drop_zero, List.take_length] at hpc
  have Hpc := Lib.hid hpc
  clear hpc hsl hnil hw hb c0 c1 c2
  go_enter Try.func31, Try.ntmps31
  go_wp2_with fail
  refine Hpc.out.mono ?_
  rintro e w1 ⟨a1, m1, c1, l1, a2, m2, c2, l2, rfl, s1, n1, s2, n2, hll, hF⟩
  have hlen : m1 + m2 = S.length := by rw [← hll, List.length_append, s1.1, s2.1]
  have hF2 : Frm [] w ((w1.alloc (.cells #[.slice a1 m1 c1, .slice a2 m2 c2] 72)).alloc (.cells #[.slice a1 m1 c1, .slice a2 m2 c2] 57)) := (hF.alloc _).alloc _
  have hcc := concat_says _ (w1.heap.size + 1) a1 m1 c1 l1 a2 m2 c2 l2 (by have := obj_new (w1.alloc (.cells #[.slice a1 m1 c1, .slice a2 m2 c2] 72)) (.cells #[.slice a1 m1 c1, .slice a2 m2 c2] 57); simp only [World.size_alloc] at this; exact this) (s1.frm hF2) (s2.frm hF2) n1 n2 (by omega) (by omega)
  rw [hlen, hll] at hcc
  have Hcc := Lib.hid hcc
  have HF2 := Lib.hid hF2
  clear hcc hF2 hF hll s1 s2 n1 n2 hlen Hpc
  go_wp2_with fail
  refine Hcc.out.mono ?_
  rintro e w2 ⟨a, c, rfl, hr⟩
  have hr2 : NewRow w w2 66 2 (.slice a S.length c) S.length (flat It.cells S) := ⟨hr.1, fun k hk => Nat.le_trans HF2.out.size (hr.2.1 k hk), HF2.out.trans hr.2.2 (by simp)⟩
  have HR := Lib.hid hr2
  clear hr hr2 Hcc
  go_wp2_with fail
  go_ret
  exact ⟨a, c, rfl, HR.out⟩
end Go.Proofs.Ythamnalpkjjnlaa
