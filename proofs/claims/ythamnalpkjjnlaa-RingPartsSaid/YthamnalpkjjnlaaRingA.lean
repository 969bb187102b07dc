/- A ring's calls that only read: place, item, Len, Room, tell, First, Last. -/
import Derived.Test.YthamnalpkjjnlaaRingR
import Derived.StillTailTactics
import Derived.Deep.QuietTactic
import Derived.BigQuiet
namespace Go.Proofs.Ythamnalpkjjnlaa
open Go.RowKit Go.Maps

set_option maxHeartbeats 400000 in
theorem place_any {w : World} {b : Nat} {rv mv : Value} {a : Option Addr} {n c f : Nat} (hb : w.heap[b]? = some (.cells #[rv, .slice a n c, .int .i64 (f : Int), mv] 59)) (i : Nat) (hf : f ≤ 10000) (hi : i ≤ 10000) (hn : n ≤ 10000) :
    Calls Try.prog 39 #[.pointer (some ⟨b, 0, none⟩), .int .i64 (i : Int)] w fun e w' => e = .returned (.int .i64 (pl f n i : Nat)) ∧ w' = w := by
  obtain ⟨c0, c1, c2, c3⟩ := cells4 hb
  have hl := lt_of_obj hb
  have hs : IntKind.i64.wrap ((f : Int) + (i : Int)) = (f : Int) + (i : Int) := IntWalk.i64_in _ (by omega)
  clear hb c0 c3
  by_cases h : f + i < n
  · rw [pl_lt h]
    have hg : decide ((f : Int) + (i : Int) ≥ (n : Int)) = false := by rw [decide_eq_false_iff_not]; omega
    go_enter Try.func39, Try.ntmps39
    go_wp2_with fail
    go_ret
    exact ⟨by push_cast; rfl, rfl⟩
  · rw [pl_ge h]
    have hg : decide ((f : Int) + (i : Int) ≥ (n : Int)) = true := by rw [decide_eq_true_eq]; omega
    have hs2 : IntKind.i64.wrap ((f : Int) + (i : Int) - (n : Int)) = (f : Int) + (i : Int) - (n : Int) := IntWalk.i64_in _ (by omega)
    go_enter Try.func39, Try.ntmps39
    go_wp2_with fail
    go_ret
    exact ⟨by rw [Int.natCast_sub (by omega)]; push_cast; rfl, rfl⟩

theorem bodyPost_world {P : Program} {f : Func} {post : Ending → World → Prop} {e : Exit} {a : Act} {w : World} (I : World → Prop) (h : I w) (k : ∀ w', I w' → bodyPost P f post e a w') : bodyPost P f post e a w := k w h
set_option maxHeartbeats 400000 in
theorem get_says {w : World} {b room : Nat} {S : List It} (h : RingAt w b room S) {i : Nat} {x : It} (hx : S[i]? = some x) :
    Calls Try.prog 42 #[.pointer (some ⟨b, 0, none⟩), .int .i64 (i : Int)] w (Says (.agg #[.int .i64 x.at_, .int .i64 x.v]) w) := by
  have hil := (List.getElem?_eq_some_iff.1 hx).1
  obtain ⟨a, c, f, P, hb, hsl, hnil, hw⟩ := h
  have hfl := hw.f_lt
  have hP := hw.room
  have hm := hw.many
  have hpx := hw.at_ i x hx
  have hpb : pl f P.length i < P.length := (List.getElem?_eq_some_iff.1 hpx).1
  obtain ⟨g, off, y, rfl, hg, hy, hcell⟩ := hsl.at_ hpb
  rw [hpx] at hy
  cases hy
  have r0 := hcell 0 _ rfl
  have r1 := hcell 1 _ rfl
  simp only [Nat.add_zero] at r0
  have hcap := hsl.2.1
  have Hb := Lib.hid hb
  have hbl := lt_of_obj hb
  have Hr0 := Lib.hid r0
  have Hr1 := Lib.hid r1
  generalize hj : pl f P.length i = j at hpb Hr0 Hr1
  have Hj := Lib.hid hj
  have hj0 : (0 : Int) ≤ (j : Int) := by omega
  have hj1 : (j : Int) < (P.length : Int) := by omega
  clear hb hsl hnil hw hpx hcell hj r0 r1
  go_enter Try.func42, Try.ntmps42
  go_wp2_with fail
  refine wp_world (fun W => Frm [] w W ∧ W.heap[w.heap.size]? = some (.cells #[.int .i64 0, .int .i64 0] 66)) ⟨(Frm.refl _ _).alloc _, obj_new w _⟩ fun w1 h1 => ?_
  obtain ⟨hF, hbx⟩ := h1
  have hb1 := hF.obj Hb.out (by simp)
  have q0 := hF.cell Hr0.out (by simp)
  have q1 := hF.cell Hr1.out (by simp)
  have c1 := (cells4 hb1).2.1
  obtain ⟨z0, z1⟩ := cells2 hbx
  have fz : ∀ k, w1.frozen? ⟨w.heap.size, k, none⟩ = false := fun k => frozen_of_obj hbx k
  have hg1 : g < w1.heap.size := Nat.lt_of_lt_of_le hg hF.size
  have hb2 : b < w1.heap.size := Nat.lt_of_lt_of_le hbl hF.size
  have hz := lt_of_obj hbx
  have hpc := place_any (w := w1.drew) (f := f) (n := P.length) hb1 i (by omega) (by omega) (by omega)
  rw [Hj.out] at hpc
  have Hpc := Lib.hid hpc
  have HF := Lib.hid hF
  have Hbx := Lib.hid hbx
  clear hF hbx hb1 hpc
  refine wp_region_still_tail 9 (by kernel_rfl) (by kernel_rfl) ?_
  simp only [List.take_succ_cons, List.take_zero, List.drop_succ_cons, List.drop_zero]
  repeat still_step
  still_call Hpc.out
  repeat still_step
  try refine wpStill_nil ?_
  go_wp2_with fail
  refine bodyPost_world (fun W => W.heap[w.heap.size]? = some (.cells #[.int .i64 x.at_, .int .i64 x.v] 66) ∧ Frm [] w W) ⟨?_, ?_⟩ fun W h7 => ?_
  · exact obj_setCell (obj_setCell Hbx.out 0 (.int .i64 x.at_)) 1 (.int .i64 x.v)
  · exact (HF.out.setCell (a := ⟨w.heap.size, 0, none⟩) (.inr (Nat.le_refl _)) _).setCell (a := ⟨w.heap.size, 1, none⟩) (.inr (Nat.le_refl _)) _ |>.drew
  obtain ⟨s0, s1⟩ := cells2 h7.1
  exact bodyPost_ret (v := .agg #[.int .i64 x.at_, .int .i64 x.v]) (by simp [results, Try.results42, go_sem, s0, s1]) rfl ⟨rfl, h7.2⟩

set_option maxHeartbeats 400000 in
theorem len_says {w : World} {b room : Nat} {S : List It} (h : RingAt w b room S) : Calls Try.prog 19 #[.pointer (some ⟨b, 0, none⟩)] w fun e w' => e = .returned (.int .i64 (S.length : Int)) ∧ w' = w := by
  obtain ⟨a, c, f, P, hb, _⟩ := h
  obtain ⟨c0, c1, c2, c3⟩ := cells4 hb
  have hl := lt_of_obj hb
  clear hb c0 c1 c2
  go_enter Try.func19, Try.ntmps19
  go_wp2_with fail
  go_ret
  exact ⟨rfl, rfl⟩
set_option maxHeartbeats 400000 in
theorem room_says {w : World} {b room : Nat} {S : List It} (h : RingAt w b room S) (hr : S.length ≤ room) (hr2 : room ≤ 4096) : Calls Try.prog 20 #[.pointer (some ⟨b, 0, none⟩)] w (Says (.int .i64 ((room - S.length : Nat) : Int)) w) := by
  obtain ⟨a, c, f, P, hb, _⟩ := h
  obtain ⟨c0, c1, c2, c3⟩ := cells4 hb
  have hl := lt_of_obj hb
  have hs2 : IntKind.i64.wrap ((room : Int) - (S.length : Int)) = (room : Int) - (S.length : Int) := IntWalk.i64_in _ (by omega)
  have hs3 : ((room - S.length : Nat) : Int) = (room : Int) - (S.length : Int) := Int.natCast_sub hr
  rw [hs3]
  clear hb c1 c2 hs3
  go_enter Try.func20, Try.ntmps20
  go_wp2_with fail
  go_quiet (fail)
  go_wp2_with fail
  go_ret
  exact ⟨rfl, (Frm.refl _ _).drewN _⟩
/-- What tell answers: of the last one of the first n things. -/
def tellI (S : List It) (n : Nat) : It := match n with
  | 0 => zeroIt
  | n + 1 => (S[n]?).getD zeroIt
def tellE (n : Nat) : Int := if n = 0 then 14 else 0
abbrev tellT (S : List It) (n : Nat) : Value := .tuple #[.int .i64 (tellI S n).at_, .int .i64 (tellI S n).v, .int .i64 (tellE n)]
set_option maxHeartbeats 400000 in
theorem tell_says {w : World} {b room : Nat} {S : List It} (h : RingAt w b room S) {n : Nat} (hn : n ≤ S.length) :
    Calls Try.prog 40 #[.pointer (some ⟨b, 0, none⟩), .int .i64 (n : Int)] w (Says (tellT S n) w) := by
  have hm := h.many
  cases n with
  | zero =>
    clear h
    go_enter Try.func40, Try.ntmps40
    go_wp2_with fail
    exact bodyPost_ret (v := tellT S 0) (by simp [results, Try.results40, go_sem, tellT, tellI, tellE, zeroIt]) rfl ⟨rfl, Frm.refl _ _⟩
  | succ n =>
    obtain ⟨x, hx⟩ : ∃ x, S[n]? = some x := ⟨_, List.getElem?_eq_getElem (by omega)⟩
    have hv : tellT S (n + 1) = .tuple #[.int .i64 x.at_, .int .i64 x.v, .int .i64 0] := by
      simp [tellT, tellI, tellE, hx]
    rw [hv]
    have hg := get_says h hx
    have Hg := Lib.hid hg
    have hs1 : IntKind.i64.wrap (((n + 1 : Nat) : Int) - 1) = (n : Int) := by rw [IntWalk.i64_in _ (by omega)]; omega
    have hz : (((n + 1 : Nat) : Int) == 0) = false := by rw [beq_eq_false_iff_ne]; omega
    generalize hk : ((n + 1 : Nat) : Int) = k at hs1 hz ⊢
    clear h hx hg hv hk
    go_enter Try.func40, Try.ntmps40
    go_wp2_with fail
    refine Hg.out.mono ?_
    rintro e w1 ⟨rfl, hF⟩
    have HF := Lib.hid hF
    clear hF
    go_wp2_with fail
    go_quiet (fail)
    go_wp2_with fail
    exact bodyPost_ret (v := .tuple #[.int .i64 x.at_, .int .i64 x.v, .int .i64 0]) (by simp [results, Try.results40, go_sem]) rfl ⟨rfl, (HF.out.alloc _).drewN _⟩
set_option maxHeartbeats 400000 in
theorem first_says {w : World} {b room : Nat} {S : List It} (h : RingAt w b room S) : Calls Try.prog 23 #[.pointer (some ⟨b, 0, none⟩)] w (Says (tellT S (min 1 S.length)) w) := by
  have hl := len_says h
  have hm := h.many
  by_cases h0 : S.length = 0
  · have ht := tell_says h (n := 0) (by omega)
    rw [h0] at hl ⊢
    have Hl := Lib.hid hl
    have Ht := Lib.hid ht
    clear hl ht h h0 hm
    go_enter Try.func23, Try.ntmps23
    go_wp2_with fail
    refine Hl.out.mono ?_
    rintro e w1 ⟨rfl, rfl⟩
    go_wp2_with fail
    refine Ht.out.mono ?_
    rintro e w2 ⟨rfl, hF⟩
    have HF := Lib.hid hF
    clear hF
    dsimp only [tellT]
    go_wp2_with fail
    exact bodyPost_ret (v := tellT S 0) (by simp [results, Try.results23, go_sem]) rfl ⟨rfl, HF.out⟩
  · have ht := tell_says h (n := 1) (by omega)
    rw [show min 1 S.length = 1 by omega]
    have h1 : (1 : Int) ≤ (S.length : Int) := by omega
    have Hl := Lib.hid hl
    have Ht := Lib.hid ht
    clear hl ht h h0 hm
    go_enter Try.func23, Try.ntmps23
    go_wp2_with fail
    refine Hl.out.mono ?_
    rintro e w1 ⟨rfl, rfl⟩
    go_wp2_with fail
    refine Ht.out.mono ?_
    rintro e w2 ⟨rfl, hF⟩
    have HF := Lib.hid hF
    clear hF
    dsimp only [tellT]
    go_wp2_with fail
    exact bodyPost_ret (v := tellT S 1) (by simp [results, Try.results23, go_sem]) rfl ⟨rfl, HF.out⟩
set_option maxHeartbeats 400000 in
theorem last_says {w : World} {b room : Nat} {S : List It} (h : RingAt w b room S) : Calls Try.prog 24 #[.pointer (some ⟨b, 0, none⟩)] w (Says (tellT S S.length) w) := by
  have hl := len_says h
  have ht := tell_says h (Nat.le_refl _)
  have Hl := Lib.hid hl
  have Ht := Lib.hid ht
  clear hl ht h
  go_enter Try.func24, Try.ntmps24
  go_wp2_with fail
  refine Hl.out.mono ?_
  rintro e w1 ⟨rfl, rfl⟩
  go_wp2_with fail
  refine Ht.out.mono ?_
  rintro e w2 ⟨rfl, hF⟩
  have HF := Lib.hid hF
  clear hF
  dsimp only [tellT]
  go_wp2_with fail
  exact bodyPost_ret (v := tellT S S.length) (by simp [results, Try.results24, go_sem]) rfl ⟨rfl, HF.out⟩
end Go.Proofs.Ythamnalpkjjnlaa
