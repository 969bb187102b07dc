/- A ring's pieces: where the things from one to ahead of another stand. -/
import Derived.Test.YthamnalpkjjnlaaRingA
namespace Go.Proofs.Ythamnalpkjjnlaa
open Go.RowKit Go.Maps

theorem win_one {f : Nat} {P S : List It} (h : Win f P S) {i j : Nat} (hij : i ≤ j) (hj : j ≤ S.length) (hA : pl f P.length i + (j - i) ≤ P.length) : (P.drop (pl f P.length i)).take (j - i) = (S.drop i).take (j - i) := by
  refine List.ext_getElem? fun k => ?_
  rw [List.getElem?_take, List.getElem?_take]
  split
  · rename_i hk
    rw [List.getElem?_drop, List.getElem?_drop]
    have h1 := h.at_ (i + k) _ (List.getElem?_eq_getElem (by omega))
    rw [List.getElem?_eq_getElem (show i + k < S.length by omega), ← h1]
    congr 1
    unfold pl at hA ⊢
    have := h.first
    split at hA <;> split <;> first | omega | (split <;> omega)
  · rfl
theorem win_wrap {f : Nat} {P S : List It} (h : Win f P S) {i j : Nat} (hij : i ≤ j) (hj : j ≤ S.length) (hA : ¬ pl f P.length i + (j - i) ≤ P.length) :
    f + i < P.length ∧ pl f P.length i = f + i ∧ P.length ≤ f + j ∧ pl f P.length j = f + j - P.length ∧ f < P.length := by
  have h1 := h.first
  have h2 := h.many
  unfold pl at hA ⊢
  split at hA
  · rename_i h3
    exact ⟨h3, if_pos h3, by omega, if_neg (by omega), by omega⟩
  · omega
theorem win_two {f : Nat} {P S : List It} (h : Win f P S) {i j : Nat} (hij : i ≤ j) (hj : j ≤ S.length) (hA : ¬ pl f P.length i + (j - i) ≤ P.length) : P.drop (pl f P.length i) ++ P.take (pl f P.length j) = (S.drop i).take (j - i) := by
  obtain ⟨h1, h2, h3, h4, h5⟩ := win_wrap h hij hj hA
  rw [h2, h4]
  refine List.ext_getElem? fun k => ?_
  have hm := h.many
  by_cases hk : k < j - i
  · rw [List.getElem?_take, if_pos hk, List.getElem?_drop]
    have h6 := h.at_ (i + k) _ (List.getElem?_eq_getElem (by omega))
    rw [List.getElem?_eq_getElem (show i + k < S.length by omega), ← h6]
    by_cases hk2 : k < P.length - (f + i)
    · rw [List.getElem?_append_left (by rw [List.length_drop]; omega), List.getElem?_drop]
      congr 1
      rw [pl_lt (by omega)]
      omega
    · rw [List.getElem?_append_right (by rw [List.length_drop]; omega), List.length_drop, List.getElem?_take, if_pos (by omega), pl_ge (by omega)]
      congr 1
      omega
  · rw [List.getElem?_eq_none (by rw [List.length_append, List.length_drop, List.length_take]; omega), List.getElem?_take, if_neg hk]

/-- A piece of a slice. -/
def cutA (a : Option Addr) (i : Nat) : Option Addr := a.map fun x => x.add (i * 2)
theorem SlAt.cut {w : World} {a : Option Addr} {n c : Nat} {P : List It} (h : SlAt It.cells 2 w a n c P) {i m : Nat} (hm : i + m ≤ n) : SlAt It.cells 2 w (cutA a i) m (c - i) ((P.drop i).take m) := by
  obtain ⟨h1, h2, h3, h4⟩ := h
  refine ⟨by rw [List.length_take, List.length_drop]; omega, by omega, by omega, ?_⟩
  rcases h4 with h0 | ⟨b, off, rfl, hb, hc⟩
  · exact .inl (by omega)
  · refine .inr ⟨b, off + i * 2, by simp only [cutA, Option.map_some, addr_add], hb, fun k x hk j u hj => ?_⟩
    rw [List.getElem?_take] at hk
    split at hk
    · rw [List.getElem?_drop] at hk
      have := hc (i + k) x hk j u hj
      rw [show off + i * 2 + k * 2 + j = off + (i + k) * 2 + j by omega]
      exact this
    · cases hk

set_option maxHeartbeats 1000000 in
theorem pieces_one {w : World} {b : Nat} {rv mv : Value} {a : Option Addr} {n c f : Nat} (hb : w.heap[b]? = some (.cells #[rv, .slice a n c, .int .i64 (f : Int), mv] 59)) (hnil : a = none → n = 0 ∧ c = 0)
    {i j : Nat} (hij : i ≤ j) (hi : i ≤ 4096) (hj : j ≤ 4096) (hf : f ≤ 4096) (hn : n ≤ 4096) (hc : n ≤ c) (hcm : c ≤ maxLen) (hpl : pl f n i ≤ 4096) (hA : pl f n i + (j - i) ≤ n) (hlt : pl f n i < n ∨ pl f n i = 0) :
    Calls Try.prog 44 #[.pointer (some ⟨b, 0, none⟩), .int .i64 (i : Int), .int .i64 (j : Int)] w (Says (.agg #[.slice (cutA a (pl f n i)) (j - i) (c - pl f n i), .slice none 0 0]) w) := by
  have hF0 := (Frm.refl [] w).alloc (.cells #[.slice none 0 0, .slice none 0 0] 72)
  have hpc := place_any (w := w.alloc (.cells #[.slice none 0 0, .slice none 0 0] 72)) (f := f) (n := n) (hF0.obj hb (by simp)) i (by omega) (by omega) (by omega)
  have hbx := obj_new w (.cells #[.slice none 0 0, .slice none 0 0] 72)
  have hbl := lt_of_obj hb
  unfold maxLen at hcm
  generalize hbg : pl f n i = bg at *
  have hs1 : IntKind.i64.wrap ((bg : Int) + (j : Int)) = (bg : Int) + (j : Int) := IntWalk.i64_in _ (by omega)
  have hs2 : IntKind.i64.wrap ((bg : Int) + (j : Int) - (i : Int)) = ((bg + (j - i) : Nat) : Int) := by rw [IntWalk.i64_in _ (by omega)]; omega
  have hd : decide (((bg + (j - i) : Nat) : Int) ≤ (n : Int)) = true := by rw [decide_eq_true_eq]; omega
  have hle : ((bg + (j - i) : Nat) : Int) ≤ (c : Int) := by omega
  have c1 := (cells4 hb).2.1
  have hz : c = bg → cutA a bg = a := fun e => by
    have h0 : bg = 0 := by omega
    subst h0
    cases a with
    | none => rfl
    | some x => simp [cutA, Addr.add]
  have Hz := Lib.hid hz
  clear hz
  have Hpc := Lib.hid hpc
  have Hbx := Lib.hid hbx
  have HF0 := Lib.hid hF0
  have Hnil := Lib.hid hnil
  clear hb hnil hpc hbx hF0 hbg
  go_enter Try.func44, Try.ntmps44
  go_wp2_with fail
  refine Hpc.out.mono ?_
  rintro e w1 ⟨rfl, rfl⟩
  go_wp2_with fail
  all_goals
    refine bodyPost_world (fun W => (∃ v1, W.heap[w.heap.size]? = some (.cells #[v1, .slice none 0 0] 72) ∧ v1 = .slice (cutA a bg) (j - i) (c - bg)) ∧ Frm [] w W) ⟨⟨_, obj_new w _, ?_⟩, ?_⟩ fun W h7 => ?_
    · first | rfl | (rw [Hz.out (by assumption)]; congr 1; omega)
    · exact (Frm.refl _ _).alloc _
    obtain ⟨⟨v1, h7, h9⟩, h8⟩ := h7
    obtain ⟨s0, s1⟩ := cells2 h7
    exact bodyPost_ret (v := .agg #[v1, .slice none 0 0]) (by simp [results, Try.results44, go_sem, s0, s1]) rfl ⟨by first | (rw [h9]; done) | (rw [h9]; simp; done) | (rw [h9]; simp; omega), h8⟩

set_option maxHeartbeats 1000000 in
theorem pieces_two {w : World} {b : Nat} {rv mv : Value} {a : Option Addr} {n c f : Nat} (hb : w.heap[b]? = some (.cells #[rv, .slice a n c, .int .i64 (f : Int), mv] 59))
    {i j : Nat} (hij : i ≤ j) (hi : i ≤ 4096) (hj : j ≤ 4096) (hf : f ≤ 4096) (hn : n ≤ 4096) (hc : n ≤ c) (hcm : c ≤ maxLen) (hpl : pl f n i < n) (hA : ¬ pl f n i + (j - i) ≤ n) (hpj : pl f n j ≤ n) :
    Calls Try.prog 44 #[.pointer (some ⟨b, 0, none⟩), .int .i64 (i : Int), .int .i64 (j : Int)] w (Says (.agg #[.slice (cutA a (pl f n i)) (n - pl f n i) (c - pl f n i), .slice a (pl f n j) c]) w) := by
  have hF0 := (Frm.refl [] w).alloc (.cells #[.slice none 0 0, .slice none 0 0] 72)
  have hpc := place_any (w := w.alloc (.cells #[.slice none 0 0, .slice none 0 0] 72)) (f := f) (n := n) (hF0.obj hb (by simp)) i (by omega) (by omega) (by omega)
  have hpc2 := fun (w1 : World) (hf1 : Frm [] w w1) => place_any (w := w1) (f := f) (n := n) (hf1.obj hb (by simp)) j (by omega) (by omega) (by omega)
  have hbl := lt_of_obj hb
  unfold maxLen at hcm
  generalize hbg : pl f n i = bg at *
  generalize hbj : pl f n j = bj at *
  have hs1 : IntKind.i64.wrap ((bg : Int) + (j : Int)) = (bg : Int) + (j : Int) := IntWalk.i64_in _ (by omega)
  have hs2 : IntKind.i64.wrap ((bg : Int) + (j : Int) - (i : Int)) = ((bg + (j - i) : Nat) : Int) := by rw [IntWalk.i64_in _ (by omega)]; omega
  have hd : decide (((bg + (j - i) : Nat) : Int) ≤ (n : Int)) = false := by rw [decide_eq_false_iff_not]; omega
  have hnc : ¬ c = bg := by omega
  have hb1 : (0 : Int) ≤ (bg : Int) := by omega
  have hb2 : (bg : Int) ≤ (n : Int) := by omega
  have hb3 : (n : Int) ≤ (c : Int) := by omega
  have hj1 : (0 : Int) ≤ (bj : Int) := by omega
  have hj2 : (bj : Int) ≤ (n : Int) := by omega
  have hj3 : (bj : Int) ≤ (c : Int) := by omega
  have c1 := (cells4 hb).2.1
  have Hb := Lib.hid hb
  have Hpc := Lib.hid hpc
  have Hpc2 := Lib.hid hpc2
  have HF0 := Lib.hid hF0
  clear hb hpc hpc2 hF0 hbg hbj
  go_enter Try.func44, Try.ntmps44
  go_wp2_with fail
  refine Hpc.out.mono ?_
  rintro e w1 ⟨rfl, rfl⟩
  go_wp2_with fail
  refine wp_world (fun W => Frm [] w W ∧ W.heap[w.heap.size]? = some (.cells #[.slice none 0 0, .slice none 0 0] 72)) ⟨(Frm.refl _ _).alloc _, obj_new w _⟩ fun w1 h1 => ?_
  obtain ⟨hF, hbx⟩ := h1
  have hb1' := hF.obj Hb.out (by simp)
  have d1 := (cells4 hb1').2.1
  obtain ⟨z0, z1⟩ := cells2 hbx
  have fz : ∀ k, w1.frozen? ⟨w.heap.size, k, none⟩ = false := fun k => frozen_of_obj hbx k
  have hb2' : b < w1.heap.size := Nat.lt_of_lt_of_le hbl hF.size
  have hz := lt_of_obj hbx
  have Hq := Lib.hid (Hpc2.out w1.drew hF.drew)
  have HF := Lib.hid hF
  have Hbx := Lib.hid hbx
  clear hF hbx hb1' Hpc2 HF0 Hpc c1
  refine wp_region_still_tail 15 (by kernel_rfl) (by kernel_rfl) ?_
  simp only [List.take_succ_cons, List.take_zero, List.drop_succ_cons, List.drop_zero]
  repeat still_step
  still_call Hq.out
  repeat still_step
  try refine wpStill_nil ?_
  go_wp2_with fail
  refine bodyPost_world (fun W => W.heap[w.heap.size]? = some (.cells #[.slice (cutA a bg) (n - bg) (c - bg), .slice a bj c] 72) ∧ Frm [] w W) ⟨?_, ?_⟩ fun W h7 => ?_
  · exact obj_setCell (obj_setCell Hbx.out 0 (.slice (cutA a bg) (n - bg) (c - bg))) 1 (.slice a bj c)
  · exact ((HF.out.setCell (a := ⟨w.heap.size, 0, none⟩) (.inr (Nat.le_refl _)) _).setCell (a := ⟨w.heap.size, 1, none⟩) (.inr (Nat.le_refl _)) _).drew
  obtain ⟨s0, s1⟩ := cells2 h7.1
  exact bodyPost_ret (v := .agg #[.slice (cutA a bg) (n - bg) (c - bg), .slice a bj c]) (by simp [results, Try.results44, go_sem, s0, s1]) rfl ⟨rfl, h7.2⟩

/-- The two pieces, read. -/
theorem pieces_at {w : World} {b : Nat} {rv mv : Value} {a : Option Addr} {c f : Nat} {P S : List It} (hb : w.heap[b]? = some (.cells #[rv, .slice a P.length c, .int .i64 (f : Int), mv] 59)) (hnil : a = none → P.length = 0 ∧ c = 0)
    (hsl : SlAt It.cells 2 w a P.length c P) (h : Win f P S) {i j : Nat} (hij : i ≤ j) (hj : j ≤ S.length) :
    Calls Try.prog 44 #[.pointer (some ⟨b, 0, none⟩), .int .i64 (i : Int), .int .i64 (j : Int)] w fun e w' => ∃ (a1 : Option Addr) (m1 c1 : Nat) (l1 : List It) (a2 : Option Addr) (m2 c2 : Nat) (l2 : List It),
      e = .returned (.agg #[.slice a1 m1 c1, .slice a2 m2 c2]) ∧ SlAt It.cells 2 w a1 m1 c1 l1 ∧ (a1 = none → m1 = 0 ∧ c1 = 0) ∧ SlAt It.cells 2 w a2 m2 c2 l2 ∧ (a2 = none → m2 = 0 ∧ c2 = 0) ∧ l1 ++ l2 = (S.drop i).take (j - i) ∧ Frm [] w w' := by
  have h1 := h.first
  have h2 := h.many
  have h3 := h.room
  have h4 := h.f_lt
  have h5 := hsl.2.1
  have h6 := hsl.2.2.1
  by_cases hA : pl f P.length i + (j - i) ≤ P.length
  · have hlt : pl f P.length i < P.length ∨ pl f P.length i = 0 := by unfold pl; split <;> omega
    refine (pieces_one hb hnil hij (by omega) (by omega) h4 (by omega) h5 h6 (by omega) hA hlt).mono ?_
    rintro e w' ⟨rfl, hF⟩
    refine ⟨_, _, _, _, none, 0, 0, [], rfl, hsl.cut hA, fun e => ?_, SlAt.nil _ _ _ _, fun _ => ⟨rfl, rfl⟩, by rw [List.append_nil]; exact win_one h hij hj hA, hF⟩
    have ha : a = none := by cases a with | none => rfl | some x => simp [cutA] at e
    have := hnil ha
    omega
  · obtain ⟨q1, q2, q3, q4, q5⟩ := win_wrap h hij hj hA
    refine (pieces_two hb hij (by omega) (by omega) h4 (by omega) h5 h6 (by omega) hA (by omega)).mono ?_
    rintro e w' ⟨rfl, hF⟩
    have hc1 := hsl.cut (i := pl f P.length i) (m := P.length - pl f P.length i) (by omega)
    rw [List.take_of_length_le (by rw [List.length_drop]; omega)] at hc1
    refine ⟨_, _, _, _, _, _, _, _, rfl, hc1, fun e => ?_, hsl.take (m := pl f P.length j) (by omega), fun e => ?_, win_two h hij hj hA, hF⟩
    · have ha : a = none := by cases a with | none => rfl | some x => simp [cutA] at e
      have := hnil ha
      omega
    · have := hnil e
      omega
end Go.Proofs.Ythamnalpkjjnlaa
