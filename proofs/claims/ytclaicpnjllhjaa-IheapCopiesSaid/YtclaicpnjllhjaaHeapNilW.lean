/- IheapNil, walked. -/
import Derived.Test.YtclaicpnjllhjaaHeapNil
import Derived.RangeFuncNested
import Derived.RangeFuncBound
import Derived.RangeFuncCalls
import Derived.RangeFuncLeaves
import Derived.Shelf.Abstract
import Derived.Shelf.RegionOpen
import Derived.OwnWalkIn
import Derived.TacticsInMore
import Derived.LoopNIn
import Derived.LoopIn
namespace Go.Proofs.Ytclaicpnjllhjaa
open Go.RowKit Go.Shelf
attribute [local go_sem] Oper.semAt_some

theorem cells6 {w : World} {b : Nat} {x0 x1 x2 x3 x4 x5 : Value} {t : TypeId} {f : Nat × Nat} (h : w.heap[b]? = some (.cells #[x0, x1, x2, x3, x4, x5] t f)) :
    w.cell? ⟨b, 0, none⟩ = some x0 ∧ w.cell? ⟨b, 1, none⟩ = some x1 ∧ w.cell? ⟨b, 2, none⟩ = some x2 ∧ w.cell? ⟨b, 3, none⟩ = some x3 ∧ w.cell? ⟨b, 4, none⟩ = some x4 ∧ w.cell? ⟨b, 5, none⟩ = some x5 := by
  refine ⟨?_, ?_, ?_, ?_, ?_, ?_⟩ <;> (rw [cell_of_obj h]; rfl)
structure OpV where
  ask : Int
  k : Kv
  v : Int
abbrev OpV.val (o : OpV) : Value := .agg #[.int .i64 o.ask, .int .i64 o.k.at_, .int .i64 o.k.src, .int .i64 o.k.sent, .int .i64 o.k.no, .int .i64 o.v]
abbrev OpV.cells (o : OpV) : List Value := [.int .i64 o.ask, .int .i64 o.k.at_, .int .i64 o.k.src, .int .i64 o.k.sent, .int .i64 o.k.no, .int .i64 o.v]

set_option maxHeartbeats 400000 in
/-- The iterator that has nothing. -/
theorem none_stops (F : Fence) (n : Nat) (h : F.fn 32) (hro : F.round = none) (Kp : World → World → Prop) (encs : Unit → Array Value) (w : World) :
    SeqStopsK F n Try.prog 32 #[] encs Kp (fun xs => xs = []) (fun _ => False) 0 w := fun l J Jx W _ _ _ hY h0 => by
  refine callsIn_of_wp Try.func32 rfl h ?_ hro
  simp only [Try.ntmps32, List.size_toArray, List.length_cons, List.length_nil, Nat.reduceAdd, Nat.reduceSub, Array.replicate_succ, Array.replicate_zero, List.push_toArray, List.append_toArray, List.nil_append, List.cons_append]
  gi_wp2
  go_end0
  exact ⟨⟨_, rfl⟩, .inl ⟨[], rfl, h0⟩⟩

theorem func_nil (w : World) : (binOp BinOp.eql 38 (.func (.func 32) #[] #[]) .nilFunc).run Try.prog w = .ok (.bool false) w := by kernel_rfl

attribute [local go_sem high] key_eql key_guard in
set_option maxHeartbeats 2000000 in
set_option maxRecDepth 100000 in
theorem nil_walk (o : OpV) (w : World) : Calls Try.prog 7 #[o.val] w fun e w' => e = .returned (.bool true) ∧ Below w.heap.size w w' := by
  refine (callsIn_wide (n := 3)).1 ?_
  refine callsIn_of_wp_marks Try.func7 rfl trivial ?_ rfl
  simp only [Try.ntmps7, List.size_toArray, List.length_cons, List.length_nil, Nat.reduceAdd, Nat.reduceSub, Array.replicate_succ, Array.replicate_zero, List.push_toArray, List.append_toArray, List.nil_append, List.cons_append]
  have hst := (Holds.start w).alloc noneR_stable (.cells #[.int .i64 o.ask, .int .i64 o.k.at_, .int .i64 o.k.src, .int .i64 o.k.sent, .int .i64 o.k.no, .int .i64 o.v] 35)
  have H0 := Lib.hid hst
  clear hst
  gi_wp2_with fail
  refine ⟨trivial, ?_⟩
  refine callsIn_wide.2 ((pull_nil _ o.k).mono ?_)
  rintro e w1 ⟨rfl, hF⟩
  have H1 := Lib.hid (H0.out.made noneR_stable hF)
  clear hF
  obtain ⟨p0, p1, p2, p3, p4, p5⟩ := cells6 (H1.out.box (k := w.heap.size) (o := .cells #[.int .i64 o.ask, .int .i64 o.k.at_, .int .i64 o.k.src, .int .i64 o.k.sent, .int .i64 o.k.no, .int .i64 o.v] 35) (by simp))
  have z0 := World.block_lt_of_cell? _ _ p0
  dsimp only at z0
  gi_wp2_with fail
  refine ⟨trivial, ?_⟩
  refine callsIn_wide.2 ((get_nil _ o.k).mono ?_)
  rintro e w2 ⟨rfl, hF⟩
  have H2 := Lib.hid (H1.out.made noneR_stable hF)
  clear hF p0 p1 p2 p3 p4 p5 z0
  gi_wp2_with fail
  refine ⟨trivial, ?_⟩
  refine callsIn_wide.2 ((first_nil _).mono ?_)
  rintro e w3 ⟨rfl, hF⟩
  have H3 := Lib.hid ((H2.out.made noneR_stable hF).alloc noneR_stable (.cells #[.int .i64 0, .int .i64 0, .int .i64 0, .int .i64 0] 33))
  clear hF
  gi_wp2_with fail
  refine ⟨trivial, ?_⟩
  refine callsIn_wide.2 ((pop_nil _).mono ?_)
  rintro e w4 ⟨rfl, hF⟩
  have H4 := Lib.hid ((H3.out.made noneR_stable hF).alloc noneR_stable (.cells #[.int .i64 0, .int .i64 0, .int .i64 0, .int .i64 0] 33))
  clear hF
  gi_wp2_with fail
  refine ⟨trivial, ?_⟩
  refine callsIn_wide.2 ((batch_nil _).mono ?_)
  rintro e w5 ⟨rfl, hF⟩
  have H5 := Lib.hid (H4.out.made noneR_stable hF)
  clear hF
  gi_wp2_with fail
  refine ⟨trivial, ?_⟩
  refine callsIn_wide.2 ((all_nil _).mono ?_)
  rintro e w6 ⟨rfl, hF⟩
  have H6 := Lib.hid ((H5.out.made noneR_stable hF).alloc noneR_stable (.cells #[.int .i64 0] 3))
  clear hF
  have hfn := func_nil
  gi_wp2_with fail
  have h6 := H6.out
  have hsz : w.heap.size ≤ (w6.alloc (.cells #[.int .i64 0] 3)).heap.size := h6.le
  generalize w6.alloc (.cells #[.int .i64 0] 3) = W0 at h6 hsz ⊢
  have HW := Lib.hid h6
  clear h6 H6 hfn
  refine wpIn_rangeFunc_ownF (F := Fence.wide) rfl (by omega) (gf := 32) (lb := #[]) rfl trivial (enters_of Try.func32 (by kernel_rfl) rfl)
    (none_stops Fence.wide _ trivial rfl (Below W0.heap.size) (fun _ => #[.agg #[.int .i64 0, .int .i64 0, .int .i64 0, .int .i64 0], .int .i64 0]) W0) belowK_t (belowK_b (Nat.le_refl _)) (Below.refl _ _) (fun _ => rfl)
    (fun _ W => Below W0.heap.size W0 W) (fun _ _ _ => False) (ownFrom_below (Nat.le_refl _) (Nat.le_refl _)) (fun _ _ _ _ _ hs _ _ => hs) (Below.refl _ _) ?act1 ?assign ?body ?done ?stop
  case assign =>
    intro l x W K hK
    gi_wp2
    exact hK
  case body =>
    intro l pre x W _ hlen
    exact absurd hlen (by omega)
  case stop =>
    intro D c pre W _ h
    exact h.elim
  case done =>
    rintro D xs W hD rfl hB hKD
    have H7 := Lib.hid (HW.out.more noneR_stable (Frm.of_below hB (Nat.le_refl _)) hD hKD)
    clear hB hKD
    obtain ⟨p0, p1, p2, p3, p4, p5⟩ := cells6 (H7.out.box (k := w.heap.size) (o := .cells #[.int .i64 o.ask, .int .i64 o.k.at_, .int .i64 o.k.src, .int .i64 o.k.sent, .int .i64 o.k.no, .int .i64 o.v] 35) (by simp))
    obtain ⟨r0, r1, r2, r3⟩ := cells4 (H7.out.box (k := w3.heap.size) (o := .cells #[.int .i64 0, .int .i64 0, .int .i64 0, .int .i64 0] 33) (by simp))
    obtain ⟨q0, q1, q2, q3⟩ := cells4 (H7.out.box (k := w4.heap.size) (o := .cells #[.int .i64 0, .int .i64 0, .int .i64 0, .int .i64 0] 33) (by simp))
    have s0 := cells1 (H7.out.box (k := w6.heap.size) (o := .cells #[.int .i64 0] 3) (by simp))
    have ke : (binOp BinOp.eql 33 (.agg #[.int .i64 0, .int .i64 0, .int .i64 0, .int .i64 0]) (.agg #[.int .i64 0, .int .i64 0, .int .i64 0, .int .i64 0])).run Try.prog W = .ok (.bool true) W := key_eql ⟨0, 0, 0, 0⟩ ⟨0, 0, 0, 0⟩ W
    gi_wp2_with fail
    refine ⟨trivial, ?_⟩
    refine callsIn_wide.2 ((push_nil _ o.k o.v).mono ?_)
    rintro e w7 ⟨rfl, hF⟩
    have H8 := Lib.hid (H7.out.made noneR_stable hF)
    clear hF p0 p1 p2 p3 p4 p5 r0 r1 r2 r3 q0 q1 q2 q3 s0 ke
    gi_wp2_with fail
    refine ⟨trivial, ?_⟩
    refine callsIn_wide.2 ((len_nil _).mono ?_)
    rintro e v7 ⟨rfl, hF⟩
    have H9 := Lib.hid (H8.out.made noneR_stable hF)
    clear hF
    gi_wp2_with fail
    refine ⟨trivial, ?_⟩
    refine callsIn_wide.2 ((copy_nil _).mono ?_)
    rintro e v8 ⟨rfl, hF⟩
    have H10 := Lib.hid (H9.out.made noneR_stable hF)
    clear hF
    gi_wp2_with fail
    refine ⟨trivial, ?_⟩
    refine callsIn_wide.2 ((awake_any _).mono ?_)
    rintro e v10 ⟨rfl, hF⟩
    have H11 := Lib.hid (H10.out.made noneR_stable (Frm.of_below hF (Nat.le_refl _)))
    clear hF
    gi_wp2_with fail
    refine ⟨by simp, .inl ⟨_, _, rfl, run_takeDeferred (H11.out.box (k := D) (o := .deferred (some [])) (by simp)), ?_⟩⟩
    exact ⟨_, results_tmp rfl _ _ _, rfl, H11.out.below.trans (belowK_b (w := W0) hsz _ D _ _ hD (H11.out.box (k := D) (o := .deferred (some [])) (by simp)) rfl rfl)⟩
end Go.Proofs.Ytclaicpnjllhjaa
