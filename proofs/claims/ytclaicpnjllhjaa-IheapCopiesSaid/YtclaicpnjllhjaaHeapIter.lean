/- A heap's iterator: whatever the body is, all things come in order, or a beginning of them. -/
import Derived.Test.YtclaicpnjllhjaaHeapAll
import Derived.RangeFuncNested
import Derived.RangeFuncBound
import Derived.RangeFuncCalls
import Derived.RangeFuncLeaves
import Derived.Shelf.Abstract
import Derived.Shelf.RegionOpen
import Derived.OwnWalkIn
import Derived.TacticsInMore
import Derived.LoopNIn
import Derived.LoopIn
namespace Go.Proofs.Ytclaicpnjllhjaa
open Go.RowKit Go.Shelf
attribute [local go_sem] Oper.semAt_some

abbrev entArgs (x : Ent) : Array Value := #[.agg #[.int .i64 x.k.at_, .int .i64 x.k.src, .int .i64 x.k.sent, .int .i64 x.k.no], .int .i64 x.v]

set_option maxRecDepth 100000 in
set_option maxHeartbeats 2000000 in
theorem all3_in (F : Fence) (n : Nat) (h35 : F.fn 35) (hro : F.round = none) (hn : 1 ≤ n) (l bx n₀ : Nat) (a : Option Addr) (c : Nat) (S : List Ent) (hS : S.length ≤ 1000) (J Jx : List Ent → World → Prop) (W : World) (hJ : AbidesFrom W.heap.size J)
    (hY : ∀ pre x W1, J pre W1 → pre.length < S.length → YieldAt F (n - 1) Try.prog l (entArgs x) W1 fun e W' =>
      (e = .returned (.bool true) ∧ J (pre ++ [x]) W' ∧ Below n₀ W1 W') ∨ (e = .returned (.bool false) ∧ Jx (pre ++ [x]) W'))
    (_hbx : bx < n₀) (hBs : W.cell? ⟨bx, 0, none⟩ = some (.slice a S.length c)) (hsl : SlAt Ent.cells 5 W a S.length c S) (hab : ∀ ad, a = some ad → ad.block < n₀) (hn₀ : n₀ ≤ W.heap.size) (h0 : J [] W) :
    CallsIn F n Try.prog 35 #[.func (.yield l) #[] #[], .pointer (some ⟨bx, 0, none⟩)] W fun e W' => (∃ v, e = .returned v) ∧
      ((∃ ys, ys = S ∧ J ys W') ∨ (∃ pre, (∃ k, k ≤ S.length ∧ pre = S.take k) ∧ Jx pre W')) := by
  have Hsl := Lib.hid hsl
  have Hab := Lib.hid hab
  have HJ := Lib.hid hJ
  have gc := hsl.2.1
  clear hsl hab hJ
  refine callsIn_of_wp Try.func35 rfl h35 ?_ hro
  simp only [Try.ntmps35, List.size_toArray, List.length_cons, List.length_nil, Nat.reduceAdd, Nat.reduceSub, Array.replicate_succ, Array.replicate_zero, List.push_toArray, List.append_toArray, List.nil_append, List.cons_append]
  gi_wp2
  gi_loopw [7] (fun i wr => ∃ k : Nat, k ≤ S.length ∧ i = .int .i64 k ∧ J (S.take k) wr ∧ Below n₀ W wr)
    (fun i _ => S.length - (intOf i).toNat)
  case atStart => exact ⟨0, Nat.zero_le _, rfl, h0, Below.refl _ _⟩
  case round =>
    obtain ⟨k, hk, rfl, hJs, hnx⟩ := hrel
    have HJs := Lib.hid hJs
    have Hnx := Lib.hid hnx
    have hsz := hnx.size
    clear hJs hnx
    by_cases hlt : k < S.length
    · obtain ⟨b1, o1, x, ha, hb1, hx, hcell⟩ := Hsl.out.at_ hlt
      have hbn : b1 < n₀ := Hab.out _ ha
      subst ha
      have hcx : ∀ (j : Nat) (u : Value), x.cells[j]? = some u → wr.cell? ⟨b1, o1 + k * 5 + j, none⟩ = some u := fun j u hj => (Hnx.out.cell (p := ⟨b1, o1 + k * 5 + j, none⟩) hbn).trans (hcell j u hj)
      have p0 := hcx 0 _ rfl
      have p1 := hcx 1 _ rfl
      have p2 := hcx 2 _ rfl
      have p3 := hcx 3 _ rfl
      have p4 := hcx 4 _ rfl
      simp only [Nat.add_zero] at p0
      have hJa : J (S.take k) (wr.alloc (.cells #[.int .i64 x.k.at_, .int .i64 x.k.src, .int .i64 x.k.sent, .int .i64 x.k.no, .int .i64 x.v] 68)) := HJ.out _ _ _ none HJs.out (World.grownBy_alloc _ _ _) (by simp)
      obtain ⟨fn, tmps, assign, body, hy, hR⟩ := hY _ x _ hJa (by rw [List.length_take]; omega)
      dsimp only [entArgs] at hy
      have hts : S.take (k + 1) = S.take k ++ [x] := by rw [List.take_add_one, hx]; rfl
      have Hts := Lib.hid hts
      have k0 : (0 : Int) ≤ (k : Int) := by omega
      have k1 : (k : Int) < (S.length : Int) := by omega
      have hbw : b1 < wr.heap.size := by omega
      clear hcx hcell hJa hx hts hb1
      gi_wp2
      refine hR.mono ?_
      rintro e W3 (⟨rfl, hJ3, hk3⟩ | ⟨rfl, hJx3⟩)
      · have HJ3 := Lib.hid hJ3
        have hnx3 : Below n₀ W W3 := (Hnx.out.alloc (by omega) _).trans hk3
        have Hnx3 := Lib.hid hnx3
        clear hJ3 hk3 hnx3 p0 p1 p2 p3 p4 hy hR
        gi_wp2
        go_roundw
        case rel => exact ⟨k + 1, by omega, by simp, by rw [Hts.out]; exact HJ3.out, Hnx3.out⟩
        case measure => simp [intOf]; omega
      · gi_wp2
        refine bodyPost_ret (results_none rfl _ _ _) rfl ?_
        exact ⟨⟨_, rfl⟩, .inr ⟨_, ⟨k + 1, by omega, Hts.out.symm⟩, hJx3⟩⟩
    · obtain rfl : k = S.length := by omega
      have hJe := HJs.out
      rw [List.take_length] at hJe
      have HJe := Lib.hid hJe
      clear hJe
      gi_wp2
      go_end0
      exact ⟨⟨_, rfl⟩, .inl ⟨_, rfl, HJe.out⟩⟩
end Go.Proofs.Ytclaicpnjllhjaa
