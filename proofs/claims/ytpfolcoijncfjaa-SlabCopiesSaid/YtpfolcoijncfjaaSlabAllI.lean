/- A slab's iterator: whatever the body is, all things come by rising slots, or a beginning of them. -/
import Derived.Test.YtpfolcoijncfjaaSlabAll
namespace Go.Proofs.Ytpfolcoijncfjaa
open Go.RowKit Go.Shelf
attribute [local go_sem] Oper.semAt_some

abbrev thArgs (x : Nat × Int × Int) : Array Value := #[.agg #[.int .i64 (x.1 : Int), .int .i64 x.2.1], .int .i64 x.2.2]

set_option maxRecDepth 100000 in
set_option maxHeartbeats 4000000 in
theorem allTwo_in (F : Fence) (n : Nat) (hf : F.fn 33) (hro : F.round = none) (hn : 1 ≤ n) (l bx n₀ : Nat) (a : Option Addr) (c : Nat) (S : List Slot3) (N : Nat) (hN : S.length = N) (hS : N ≤ 4096) (J Jx : List (Nat × Int × Int) → World → Prop) (W : World) (hJ : AbidesFrom W.heap.size J)
    (hY : ∀ pre x W1, J pre W1 → pre.length < (heldL S 0).length → YieldAt F (n - 1) Try.prog l (thArgs x) W1 fun e W' =>
      (e = .returned (.bool true) ∧ J (pre ++ [x]) W' ∧ Below n₀ W1 W') ∨ (e = .returned (.bool false) ∧ Jx (pre ++ [x]) W'))
    (hBs : W.cell? ⟨bx, 0, none⟩ = some (.slice a N c)) (hsl : SlAt slEnc 3 W a N c S) (hab : ∀ ad, a = some ad → ad.block < n₀) (hn₀ : n₀ ≤ W.heap.size) (h0 : J [] W) :
    CallsIn F n Try.prog 33 #[.func (.yield l) #[] #[], .pointer (some ⟨bx, 0, none⟩)] W fun e W' => (∃ v, e = .returned v) ∧
      ((∃ ys, ys = heldL S 0 ∧ J ys W') ∨ (∃ pre, (∃ k, k ≤ (heldL S 0).length ∧ pre = (heldL S 0).take k) ∧ Jx pre W')) := by
  have Hsl := Lib.hid hsl
  have Hab := Lib.hid hab
  have HJ := Lib.hid hJ
  have HN := Lib.hid hN
  have HY := Lib.hid hY
  have gc := hsl.2.1
  clear hsl hab hJ hN hY
  refine callsIn_of_wp Try.func33 rfl hf ?_ hro
  simp only [Try.ntmps33, List.size_toArray, List.length_cons, List.length_nil, Nat.reduceAdd, Nat.reduceSub, Array.replicate_succ, Array.replicate_zero, List.push_toArray, List.append_toArray, List.nil_append, List.cons_append]
  gi_wp2
  gi_loopw [7] (fun i wr => ∃ k : Nat, k ≤ N ∧ i = .int .i64 k ∧ J (heldL (S.take k) 0) wr ∧ Below n₀ W wr) (fun i _ => N - (intOf i).toNat)
  case atStart => exact ⟨0, Nat.zero_le _, rfl, h0, Below.refl _ _⟩
  case round =>
    obtain ⟨k, hk, rfl, hJs, hnx⟩ := hrel
    have HJs := Lib.hid hJs
    have Hnx := Lib.hid hnx
    have hsz := hnx.size
    clear hJs hnx
    by_cases hlt : k < N
    · obtain ⟨b1, o1, ⟨cc, tt, vv⟩, ha, hb1, hx, hcell⟩ := Hsl.out.at_ hlt
      have hbn : b1 < n₀ := Hab.out _ ha
      subst ha
      have hcx : ∀ (j : Nat) (u : Value), (slEnc (cc, tt, vv))[j]? = some u → wr.cell? ⟨b1, o1 + k * 3 + j, none⟩ = some u := fun j u hj => (Hnx.out.cell (p := ⟨b1, o1 + k * 3 + j, none⟩) hbn).trans (hcell j u hj)
      have p0 := hcx 0 _ rfl
      have p1 := hcx 1 _ rfl
      have p2 := hcx 2 _ rfl
      simp only [Nat.add_zero] at p0
      have hkl : (S.take k).length = k := by rw [List.length_take]; have := HN.out; omega
      have hts : S.take (k + 1) = S.take k ++ [(cc, tt, vv)] := take_next hx
      have Hts := Lib.hid hts
      have Hkl := Lib.hid hkl
      have k0 : (0 : Int) ≤ (k : Int) := by omega
      have k1 : (k : Int) < (N : Int) := by omega
      have hbw : b1 < wr.heap.size := by omega
      have hJa : J (heldL (S.take k) 0) (wr.alloc (.cells #[.int .i64 cc, .int .i64 tt, .int .i64 vv] 75)) := HJ.out _ _ _ none HJs.out (World.grownBy_alloc _ _ _) (by simp)
      have HJa := Lib.hid hJa
      have Hna := Lib.hid (Hnx.out.alloc (by omega) (.cells #[.int .i64 cc, .int .i64 tt, .int .i64 vv] 75))
      clear hcx hcell hx hts hkl hb1 hJa
      by_cases hc0 : cc = 0
      · subst hc0
        gi_wp2
        refine ⟨fun f h9 => (by cases h9), ?_⟩
        gi_wp2
        go_roundw
        case rel => exact ⟨k + 1, by omega, by simp, by rw [Hts.out, heldL_more, if_pos rfl]; exact HJa.out, Hna.out⟩
        case measure => simp [intOf]; omega
      · have gcc : (cc != 0) = true := by rw [bne_iff_ne]; exact hc0
        have hmore : heldL (S.take (k + 1)) 0 = heldL (S.take k) 0 ++ [(k, tt, vv)] := by rw [Hts.out, heldL_more, if_neg hc0, Hkl.out, Nat.zero_add]
        have hlen : (heldL (S.take k) 0).length < (heldL S 0).length := by
          have h1 := heldL_take S (k + 1) 0
          have h2 := congrArg List.length h1
          rw [List.length_take, hmore, List.length_append, List.length_singleton] at h2
          omega
        have Hmore := Lib.hid hmore
        obtain ⟨fn, tmps, assign, body, hy, hR⟩ := HY.out _ (k, tt, vv) _ HJa.out hlen
        dsimp only [thArgs] at hy
        clear hmore hlen hc0
        gi_wp2
        refine hR.mono ?_
        rintro e W3 (⟨rfl, hJ3, hk3⟩ | ⟨rfl, hJx3⟩)
        · have HJ3 := Lib.hid hJ3
          have Hnx3 := Lib.hid (Hna.out.trans hk3)
          clear hJ3 hk3 p0 p1 p2 hy hR
          gi_wp2
          go_roundw
          case rel => exact ⟨k + 1, by omega, by simp, by rw [Hmore.out]; exact HJ3.out, Hnx3.out⟩
          case measure => simp [intOf]; omega
        · gi_wp2
          refine bodyPost_ret (results_none rfl _ _ _) rfl ?_
          refine ⟨⟨_, rfl⟩, .inr ⟨_, ⟨(heldL (S.take (k + 1)) 0).length, ?_, ?_⟩, hJx3⟩⟩
          · have h2 := congrArg List.length (heldL_take S (k + 1) 0)
            rw [List.length_take] at h2
            omega
          · rw [← heldL_take, Hmore.out]
    · obtain rfl : N = k := by omega
      have hJe := HJs.out
      rw [List.take_of_length_le (by rw [HN.out]; exact Nat.le_refl _)] at hJe
      have HJe := Lib.hid hJe
      clear hJe
      gi_wp2
      go_end0
      exact ⟨⟨_, rfl⟩, .inl ⟨_, rfl, HJe.out⟩⟩
theorem allTwo_stops (F : Fence) (n : Nat) (hf : F.fn 33) (hro : F.round = none) (hn : 1 ≤ n) (bx n₀ : Nat) (a : Option Addr) (c : Nat) (S : List Slot3) (N : Nat) (hN : S.length = N) (hS : N ≤ 4096) (w : World) (hbx : bx < n₀) (hn₀ : n₀ ≤ w.heap.size) (hc : w.cell? ⟨bx, 0, none⟩ = some (.slice a N c))
    (hsl : SlAt slEnc 3 w a N c S) (hab : ∀ ad, a = some ad → ad.block < n₀) :
    SeqStopsK F n Try.prog 33 #[.pointer (some ⟨bx, 0, none⟩)] thArgs (Below n₀) (fun ys => ys = heldL S 0) (fun pre => ∃ k, k ≤ (heldL S 0).length ∧ pre = (heldL S 0).take k) (heldL S 0).length w := fun l J Jx W hb hJ _ hY h0 => by
  refine allTwo_in F n hf hro hn l bx n₀ a c S N hN hS J Jx W hJ hY ((hb.cell (p := ⟨bx, 0, none⟩) (by dsimp only; omega)).trans hc) ?_ hab (Nat.le_trans hn₀ hb.size) h0
  obtain ⟨h1, h2, h3, h4⟩ := hsl
  refine ⟨h1, h2, h3, ?_⟩
  rcases h4 with h5 | ⟨b, off, rfl, hbl, hcl⟩
  · exact .inl h5
  · have hB : b < n₀ := hab ⟨b, off, none⟩ rfl
    exact .inr ⟨b, off, rfl, Nat.lt_of_lt_of_le hbl hb.size, fun i x hx j u hj => (hb.cell (p := ⟨b, off + i * 3 + j, none⟩) (by dsimp only; omega)).trans (hcl i x hx j u hj)⟩
end Go.Proofs.Ytpfolcoijncfjaa
