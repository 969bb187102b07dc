/- The document's answer: a list in order. At, Push. -/
import Derived.Test.YtclaicpnjllhjaaHeapD
import Derived.Test.YtclaicpnjllhjaaApp
namespace Go.Proofs.Ytclaicpnjllhjaa
open Go.RowKit Go.Maps

def refR (b : Nat) (S : List Ent) : World → List Nat → Prop := fun w F => ∃ x : Option Addr × Nat, sepR (boxR b #[.slice x.1 S.length x.2] 30) (readR Ent.cells 5 x.1 S.length x.2 S) w F
theorem refR_stable (b : Nat) (S : List Ent) : Stable (refR b S) := exR_stable fun _ => sepR_stable (boxR_stable _ _ _) (readR_stable _ _ _ _ _)
theorem infoThing : (Try.prog.info? 42).map (fun i => (i.zero, i.size, i.bytes)) = some (some (.agg #[.int .i64 0, .int .i64 0, .int .i64 0, .int .i64 0, .int .i64 0]), 5, 40) := by kernel_rfl
section
variable {B : Nat} {w0 w : World} {Q : World → List Nat → Prop} {L : List (Nat × Obj)}
theorem Holds.refOpen {b : Nat} {S : List Ent} (h : Holds B w0 (sepR (refR b S) Q) w L) : ∃ a c, Holds B w0 (sepR (boxR b #[.slice a S.length c] 30) (sepR (readR Ent.cells 5 a S.length c S) Q)) w L := by
  obtain ⟨⟨a, c⟩, h1⟩ := h.ex
  exact ⟨a, c, h1.conv Conv.flat⟩
theorem Holds.refShut {b : Nat} {S : List Ent} {a : Option Addr} {c : Nat} (h : Holds B w0 (sepR (boxR b #[.slice a S.length c] 30) (sepR (readR Ent.cells 5 a S.length c S) Q)) w L) : Holds B w0 (sepR (refR b S) Q) w L :=
  Holds.ofEx (a, c) (h.conv Conv.fold)
theorem Holds.refCells {b : Nat} {S : List Ent} {a : Option Addr} {c : Nat} (h : Holds B w0 (sepR (boxR b #[.slice a S.length c] 30) (sepR (readR Ent.cells 5 a S.length c S) Q)) w L) :
    w.cell? ⟨b, 0, none⟩ = some (.slice a S.length c) ∧ w.frozen? ⟨b, 0, none⟩ = false ∧ b < w.heap.size ∧ SlAt Ent.cells 5 w a S.length c S := by
  have h1 := h.theBox
  exact ⟨cells1 h1, frozen_of_obj h1 0, lt_of_obj h1, (h.conv Conv.exch).reads.1⟩

def idxE (k : Kv) (S : List Ent) : Int := match S.findIdx? (fun x => decide (x.k = k)) with | some i => (i : Int) | none => -1
theorem idx_end {k : Kv} {S : List Ent} (h : ∀ (j : Nat) (y : Ent), j < S.length → S[j]? = some y → y.k ≠ k) : idxE k S = -1 ∧ findE k S = none := by
  have h1 : ∀ x ∈ S, x.k ≠ k := fun x hx => by
    obtain ⟨j, hj⟩ := List.mem_iff_getElem?.1 hx
    exact h j x (List.getElem?_eq_some_iff.1 hj).1 hj
  refine ⟨?_, findE_not h1⟩
  unfold idxE
  rw [List.findIdx?_eq_none_iff.2 (fun x hx => by simpa using h1 x hx)]
theorem idx_at {k : Kv} {S : List Ent} {i : Nat} {x : Ent} (hx : S[i]? = some x) (e : x.k = k) (h : ∀ (j : Nat) (y : Ent), j < i → S[j]? = some y → y.k ≠ k) : idxE k S = (i : Int) := by
  unfold idxE
  have hi := (List.getElem?_eq_some_iff.1 hx).1
  have : S.findIdx? (fun x => decide (x.k = k)) = some i := by
    rw [List.findIdx?_eq_some_iff_getElem]
    refine ⟨hi, ?_, fun j hj => ?_⟩
    · have := (List.getElem?_eq_some_iff.1 hx).2
      rw [this]; simpa using e
    · have := h j _ hj (List.getElem?_eq_getElem (by omega))
      simpa using this
  rw [this]

def AtRel (B : Nat) (w0 : World) (R : World → List Nat → Prop) (L : List (Nat × Obj)) (k : Kv) (S : List Ent) (iv : Value) (wr : World) : Prop :=
  ∃ i : Nat, i ≤ S.length ∧ iv = .int .i64 (i : Int) ∧ (∀ (j : Nat) (y : Ent), j < i → S[j]? = some y → y.k ≠ k) ∧ Holds B w0 R wr L

attribute [local go_sem high] key_eql key_guard in
set_option maxHeartbeats 2000000 in
theorem at_goes (hQ : Stable Q) {b : Nat} {S : List Ent} (h : Holds B w0 (sepR (refR b S) Q) w L) (hn : S.length ≤ 200) (k : Kv) :
    Calls Try.prog 27 #[.pointer (some ⟨b, 0, none⟩), k.val] w (Goes (.int .i64 (idxE k S)) B w0 (sepR (refR b S) Q) L) := by
  have hs := sepR_stable (refR_stable b S) hQ
  have h1 := h.alloc hs (.cells #[.int .i64 k.at_, .int .i64 k.src, .int .i64 k.sent, .int .i64 k.no] 33)
  have hrel : AtRel B w0 (sepR (refR b S) Q) ((w.heap.size, .cells #[.int .i64 k.at_, .int .i64 k.src, .int .i64 k.sent, .int .i64 k.no] 33) :: L) k S (.int .i64 0) (w.alloc (.cells #[.int .i64 k.at_, .int .i64 k.src, .int .i64 k.sent, .int .i64 k.no] 33)) :=
    ⟨0, Nat.zero_le _, rfl, fun j y hj => absurd hj (Nat.not_lt_zero _), h1⟩
  have Hrel := Lib.hid hrel
  clear h h1 hrel
  go_enter Try.func27, Try.ntmps27
  go_wp2_with fail
  go_loopw [5] (fun iv wr => AtRel B w0 (sepR (refR b S) Q) ((w.heap.size, .cells #[.int .i64 k.at_, .int .i64 k.src, .int .i64 k.sent, .int .i64 k.no] 33) :: L) k S iv wr) (fun iv _ => S.length - (intOf iv).toNat)
  case atStart => exact Hrel.out
  case round =>
    obtain ⟨i, hi, rfl, hno, hH⟩ := hrel
    obtain ⟨a, c, h2⟩ := hH.refOpen
    obtain ⟨c0, f0, hb, hsl⟩ := h2.refCells
    obtain ⟨r0, r1, r2, r3⟩ := cells4 (hH.box (k := w.heap.size) (o := .cells #[.int .i64 k.at_, .int .i64 k.src, .int .i64 k.sent, .int .i64 k.no] 33) (by simp))
    have z0 := World.block_lt_of_cell? _ _ r0
    dsimp only at z0
    have HH := Lib.hid hH
    have Hno := Lib.hid hno
    clear hH h2 hno Hrel f0
    by_cases hlt : i < S.length
    · obtain ⟨b1, o1, x, rfl, hb1, hx, hc⟩ := hsl.at_ hlt
      have p0 := hc 0 _ rfl
      have p1 := hc 1 _ rfl
      have p2 := hc 2 _ rfl
      have p3 := hc 3 _ rfl
      simp only [Nat.add_zero] at p0
      have gc := hsl.2.1
      have Hx := Lib.hid hx
      have i0 : (0 : Int) ≤ (i : Int) := by omega
      have i1 : (i : Int) < (S.length : Int) := by omega
      clear hsl hc hx
      cases hd : decide (x.k = k)
      · go_wp2_with fail
        go_quiet (fail)
        go_wp2_with fail
        go_roundw
        case rel =>
          refine ⟨i + 1, by omega, by go_num, fun j y hj hy => ?_, HH.out.drewN hs _⟩
          by_cases hji : j = i
          · subst hji
            rw [Hx.out] at hy
            cases hy
            exact of_decide_eq_false hd
          · exact Hno.out j y (by omega) hy
        case measure => simp [intOf]; omega
      · have hr := idx_at Hx.out (of_decide_eq_true hd) Hno.out
        have Hr := Lib.hid hr
        clear hr
        go_wp2_with fail
        go_quiet (fail)
        go_wp2_with fail
        go_ret
        exact ⟨by rw [Hr.out]; rfl, (HH.out.drewN hs _).sub (fun p hp => by simp [hp])⟩
    · obtain rfl : i = S.length := by omega
      have hr := (idx_end Hno.out).1
      have Hr := Lib.hid hr
      clear hr hsl
      go_wp2_with fail
      go_ret
      exact ⟨by rw [Hr.out]; rfl, HH.out.sub (fun p hp => by simp [hp])⟩
end
end Go.Proofs.Ytclaicpnjllhjaa
