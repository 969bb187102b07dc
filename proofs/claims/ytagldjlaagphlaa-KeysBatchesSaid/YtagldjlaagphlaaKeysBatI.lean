/- The iterator of Batches: each batch is a row of its own, laid for it. -/
import Derived.Test.YtagldjlaagphlaaKeysBat
namespace Go.Proofs.Ytagldjlaagphlaa
open Go.RowKit Go.Maps Go.Shelf
attribute [local go_sem] Oper.semAt_some

/-- A batch: its time, and the row that it lies in. -/
structure Bt where
  at_ : Int
  g : Nat
  n : Nat
  c : Nat
  l : List Ev
abbrev btArgs (x : Bt) : Array Value := #[.int .i64 x.at_, .slice (some ⟨x.g, 0, none⟩) x.n x.c]
def posn : List Bt → Nat
  | [] => 0
  | x :: l => x.n + posn l
theorem posn_more (l : List Bt) (x : Bt) : posn (l ++ [x]) = posn l + x.n := by
  induction l with
  | nil => simp [posn]
  | cons y l ih => simp only [List.cons_append, posn, ih]; omega
/-- What holds of a batch when it is handed out. -/
def BtEl (S : List Ev) (B : Nat) (pre : List Bt) (x : Bt) (w : World) : Prop :=
  x.l = (S.drop (posn pre)).take x.n ∧ 1 ≤ x.n ∧ (∀ e ∈ x.l, e.k.at_ = x.at_) ∧ Part S (posn pre) ∧ Part S (posn pre + x.n) ∧ B ≤ x.g ∧ EvsAt w (some ⟨x.g, 0, none⟩) x.n x.c x.l
theorem cell_own {X Y : World} {row : Option Nat} (hg : X.grownBy Y row) (hr : ∀ r, row = some r → ∃ o : Obj, X.heap[r]? = some o ∧ o.isCells = false) {a : Addr} {v : Value} (h : X.cell? a = some v) : Y.cell? a = some v := by
  refine (Frm.of_grown (S := row.toList) hg (fun k e => .inl (by simp [e]))).cell h (fun hm => ?_)
  cases row with
  | none => simp at hm
  | some r =>
    simp at hm
    obtain ⟨o, ho, hc⟩ := hr r rfl
    rw [← hm] at ho
    unfold World.cell? at h
    rw [ho] at h
    cases o <;> simp_all [Obj.isCells]
theorem EvsAt.own {X Y : World} {row : Option Nat} {a : Option Addr} {n c : Nat} {l : List Ev} (hg : X.grownBy Y row) (hr : ∀ r, row = some r → ∃ o : Obj, X.heap[r]? = some o ∧ o.isCells = false) (h : EvsAt X a n c l) : EvsAt Y a n c l := by
  obtain ⟨h1, h2, h3, h4⟩ := h
  refine ⟨h1, h2, h3, ?_⟩
  rcases h4 with h0 | ⟨b, off, rfl, hb, hc⟩
  · exact .inl h0
  · exact .inr ⟨b, off, rfl, Nat.lt_of_lt_of_le hb hg.size, fun k e hk j u hj => cell_own hg hr (hc k e hk j u hj)⟩
theorem btEl_own (S : List Ev) (B B' : Nat) (pre : List Bt) (x : Bt) : OwnFrom B' (fun (_ : Unit) W => BtEl S B pre x W) := fun _ X Y row hs hg hr => by
  obtain ⟨h1, h2, h3, h4, h5, h6, h7⟩ := hs
  exact ⟨h1, h2, h3, h4, h5, h6, h7.own hg fun r e => (hr r e).2⟩
theorem EvsAt.below {B : Nat} {w w' : World} {a : Option Addr} {n c : Nat} {l : List Ev} (h : EvsAt w a n c l) (hb : Below B w w') (hB : ∀ ad, a = some ad → ad.block < B) : EvsAt w' a n c l := by
  obtain ⟨h1, h2, h3, h4⟩ := h
  refine ⟨h1, h2, h3, ?_⟩
  rcases h4 with h0 | ⟨b, off, rfl, hbl, hc⟩
  · exact .inl h0
  · have hbB : b < B := hB ⟨b, off, none⟩ rfl
    exact .inr ⟨b, off, rfl, Nat.lt_of_lt_of_le hbl hb.size, fun k e hk j u hj => (hb.cell (p := ⟨b, off + k * 7 + j, none⟩) hbB).trans (hc k e hk j u hj)⟩
theorem frm_grown {w w' : World} (h : Frm [] w w') : w.grownBy w' none := ⟨h.os, h.tape, h.output, h.size, fun k hk _ => h.block k hk (by simp)⟩
theorem Holds.rowGe {Q : World → List Nat → Prop} {B : Nat} {w0 w : World} {L : List (Nat × Obj)} {e : TypeId} {size g n c : Nat} {xs : List Value} (h : Holds B w0 (sepR (rowR e size (.slice (some ⟨g, 0, none⟩) n c) n xs) Q) w L) : B ≤ g := by
  obtain ⟨F, h, _, h2, _⟩ := h
  obtain ⟨F1, F2, ⟨_, rfl⟩, _, _, _, _, rfl⟩ := h.res
  exact h2 g (by simp [Value.ownBlock])
def lenV : Value → Nat | .slice _ n _ => n | _ => 0
def BatRel (S : List Ev) (N n₀ : Nat) (W : World) (J : List Bt → World → Prop) (rv : Value) (wr : World) : Prop :=
  ∃ (ra : Option Addr) (rn rc : Nat) (pre : List Bt), rv = .slice ra rn rc ∧ posn pre + rn = N ∧ EvsAt W ra rn rc (S.drop (posn pre)) ∧ (∀ ad, ra = some ad → ad.block < n₀) ∧ Part S (posn pre) ∧ J pre wr ∧ Below n₀ W wr

theorem clone_new (w : World) (a : Option Addr) (n cap : Nat) (l : List Ev) (hl : EvsAt w a n cap l) (h0 : 0 < n) (hn : n ≤ 400) :
    Calls Try.prog 27 #[.slice a n cap] w fun e w' => ∃ g c, e = .returned (.slice (some ⟨g, 0, none⟩) n c) ∧ w.heap.size ≤ g ∧ EvsAt w' (some ⟨g, 0, none⟩) n c l ∧ Frm [] w w' := by
  refine (clone_any w a n cap l hl hn ?_).mono fun e w' hd => ?_
  · intro ha
    subst ha
    rcases hl.2.2.2 with h | ⟨b, off, he, _⟩
    · omega
    · cases he
  · obtain ⟨a', c', rfl, h⟩ := hd
    rw [hl.1] at h ⊢
    obtain ⟨g, rfl, _, _⟩ := row_addr h.row h0
    exact ⟨g, c', rfl, h.rowGe, EvsAt.of_row h.row hl.1, Frm.of_below h.below (Nat.le_refl _)⟩

set_option maxRecDepth 100000 in
set_option maxHeartbeats 4000000 in
theorem batOne_each (bx n₀ : Nat) (a : Option Addr) (c N : Nat) (S : List Ev) (w : World) (n : Nat) (hN : S.length = N) (hN4 : N ≤ 400) (hAsc : Asc S) (hbx : bx < n₀) (hn₀ : n₀ ≤ w.heap.size) (hbc : w.cell? ⟨bx, 0, none⟩ = some (.slice a N c))
    (hsl : EvsAt w a N c S) (hab : ∀ ad, a = some ad → ad.block < n₀) (h1n' : 1 ≤ n) : SeqEach Fence.wide n Try.prog 30 #[.pointer (some ⟨bx, 0, none⟩)] btArgs (BtEl S w.heap.size) (Below n₀) (fun xs => posn xs = N) w := by
  intro l J W hb hJ hY h0
  have H1n := Lib.hid h1n'
  clear h1n'
  have hw := hb.size
  have hbc1 : W.cell? ⟨bx, 0, none⟩ = some (.slice a N c) := (hb.cell (p := ⟨bx, 0, none⟩) (by dsimp only; omega)).trans hbc
  have hst : BatRel S N n₀ W J (.slice a N c) W := ⟨a, N, c, [], rfl, by simp [posn], by simpa [posn] using hsl.below hb (fun ad h => by have := hab ad h; omega), hab, ⟨Nat.zero_le _, fun i k a b hi => absurd hi (Nat.not_lt_zero _)⟩, h0, Below.refl _ _⟩
  have Hst := Lib.hid hst
  have HJ := Lib.hid hJ
  have HY := Lib.hid hY
  have HAsc := Lib.hid hAsc
  have HN := Lib.hid hN
  clear hst hJ hY hsl hab hbc hb hAsc hN h0
  refine callsIn_of_wp Try.func30 rfl trivial ?_ rfl
  simp only [Try.ntmps30, List.size_toArray, List.length_cons, List.length_nil, Nat.reduceAdd, Nat.reduceSub, Array.replicate_succ, Array.replicate_zero, List.push_toArray, List.append_toArray, List.nil_append, List.cons_append]
  gi_wp2
  gi_loopw [3] (fun rv wr => BatRel S N n₀ W J rv wr) (fun rv _ => lenV rv)
  case atStart => exact Hst.out
  case round =>
    obtain ⟨ra, rn, rc, pre, rfl, hp, hrs, hrb, hpt, hJs, hnx⟩ := hrel
    have HP := Lib.hid hp
    have Hpt := Lib.hid hpt
    have HJs := Lib.hid hJs
    have Hnx := Lib.hid hnx
    have Hrb := Lib.hid hrb
    have Hrs := Lib.hid hrs
    have hsz := hnx.size
    clear hp hpt hJs hnx hrb hrs Hst hbc1
    by_cases hlt : 0 < rn
    · have hcur := Hrs.out.below Hnx.out Hrb.out
      have Hcur := Lib.hid hcur
      obtain ⟨b1, o1, h, rfl, hb1, hh, z0, right⟩ := hcur.at_ hlt
      simp only [Nat.zero_mul, Nat.add_zero] at z0
      have gc1 := hcur.2.1
      have hbn : b1 < n₀ := Hrb.out _ rfl
      have hrn : rn ≤ 400 := by have := HP.out; omega
      have Hh := Lib.hid hh
      have hlen := hcur.1
      have Hlen := Lib.hid hlen
      have gi0 : (0 : Int) < (rn : Int) := by omega
      have gd : decide ((rn : Int) > 0) = true := by rw [decide_eq_true_eq]; omega
      clear hcur hh hlen
      gi_wp2_with fail
      refine ⟨trivial, ?_⟩
      refine And.intro (fun h => Bool.noConfusion h) ?_
      refine callsIn_wide.2 ((tog_any _ _ _ _ _ Hcur.out hrn hlt).mono ?_)
      rintro e w2 ⟨m, rfl, hT, hf2⟩
      have hT1 := hT.1
      have hT2 : m ≤ rn := by have := hT.2.1; have := Hlen.out; omega
      have HT := Lib.hid hT
      have Hf2 := Lib.hid (hf2.drew)
      have hs2 := hf2.size
      have gm0 : (0 : Int) ≤ (m : Int) := by omega
      have gm1 : (m : Int) ≤ (rc : Int) := by omega
      have gm2 : (m : Int) ≤ (rn : Int) := by omega
      have z1 := hf2.cell z0 (by simp)
      have hm4 : m ≤ 400 := by omega
      clear hT hf2 z0
      obtain ⟨bt, hbt⟩ : ∃ bt, (S.drop (posn pre)).take m = bt := ⟨_, rfl⟩
      have hbts : EvsAt w2.drew (some ⟨b1, o1, none⟩) m rc bt := by rw [← hbt]; exact SlAt.take (enc := Ev.cells) (k := 7) (Hcur.out.frm Hf2.out) hT2
      have hbat : ∀ e ∈ bt, e.k.at_ = h.k.at_ := fun e he => by
        rw [← hbt] at he
        obtain ⟨i, hi, rfl⟩ := List.mem_iff_getElem.1 he
        rw [List.length_take] at hi
        refine (HT.out.2.2 h Hh.out).1 i _ (by omega) ?_
        rw [List.getElem_take]
        exact List.getElem?_eq_getElem _
      have hpt2 := part_more HAsc.out Hpt.out HT.out
      have hcl := clone_new w2.drew (some ⟨b1, o1, none⟩) m rc bt hbts hT1 hm4
      have z2 : w2.drew.cell? ⟨b1, o1, none⟩ = some (.int .i64 h.k.at_) := z1
      have Hbt := Lib.hid hbt
      have Hbat := Lib.hid hbat
      have Hpt2 := Lib.hid hpt2
      have Hcl := Lib.hid hcl
      have Z2 := Lib.hid z2
      have hs3 : wr.heap.size ≤ w2.drew.heap.size := Hf2.out.size
      clear hbt hbts hbat hpt2 hcl z2 right
      have f27 : Fence.wide.fn 27 := trivial
      have d1 : 1 ≤ n := H1n.out
      by_cases hmc : m < rc
      all_goals
        gi_wp2_with fail
        gi_region_with (first
          | (gi_at_call 27
             refine callsIn_wide.2 (Hcl.out.mono ?_)
             rintro e w3 ⟨g3, c3, rfl, hg3, hr3, hf3⟩
             have hfa := Hf2.out.trans hf3 (by simp)
             have hJ3 : J pre w3 := HJ.out _ _ _ none HJs.out (frm_grown hfa) (by simp)
             obtain ⟨fn, tmps, assign, body, hy, hR⟩ := HY.out pre ⟨h.k.at_, g3, m, c3, bt⟩ w3 hJ3 ⟨Hbt.out.symm, hT1, Hbat.out, Hpt.out, Hpt2.out, (by show w.heap.size ≤ g3; omega), hr3⟩
             dsimp only [btArgs] at hy
             have z3 := hf3.cell Z2.out (by simp)
             have HR := Lib.hid hR
             have Hfa := Lib.hid hfa
             clear hR hfa hf3 hr3 hJ3)
          | (refine HR.out.mono ?_
             rintro e W3 ⟨rfl, hJ4, hk4⟩
             have HJ4 := Lib.hid hJ4
             have Hk4 := Lib.hid (((Hnx.out.trans (Hfa.out.below (B := n₀) (by omega) (by simp)))).trans hk4)
             clear hJ4 hk4 hy HR z3))
        all_goals
          gi_wp2_with fail
          refine ⟨⟨_, rn - m, rc - m, pre ++ [⟨h.k.at_, g3, m, c3, bt⟩], rfl, ?_, ?_, ?_, ?_, HJ4.out, Hk4.out⟩, ?_⟩
          · rw [posn_more]
            have := HP.out
            show posn pre + m + (rn - m) = N
            omega
          · rw [posn_more]
            show EvsAt W _ (rn - m) (rc - m) (S.drop (posn pre + m))
            have e : S.drop (posn pre + m) = (S.drop (posn pre)).drop m := by simp [List.drop_drop, Nat.add_comm]
            rw [e]
            first
              | exact SlAt.drop (enc := Ev.cells) (k := 7) Hrs.out hT2
              | (have e1 : rn - m = 0 := by omega
                 have e2 : rc - m = 0 := by omega
                 rw [e1, e2, List.drop_of_length_le (by have := Hlen.out; omega)]
                 exact SlAt.nil Ev.cells 7 _ _)
          · intro ad e
            cases e
            exact hbn
          · rw [posn_more]
            exact Hpt2.out
          · simp only [lenV]
            omega
    · obtain rfl : rn = 0 := by omega
      have hp := HP.out
      gi_wp2_with fail
      go_end0
      exact ⟨⟨_, rfl⟩, pre, by omega, HJs.out⟩
end Go.Proofs.Ytagldjlaagphlaa
