/- IheapOrder, walked. -/
import Derived.Test.YtclaicpnjllhjaaHeapOpen
namespace Go.Proofs.Ytclaicpnjllhjaa
open Go.RowKit Go.Maps

def LawTrue (w : World) (e : Ending) (w' : World) : Prop := e = .returned (.bool true) ∧ Below w.heap.size w w'

set_option maxHeartbeats 1000000 in
set_option maxRecDepth 100000 in
theorem order_out (w : World) (a1 : Option Addr) (n1 c1 : Nat) (h : 60 < n1) : Calls Try.prog 5 #[.slice a1 n1 c1] w (LawTrue w) := by
  go_enter Try.func5, Try.ntmps5
  go_wp2_with fail
  refine (new_goes noneR_stable (Holds.start w)).mono ?_
  rintro e w1 ⟨rfl, h1⟩
  have H1 := Lib.hid h1
  clear h1
  go_wp2_with fail
  refine (new_goes (sepR_stable (heapR_stable _ _) noneR_stable) H1.out).mono ?_
  rintro e w2 ⟨rfl, h2⟩
  have H2 := Lib.hid h2
  clear h2 H1
  go_wp2_with fail
  refine (awake_any _).mono ?_
  rintro e w3 ⟨rfl, hf⟩
  have H3 := Lib.hid (H2.out.made (sepR_stable (heapR_stable _ _) (sepR_stable (heapR_stable _ _) noneR_stable)) (Frm.of_below hf (Nat.le_refl _)))
  clear hf H2
  go_wp2_with fail
  go_ret
  exact ⟨rfl, H3.out.below⟩

/-- What the law's own heaps hold behind i keys. -/
structure InvS (l : List Kv) (i : Nat) (S : List Ent) : Prop where
  srt : Srt S
  len : S.length ≤ i
  idx : ∀ e ∈ S, ∃ j : Nat, j < i ∧ e.v = (j : Int) ∧ l[j]? = some e.k
theorem inv_none (l : List Kv) : InvS l 0 [] := ⟨List.Pairwise.nil, Nat.le_refl _, by simp⟩
theorem InvS.there {l : List Kv} {i : Nat} {S : List Ent} (h : InvS l i S) : InvS l (i + 1) S :=
  ⟨h.srt, by have := h.len; omega, fun e he => by obtain ⟨j, hj, r⟩ := h.idx e he; exact ⟨j, by omega, r⟩⟩
theorem InvS.push {l : List Kv} {i : Nat} {S : List Ent} (h : InvS l i S) {k : Kv} (hk : l[i]? = some k) (hf : findE k S = none) : InvS l (i + 1) (insE ⟨k, (i : Int)⟩ S) := by
  refine ⟨insE_srt h.srt (findE_none hf), by rw [(insE_perm _ _).length_eq]; have := h.len; simp; omega, fun e he => ?_⟩
  rcases List.mem_cons.1 ((insE_perm _ _).mem_iff.1 he) with rfl | he
  · exact ⟨i, by omega, rfl, hk⟩
  · obtain ⟨j, hj, r⟩ := h.idx e he
    exact ⟨j, by omega, r⟩


def OrdPush (w : World) (A C n : Nat) (l : List Kv) (nv iv : Value) (wr : World) : Prop :=
  ∃ (i : Nat) (S : List Ent), i ≤ n ∧ iv = .int .i64 (i : Int) ∧ nv = .int .i64 (S.length : Int) ∧ InvS l i S ∧ Holds w.heap.size w (sepR (heapR A S) (sepR (heapR C S) noneR)) wr []

def boolCells (g : List Bool) : List Value := g.map Value.bool
theorem infoBool : (Try.prog.info? 4).map (fun i => (i.zero, i.size, i.bytes)) = some (some (.bool false), 1, 1) := by kernel_rfl
/-- Which ones were seen. -/
def Seen (n : Nat) (P : List Ent) (sn : List Bool) : Prop := sn.length = n ∧ ∀ j, j < n → sn[j]? = some (decide (∃ e ∈ P, e.v = ((j : Nat) : Int)))
theorem seen_none (n : Nat) : Seen n [] (List.replicate n false) := ⟨by simp, fun j hj => by simp [hj]⟩
theorem Seen.more {n : Nat} {P : List Ent} {sn : List Bool} (h : Seen n P sn) {x : Ent} {j : Nat} (hx : x.v = (j : Int)) (hj : j < n) : Seen n (P ++ [x]) (sn.set j true) := by
  refine ⟨by rw [List.length_set]; exact h.1, fun i hi => ?_⟩
  by_cases e : j = i
  · subst e
    rw [List.getElem?_set_self (by rw [h.1]; exact hj)]
    congr 1
    symm
    rw [decide_eq_true_eq]
    exact ⟨x, by simp, hx⟩
  · rw [List.getElem?_set_ne e, h.2 i hi]
    congr 1
    rw [decide_eq_decide]
    refine ⟨fun ⟨y, hy, ey⟩ => ⟨y, by simp [hy], ey⟩, fun ⟨y, hy, ey⟩ => ?_⟩
    rcases List.mem_append.1 hy with hy | hy
    · exact ⟨y, hy, ey⟩
    · simp at hy
      subst hy
      rw [hx] at ey
      omega
/-- The next one was not seen yet. -/
theorem Seen.not {l : List Kv} {n : Nat} {S P R : List Ent} {sn : List Bool} (h : Seen n P sn) (hi : InvS l n S) {x : Ent} (hS : S = P ++ x :: R) {j : Nat} (hx : x.v = (j : Int)) (hj : j < n) : sn[j]? = some false := by
  rw [h.2 j hj]
  congr 1
  rw [decide_eq_false_iff_not]
  rintro ⟨e, he, ev⟩
  obtain ⟨i1, _, e1, k1⟩ := hi.idx e (by rw [hS]; simp [he])
  obtain ⟨i2, _, e2, k2⟩ := hi.idx x (by rw [hS]; simp)
  have h12 : i1 = i2 := by omega
  subst h12
  rw [k1] at k2
  have hlt := (List.pairwise_append.1 (hS ▸ hi.srt : Srt (P ++ x :: R))).2.2 e he x (by simp)
  rw [Option.some.inj k2, lt_irrefl] at hlt
  cases hlt

theorem Holds.rowBox {B : Nat} {w0 w : World} {Q : World → List Nat → Prop} {L : List (Nat × Obj)} {e : TypeId} {size g n cap : Nat} {xs : List Value} (h : Holds B w0 (sepR (rowR e size (.slice (some ⟨g, 0, none⟩) n cap) n xs) Q) w L) : g < w.heap.size ∧ ∀ p ∈ L, p.1 ≠ g := by
  obtain ⟨F, h, _⟩ := h
  obtain ⟨F1, F2, ⟨_, rfl⟩, _, _, hl, _, rfl⟩ := h.res
  exact ⟨hl g (by simp [Value.ownBlock]), fun p hp e => (h.box p hp).2 (by simp [Value.ownBlock, e])⟩

abbrev popR (A C G n : Nat) (S P R : List Ent) (sn : List Bool) (a : Option Addr) (c : Nat) : World → List Nat → Prop :=
  sepR (heapR A R) (sepR (rowR 4 1 (.slice (some ⟨G, 0, none⟩) n n) n (boolCells sn)) (sepR (rowR 3 1 (.slice a P.length c) P.length (valCells P)) (sepR (heapR C S) noneR)))
theorem popR_stable (A C G n : Nat) (S P R : List Ent) (sn : List Bool) (a : Option Addr) (c : Nat) : Stable (popR A C G n S P R sn a c) :=
  sepR_stable (heapR_stable _ _) (sepR_stable (rowR_stable _ _ _ _ _) (sepR_stable (rowR_stable _ _ _ _ _) (sepR_stable (heapR_stable _ _) noneR_stable)))
def OrdPop (w : World) (A C G K n : Nat) (S : List Ent) (av iv : Value) (wr : World) : Prop :=
  ∃ (P R : List Ent) (sn : List Bool) (lk : Kv) (a : Option Addr) (c : Nat), S = P ++ R ∧ iv = .int .i64 (P.length : Int) ∧ av = .slice a P.length c ∧ Seen n P sn ∧ (∀ e ∈ P.getLast?, lk = e.k) ∧
    Holds w.heap.size w (popR A C G n S P R sn a c) wr [(K, .cells #[.int .i64 lk.at_, .int .i64 lk.src, .int .i64 lk.sent, .int .i64 lk.no] 33)]

def OrdBat (w : World) (C : Nat) (S : List Ent) (a : Option Addr) (c : Nat) (ov tv iv : Value) (wr : World) : Prop :=
  ∃ (P R : List Ent) (i : Nat) (t : Int) (a3 : Option Addr) (c3 : Nat), S = P ++ R ∧ iv = .int .i64 (i : Int) ∧ i ≤ P.length ∧ tv = .int .i64 t ∧ ov = .slice a3 P.length c3 ∧ (0 < i → ∀ y ∈ R, t < y.k.at_) ∧
    Holds w.heap.size w (sepR (rowR 3 1 (.slice a3 P.length c3) P.length (valCells P)) (sepR (heapR C R) (sepR (rowR 3 1 (.slice a S.length c) S.length (valCells S)) noneR))) wr []
def OrdIn (w : World) (C : Nat) (S P T R2 : List Ent) (a : Option Addr) (c : Nat) (a3 : Option Addr) (c3 g4 c4 : Nat) (kv : Value) (wr : World) : Prop :=
  ∃ m : Nat, m ≤ T.length ∧ kv = .int .i64 (m : Int) ∧ Holds w.heap.size w (sepR (rowR 3 1 (.slice (some ⟨g4, 0, none⟩) T.length c4) T.length (valCells T)) (sepR (heapR C R2) (sepR (rowR 3 1 (.slice a3 P.length c3) P.length (valCells P)) (sepR (rowR 3 1 (.slice a S.length c) S.length (valCells S)) noneR)))) wr []
theorem valCells_one (l : List Ent) : ∀ u ∈ valCells l, u.oneCell' = true := by
  intro u hu
  obtain ⟨x, _, rfl⟩ := List.mem_map.1 hu
  rfl
theorem lt_at {a b : Kv} (h : a.lt b = true) : a.at_ ≤ b.at_ := by rw [lt_iff] at h; omega
/-- A batch, and what is left. -/
theorem batch_facts {R : List Ent} (hs : Srt R) (hne : R ≠ []) : R = batchP R ++ batchR R ∧ batchP R ≠ [] ∧ (∀ y ∈ batchP R, y.k.at_ = timeOf R) ∧ (∀ y ∈ batchR R, timeOf R < y.k.at_) := by
  cases R with
  | nil => exact absurd rfl hne
  | cons x R =>
    have ht : timeOf (x :: R) = x.k.at_ := rfl
    have h1 : x :: R = batchP (x :: R) ++ batchR (x :: R) := (List.takeWhile_append_dropWhile).symm
    refine ⟨h1, ?_, fun y hy => ?_, fun y hy => ?_⟩
    · unfold batchP
      rw [ht]
      simp
    · have := List.all_eq_true.1 (List.all_takeWhile (p := fun y : Ent => decide (y.k.at_ = timeOf (x :: R))) (l := x :: R)) y hy
      simpa using this
    · have hx : ∀ z ∈ R, x.k.at_ ≤ z.k.at_ := fun z hz => lt_at ((srt_cons.1 hs).1 z hz)
      rw [ht]
      have hm : y ∈ x :: R := by rw [h1]; simp [hy]
      have hge : x.k.at_ ≤ y.k.at_ := by
        rcases List.mem_cons.1 hm with rfl | hm
        · exact Int.le_refl _
        · exact hx y hm
      have hsb : Srt (batchR (x :: R)) := by
        have := hs
        rw [h1] at this
        exact (List.pairwise_append.1 this).2.1
      cases hb : batchR (x :: R) with
      | nil => rw [hb] at hy; cases hy
      | cons z Z =>
        have hz : ¬ (decide (z.k.at_ = timeOf (x :: R)) = true) := by
          have := List.head?_dropWhile_not (fun y : Ent => decide (y.k.at_ = timeOf (x :: R))) (x :: R)
          unfold batchR at hb
          rw [hb] at this
          simpa using this
        have hzx : x.k.at_ ≤ z.k.at_ := by
          have hzm : z ∈ x :: R := by rw [h1, hb]; simp
          rcases List.mem_cons.1 hzm with rfl | hzm
          · exact Int.le_refl _
          · exact hx z hzm
        have hzn : z.k.at_ ≠ x.k.at_ := by rw [← ht]; simpa using hz
        rw [hb] at hy hsb
        rcases List.mem_cons.1 hy with rfl | hy
        · omega
        · have := lt_at ((srt_cons.1 hsb).1 y hy)
          omega

attribute [local go_sem high] key_neq key_guard in
set_option maxHeartbeats 4000000 in
set_option maxRecDepth 100000 in
theorem order_in (w : World) (a1 : Option Addr) (n1 c1 : Nat) (l : List Kv) (hl : SlAt keyEnc 4 w a1 n1 c1 l) (hw : ∀ k ∈ l, k.Wf) (h2 : n1 ≤ 60) :
    Calls Try.prog 5 #[.slice a1 n1 c1] w (LawTrue w) := by
  have hl1 := hl.1
  have gc1 := hl.2.1
  have Hl := Lib.hid hl
  have Hl1 := Lib.hid hl1
  have Hw := Lib.hid hw
  clear hl hl1 hw
  go_enter Try.func5, Try.ntmps5
  go_wp2_with fail
  refine (new_goes noneR_stable (Holds.start w)).mono ?_
  rintro e w1 ⟨rfl, h1⟩
  have hsz1 : w.heap.size + 1 < w1.heap.size := by
    obtain ⟨l0, _, h3⟩ := h1.heapOpen
    obtain ⟨ev, M, D, _, h4⟩ := h3.rawOpen
    exact h4.hCell0.2.2.2
  have H1 := Lib.hid h1
  clear h1
  go_wp2_with fail
  refine (new_goes (sepR_stable (heapR_stable _ _) noneR_stable) H1.out).mono ?_
  rintro e w2 ⟨rfl, h2'⟩
  have hloop : OrdPush w (w.heap.size + 1) (w1.heap.size + 1) n1 l (.int .i64 0) (.int .i64 0) w2 := ⟨0, [], Nat.zero_le _, rfl, rfl, inv_none l, h2'.conv Conv.exch⟩
  have Hloop := Lib.hid hloop
  clear hloop h2' H1 hsz1
  go_wp2_with fail
  go_loopw [5, 6] (fun nv iv wr => OrdPush w (w.heap.size + 1) (w1.heap.size + 1) n1 l nv iv wr) (fun _ iv _ => n1 - (intOf iv).toNat)
  case atStart => exact Hloop.out
  case round =>
    obtain ⟨i, S, hi, rfl, rfl, hinv, hH⟩ := hrel
    have HH := Lib.hid hH
    have Hinv := Lib.hid hinv
    have hSl := hinv.len
    clear hH Hloop hinv
    by_cases hlt : i < n1
    · have hm := Hl.out.frm (Frm.of_below HH.out.below (Nat.le_refl _))
      obtain ⟨b1, o1, k, rfl, hb1, hk, hcell⟩ := hm.at_ hlt
      have p0 := hcell 0 _ rfl
      have p1 := hcell 1 _ rfl
      have p2 := hcell 2 _ rfl
      have p3 := hcell 3 _ rfl
      simp only [Nat.add_zero] at p0
      have hkw := Hw.out k (List.mem_of_getElem? hk)
      have hwf : IntKind.i64.wrap ((i : Int) + 1) = (i : Int) + 1 := IntWalk.i64_in _ (by omega)
      have hb1w := Hl.out.2.2.2
      have hold : b1 < w.heap.size := by
        rcases hb1w with h0 | ⟨_, _, he, hb, _⟩
        · omega
        · simp only [Option.some.injEq, Addr.mk.injEq, and_true] at he; omega
      have Hkw := Lib.hid hkw
      have Hk := Lib.hid hk
      clear hm hcell hkw hk hb1w
      go_wp2_with fail
      refine (push_goes (sepR_stable (heapR_stable _ _) noneR_stable) HH.out (by omega) k (i : Int) Hkw.out).mono ?_
      rintro e w3 ⟨rfl, h3⟩
      have h3x := h3.conv Conv.exch
      replace p0 := (h3.oldCell hold).trans ((HH.out.oldCell hold).symm.trans p0)
      replace p1 := (h3.oldCell hold).trans ((HH.out.oldCell hold).symm.trans p1)
      replace p2 := (h3.oldCell hold).trans ((HH.out.oldCell hold).symm.trans p2)
      replace p3 := (h3.oldCell hold).trans ((HH.out.oldCell hold).symm.trans p3)
      have hb3 : b1 < w3.heap.size := by have := h3.le; omega
      have H3 := Lib.hid h3x
      clear h3 h3x hb1 HH
      go_wp2_with fail
      refine (push_goes (sepR_stable (heapR_stable _ _) noneR_stable) H3.out (by omega) k (i : Int) Hkw.out).mono ?_
      rintro e w4 ⟨rfl, h4⟩
      have h4x := h4.conv Conv.exch
      cases hf : findE k S with
      | none =>
        obtain ⟨e1, e2⟩ := push_none (x := ⟨k, (i : Int)⟩) hf
        simp only at e1
        rw [e2] at h4x
        rw [e1]
        have Hnew := Lib.hid (Hinv.out.push Hk.out hf)
        have hnl : (insE ⟨k, (i : Int)⟩ S).length = S.length + 1 := by rw [(insE_perm _ _).length_eq]; rfl
        have Hnl := Lib.hid hnl
        have H4 := Lib.hid h4x
        clear h4 h4x hf e1 e2 hnl p0 p1 p2 p3 H3
        go_wp2_with fail
        go_roundw
        case rel => exact ⟨i + 1, insE ⟨k, (i : Int)⟩ S, by omega, by go_num, by rw [Hnl.out]; go_num, Hnew.out, H4.out⟩
        case measure => simp [intOf]; omega
      | some y =>
        obtain ⟨e1, e2⟩ := push_some (x := ⟨k, (i : Int)⟩) hf
        simp only at e1
        rw [e2] at h4x
        rw [e1]
        have H4 := Lib.hid h4x
        clear h4 h4x hf e1 e2 p0 p1 p2 p3 H3
        go_wp2_with fail
        go_roundw
        case rel => exact ⟨i + 1, S, by omega, by go_num, rfl, Hinv.out.there, H4.out⟩
        case measure => simp [intOf]; omega
    · obtain rfl : i = n1 := by omega
      go_wp2_with (at_make; refine Stop.of ?_)
      refine Stop.go ?_
      obtain ⟨i0, hi0, hi1, hi2, hi3⟩ := info_parts infoBool
      refine wpList_make_full _ rfl _ _ 47 rfl wr.heap.size 4 i0 (.bool false) 1 Try.underlying47 hi0 hi1 hi2 .i64 .i64 _ _ i rfl rfl rfl rfl (by rw [hi3]; omega) (by unfold maxLen; omega) (Nat.le_refl _) ?_
      intro w5 hown hgrow
      have h5 := HH.out.newRow (sepR_stable (heapR_stable _ _) (sepR_stable (heapR_stable _ _) noneR_stable)) hown hgrow
      simp only [Value.cells, madeCells_one] at h5
      have hsn : List.replicate i (Value.bool false) = boolCells (List.replicate i false) := by simp [boolCells]
      rw [hsn] at h5
      have h6 := (h5.nilRow 3 1).alloc (sepR_stable (rowR_stable _ _ _ _ _) (sepR_stable (rowR_stable _ _ _ _ _) (sepR_stable (heapR_stable _ _) (sepR_stable (heapR_stable _ _) noneR_stable)))) (.cells #[.int .i64 0, .int .i64 0, .int .i64 0, .int .i64 0] 33)
      have hpop : OrdPop w (w.heap.size + 1) (w1.heap.size + 1) wr.heap.size w5.heap.size i S (.slice none 0 0) (.int .i64 0) (w5.alloc (.cells #[.int .i64 0, .int .i64 0, .int .i64 0, .int .i64 0] 33)) :=
        ⟨[], S, List.replicate i false, ⟨0, 0, 0, 0⟩, none, 0, rfl, rfl, rfl, seen_none i, by simp, h6.conv (Conv.third.trans (Conv.exch.right))⟩
      have hK : w.heap.size ≤ w5.heap.size := h5.le
      have Hpop := Lib.hid hpop
      have HK := Lib.hid hK
      clear hpop h5 h6 hown hgrow hsn hi0 hi1 hi2 hi3 HH hK
      go_wp2_with fail
      go_loopw [11, 12] (fun av iv wx => OrdPop w (w.heap.size + 1) (w1.heap.size + 1) wr.heap.size w5.heap.size i S av iv wx) (fun _ iv _ => S.length - (intOf iv).toNat)
      case atStart => exact Hpop.out
      case round =>
        rename World => wx
        obtain ⟨P, R, sn, lk, a, c, hSP, rfl, rfl, hseen, hlast, hH⟩ := hrel
        have hPl : P.length + R.length = S.length := by rw [hSP, List.length_append]
        have HH := Lib.hid hH
        have HSP := Lib.hid hSP
        have Hseen := Lib.hid hseen
        have Hlast := Lib.hid hlast
        clear hH hSP hseen hlast Hpop
        cases R with
        | cons x R =>
          simp only [List.length_cons] at hPl
          have d1 : decide ((P.length : Int) < (S.length : Int)) = true := by rw [decide_eq_true_eq]; omega
          have d2 : decide (P.length < S.length) = true := by rw [decide_eq_true_eq]; omega
          go_wp2_with fail
          refine (pop_goes (sepR_stable (rowR_stable _ _ _ _ _) (sepR_stable (rowR_stable _ _ _ _ _) (sepR_stable (heapR_stable _ _) noneR_stable))) HH.out (by simp; omega)).mono ?_
          rintro e w6 ⟨rfl, h7⟩
          dsimp only [firstT, firstE, firstErr, List.tail_cons]
          obtain ⟨j, hj, hv, hlk⟩ := Hinv.out.idx x (by rw [HSP.out]; simp)
          have hns := Hseen.out.not Hinv.out HSP.out hv hj
          have hltx : ∀ y ∈ P.getLast?, lk.lt x.k = true := fun y hy => by
            rw [Hlast.out y hy]
            have hym : y ∈ P := List.mem_of_getLast? hy
            exact (List.pairwise_append.1 (HSP.out ▸ Hinv.out.srt : Srt (P ++ x :: R))).2.2 y hym x (by simp)
          obtain ⟨xk, xv⟩ := x
          simp only at hv hlk hltx ⊢
          subst hv
          have hsl : sn.length = i := Hseen.out.1
          have Hlk := Lib.hid hlk
          have hs7 := popR_stable (w.heap.size + 1) (w1.heap.size + 1) wr.heap.size i S P R sn a c
          have h8 := h7.alloc hs7 (.cells #[.int .i64 xk.at_, .int .i64 xk.src, .int .i64 xk.sent, .int .i64 xk.no] 33)
          have hfe := Frm.refl [] w6
          have hm := Hl.out.frm (Frm.of_below h8.below (Nat.le_refl _))
          obtain ⟨b1, o1, k1, rfl, hb1, hk1, hcell⟩ := hm.at_ hj
          rw [hlk] at hk1
          obtain rfl := Option.some.inj hk1
          have p0 := hcell 0 _ rfl
          have p1 := hcell 1 _ rfl
          have p2 := hcell 2 _ rfl
          have p3 := hcell 3 _ rfl
          simp only [Nat.add_zero] at p0
          obtain ⟨q0, q1, q2, q3⟩ := cells4 (h8.box (k := w6.heap.size) (o := .cells #[.int .i64 xk.at_, .int .i64 xk.src, .int .i64 xk.sent, .int .i64 xk.no] 33) (by simp))
          obtain ⟨r0, r1, r2, r3⟩ := cells4 (h8.box (k := w5.heap.size) (o := .cells #[.int .i64 lk.at_, .int .i64 lk.src, .int .i64 lk.sent, .int .i64 lk.no] 33) (by simp))
          have s0 : (w6.alloc (.cells #[.int .i64 xk.at_, .int .i64 xk.src, .int .i64 xk.sent, .int .i64 xk.no] 33)).cell? ⟨wr.heap.size, j, none⟩ = some (.bool false) := by
            have hrw := (h8.conv Conv.exch).row
            rw [hrw.cellAt j (by omega)]
            simp [boolCells, hns]
          obtain ⟨y0, y1⟩ := (h7.conv Conv.exch).rowBox
          have y2 := y1 (w5.heap.size, _) (List.mem_singleton.2 rfl)
          have y3 := Ne.symm y2
          have y4 := lt_of_obj (h7.box (k := w5.heap.size) (o := .cells #[.int .i64 lk.at_, .int .i64 lk.src, .int .i64 lk.sent, .int .i64 lk.no] 33) (by simp))
          have y5 := Nat.ne_of_lt y0
          have y6 := Nat.ne_of_lt y4
          dsimp only at y2 y3
          have fz0 : (w6.alloc (.cells #[.int .i64 xk.at_, .int .i64 xk.src, .int .i64 xk.sent, .int .i64 xk.no] 33)).frozen? ⟨wr.heap.size, j, none⟩ = false := ((h8.conv Conv.exch).row).frozenAt j
          have fz1 : ∀ m, (w6.alloc (.cells #[.int .i64 xk.at_, .int .i64 xk.src, .int .i64 xk.sent, .int .i64 xk.no] 33)).frozen? ⟨w5.heap.size, m, none⟩ = false := fun m => frozen_of_obj (h8.box (k := w5.heap.size) (o := .cells #[.int .i64 lk.at_, .int .i64 lk.src, .int .i64 lk.sent, .int .i64 lk.no] 33) (by simp)) m
          have z0 := World.block_lt_of_cell? _ _ p0
          have z1 := World.block_lt_of_cell? _ _ q0
          have z2 := World.block_lt_of_cell? _ _ r0
          have z3 := World.block_lt_of_cell? _ _ s0
          dsimp only at z0 z1 z2 z3
          have j0 : (0 : Int) ≤ (j : Int) := by omega
          have j1 : (j : Int) < (i : Int) := by omega
          have d3 : decide ((j : Int) < 0) = false := by rw [decide_eq_false_iff_not]; omega
          have d4 : decide ((j : Int) ≥ (i : Int)) = false := by rw [decide_eq_false_iff_not]; omega
          have d4' : decide (i ≤ j) = false := by rw [decide_eq_false_iff_not]; omega
          have dk : decide (xk = xk) = true := by simp
          have H8 := Lib.hid h8
          clear h7 h8 hm hcell hk1 hlk hns hfe hsl hb1 HH y1
          obtain ⟨bx, hbx⟩ : ∃ o, o = Obj.cells #[.int .i64 xk.at_, .int .i64 xk.src, .int .i64 xk.sent, .int .i64 xk.no] 33 := ⟨_, rfl⟩
          have hcm := compare_any lk xk
          cases hg : P.getLast?
          case' some y =>
            have hlt := hltx y hg
            have hPp : 0 < P.length := by
              cases P with
              | nil => simp at hg
              | cons _ _ => simp
            have dg : decide ((P.length : Int) > 0) = true := by rw [decide_eq_true_eq]; omega
            have dg' : decide (0 < P.length) = true := by rw [decide_eq_true_eq]; omega
            rw [cmp_lt hlt] at hcm
            have Hcm := Lib.hid hcm
            have Hbx := Lib.hid hbx
            clear hltx hcm hbx hPp hg hlt
            go_wp2_with fail
            first
              | go_region_held3 (fun w' => w'.cell? ⟨wr.heap.size, j, none⟩ = some (.bool false) ∧ w'.cell? ⟨b1, o1 + j * 4, none⟩ = some (.int .i64 xk.at_) ∧ w'.cell? ⟨b1, o1 + j * 4 + 1, none⟩ = some (.int .i64 xk.src) ∧ w'.cell? ⟨b1, o1 + j * 4 + 2, none⟩ = some (.int .i64 xk.sent) ∧ w'.cell? ⟨b1, o1 + j * 4 + 3, none⟩ = some (.int .i64 xk.no) ∧
                  w'.cell? ⟨w6.heap.size, 0, none⟩ = some (.int .i64 xk.at_) ∧ w'.cell? ⟨w6.heap.size, 1, none⟩ = some (.int .i64 xk.src) ∧ w'.cell? ⟨w6.heap.size, 2, none⟩ = some (.int .i64 xk.sent) ∧ w'.cell? ⟨w6.heap.size, 3, none⟩ = some (.int .i64 xk.no) ∧
                  w'.cell? ⟨w5.heap.size, 0, none⟩ = some (.int .i64 lk.at_) ∧ w'.cell? ⟨w5.heap.size, 1, none⟩ = some (.int .i64 lk.src) ∧ w'.cell? ⟨w5.heap.size, 2, none⟩ = some (.int .i64 lk.sent) ∧ w'.cell? ⟨w5.heap.size, 3, none⟩ = some (.int .i64 lk.no))
                (first | go_keep | exact ⟨hf.cell s0 (by simp), hf.cell p0 (by simp), hf.cell p1 (by simp), hf.cell p2 (by simp), hf.cell p3 (by simp), hf.cell q0 (by simp), hf.cell q1 (by simp), hf.cell q2 (by simp), hf.cell q3 (by simp), hf.cell r0 (by simp), hf.cell r1 (by simp), hf.cell r2 (by simp), hf.cell r3 (by simp)⟩)
                ((go_at_call 19; refine (Hcm.out _).mono ?_; rintro e W ⟨rfl, hf⟩))
              | fail
            have h9 := (show Holds w.heap.size w (popR (w.heap.size + 1) (w1.heap.size + 1) wr.heap.size i S P R sn a c) W _ from by first | exact H8.out.made hs7 hf | exact (H8.out.drew hs7).made hs7 hf)
            rw [← Hbx.out] at h9
            have H9 := Lib.hid h9
            clear h9 H8 hf p0 p1 p2 p3 q0 q1 q2 q3 r0 r1 r2 r3 s0 fz0 fz1 z0 z1 z2 z3 y0 y2 y3 y4 y5 y6 dg dg' Hcm
          case' none =>
            have hP0 : P = [] := List.getLast?_eq_none_iff.1 hg
            have dg : decide ((P.length : Int) > 0) = false := by rw [hP0]; rfl
            have dg' : decide (0 < P.length) = false := by rw [hP0]; rfl
            have Hbx := Lib.hid hbx
            clear hltx hcm hbx hP0 hg
            go_wp2_with fail
            go_quiet (fail)
            have h9 := H8.out.drewN hs7 nq
            rw [← Hbx.out] at h9 ⊢
            generalize (w6.alloc bx).drewN nq = W at h9 ⊢
            have H9 := Lib.hid h9
            clear h9 H8 p0 p1 p2 p3 q0 q1 q2 q3 r0 r1 r2 r3 s0 fz0 fz1 z0 z1 z2 z3 y0 y2 y3 y4 y5 y6 dg dg'
          all_goals
            have h9 := H9.out
            obtain ⟨y0, y1⟩ := (h9.conv Conv.exch).rowBox
            have y2 := y1 (w5.heap.size, _) (List.mem_cons_of_mem _ (List.mem_singleton.2 rfl))
            have y7 := y1 (w6.heap.size, _) (List.mem_cons_self)
            dsimp only at y2 y7
            have y3 := Ne.symm y2
            have y8 := Ne.symm y7
            have hb6 := h9.box (k := w6.heap.size) (o := bx) (by simp)
            rw [Hbx.out] at hb6
            have hb5 := h9.box (k := w5.heap.size) (o := .cells #[.int .i64 lk.at_, .int .i64 lk.src, .int .i64 lk.sent, .int .i64 lk.no] 33) (by simp)
            obtain ⟨q0, q1, q2, q3⟩ := cells4 hb6
            obtain ⟨r0, r1, r2, r3⟩ := cells4 hb5
            have hrw := (h9.conv Conv.exch).row
            have s0 : W.cell? ⟨wr.heap.size, j, none⟩ = some (.bool false) := by
              rw [hrw.cellAt j (by have := Hseen.out.1; omega)]
              simp [boolCells, Seen.not Hseen.out Hinv.out HSP.out rfl hj]
            have fz0 : W.frozen? ⟨wr.heap.size, j, none⟩ = false := hrw.frozenAt j
            have fz1 : ∀ m, W.frozen? ⟨w5.heap.size, m, none⟩ = false := fun m => frozen_of_obj hb5 m
            have z1 := World.block_lt_of_cell? _ _ q0
            have z2 := World.block_lt_of_cell? _ _ r0
            dsimp only at z1 z2
            have hB := (h9.conv Conv.exch).stored (sepR_stable (heapR_stable _ _) (sepR_stable (rowR_stable _ _ _ _ _) (sepR_stable (heapR_stable _ _) noneR_stable))) j (.bool true)
            have hsB : Stable (sepR (rowR 4 1 (.slice (some ⟨wr.heap.size, 0, none⟩) i i) i ((boolCells sn).set j (.bool true))) (sepR (heapR (w.heap.size + 1) R) (sepR (rowR 3 1 (.slice a P.length c) P.length (valCells P)) (sepR (heapR (w1.heap.size + 1) S) noneR)))) :=
              sepR_stable (rowR_stable _ _ _ _ _) (sepR_stable (heapR_stable _ _) (sepR_stable (rowR_stable _ _ _ _ _) (sepR_stable (heapR_stable _ _) noneR_stable)))
            have hC := (hB.sub (M := [(w5.heap.size, .cells #[.int .i64 lk.at_, .int .i64 lk.src, .int .i64 lk.sent, .int .i64 lk.no] 33)]) (fun p hp => List.mem_cons_of_mem _ hp)).refill4 hsB HK.out (by simp) (.int .i64 xk.at_) (.int .i64 xk.src) (.int .i64 xk.sent) (.int .i64 xk.no)
            have hD := (hC.made hsB ((Frm.refl _ _).alloc (.cells #[.int .i64 (j : Int)] 3))).conv Conv.third
            have HD := Lib.hid hD
            have hset : (boolCells sn).set j (.bool true) = boolCells (sn.set j true) := by simp [boolCells, List.map_set]
            have Hset := Lib.hid hset
            clear h9 hb6 hb5 hrw hB hC hD hset H9 y1
            go_wp2_with (at_builtin; refine Stop.of ?_)
            refine Stop.go ?_
            obtain ⟨i1, hj0, hj1, hj2, hj3⟩ := info_parts infoInt
            refine wpList_append_foot _ rfl _ _ 48 rfl 3 i1 (.int .i64 0) 1 8 Try.underlying48 hj0 hj1 hj2 hj3 rfl (by decide) (.slice a P.length c) P.length (valCells P) rfl HD.out.row ⟨_, 0, none⟩ 1 1 [.int .i64 (j : Int)] rfl rfl (cells_at _ _ _ _ (by simp)) (by simp [Value.oneCell']) (by unfold maxLen; omega) (by omega) ?_
            intro a3 c3 w8 hown hF hnew
            have h10 := HD.out.appended (sepR_stable (rowR_stable _ _ _ _ _) (sepR_stable (heapR_stable _ _) (sepR_stable (heapR_stable _ _) noneR_stable))) hown hF hnew
            have H10 := Lib.hid (h10.conv (Conv.third.trans Conv.exch.right))
            clear hown hF hnew h10 hj0 hj1 hj2 hj3 HD
            go_wp2_with fail
            go_roundw
            case rel =>
              refine ⟨P ++ [⟨xk, (j : Int)⟩], R, sn.set j true, xk, a3, c3, by rw [HSP.out]; simp, by simp, by simp, Hseen.out.more rfl hj, by simp, ?_⟩
              have h11 := H10.out
              rw [Hset.out] at h11
              unfold popR
              rw [valCells_append, List.length_append]
              exact h11
            case measure => simp [intOf]; omega
        | nil =>
          simp only [List.append_nil] at HSP
          obtain rfl := HSP.out
          have d1 : decide ((S.length : Int) < (S.length : Int)) = false := by simp
          have d2 : decide (S.length < S.length) = false := by simp
          go_wp2_with fail
          refine (pop_goes (sepR_stable (rowR_stable _ _ _ _ _) (sepR_stable (rowR_stable _ _ _ _ _) (sepR_stable (heapR_stable _ _) noneR_stable))) HH.out (by simp)).mono ?_
          rintro e w6 ⟨rfl, h7⟩
          dsimp only [firstT, firstE, firstErr, List.tail_nil]
          have h8 := (h7.drop.drop.sub (M := []) (by simp)).made (sepR_stable (rowR_stable _ _ _ _ _) (sepR_stable (heapR_stable _ _) noneR_stable)) ((Frm.refl _ _).alloc (.cells #[.int .i64 0, .int .i64 0, .int .i64 0, .int .i64 0] 33))
          have h9 := (h8.nilRow 3 1).conv (Conv.exch.right)
          have hbat : OrdBat w (w1.heap.size + 1) S a c (.slice none 0 0) (.int .i64 0) (.int .i64 0) (w6.alloc (.cells #[.int .i64 0, .int .i64 0, .int .i64 0, .int .i64 0] 33)) :=
            ⟨[], S, 0, 0, none, 0, rfl, rfl, Nat.le_refl _, rfl, rfl, fun h => absurd h (by omega), h9⟩
          have Hbat := Lib.hid hbat
          clear h7 h8 h9 hbat HH d1 d2 Hseen Hlast
          go_wp2_with fail
          go_loopw [19, 20, 21] (fun ov tv iv wx => OrdBat w (w1.heap.size + 1) S a c ov tv iv wx) (fun _ _ iv _ => S.length - (intOf iv).toNat)
          case atStart => exact Hbat.out
          case round =>
            rename World => wy
            obtain ⟨P, R, k, t, a3, c3, hSP, rfl, hkP, rfl, rfl, htR, hH⟩ := hrel
            have hPl : P.length + R.length = S.length := by rw [hSP, List.length_append]
            have HH := Lib.hid hH
            have HSP := Lib.hid hSP
            have HtR := Lib.hid htR
            clear hH hSP htR Hbat
            cases R with
            | cons x R =>
              generalize hRR : x :: R = R0 at *
              have hR0 : R0 ≠ [] := by rw [← hRR]; simp
              have hR0l : 0 < R0.length := List.length_pos_iff.2 hR0
              have hxR : x ∈ R0 := by rw [← hRR]; simp
              have htx : timeOf R0 = x.k.at_ := by rw [← hRR]; rfl
              have hfe : firstErr R0 = 0 := by rw [← hRR]; rfl
              have hsR : Srt R0 := (List.pairwise_append.1 (HSP.out ▸ Hinv.out.srt : Srt (P ++ R0))).2.1
              obtain ⟨bf1, bf2, bf3, bf4⟩ := batch_facts hsR hR0
              rw [htx] at bf3 bf4
              have hlt3 : 0 < k → t < x.k.at_ := fun hk => HtR.out hk x hxR
              have d1 : decide ((k : Int) < (S.length : Int)) = true := by rw [decide_eq_true_eq]; omega
              have d2 : decide (k < S.length) = true := by rw [decide_eq_true_eq]; omega
              have d3 : decide ((R0.length : Int) > 0) = true := by rw [decide_eq_true_eq]; omega
              have d4 : decide (0 < R0.length) = true := by rw [decide_eq_true_eq]; exact hR0l
              have hb := batch_goes (sepR_stable (rowR_stable _ _ _ _ _) (sepR_stable (rowR_stable _ _ _ _ _) noneR_stable)) (HH.out.conv Conv.exch) (by omega)
              have HR0 := Lib.hid hRR
              clear hRR hR0 hxR hsR hb
              have Htx := Lib.hid htx
              have Hfe := Lib.hid hfe
              have Hb1 := Lib.hid bf1
              have Hb3 := Lib.hid bf3
              have Hb4 := Lib.hid bf4
              have hTl : 0 < (batchP R0).length := List.length_pos_iff.2 bf2
              have hTR : (batchP R0).length + (batchR R0).length = R0.length := by rw [← List.length_append, ← bf1]
              clear htx hfe bf1 bf2 bf3 bf4
              go_wp2_with fail
              refine (len_goes (sepR_stable (rowR_stable _ _ _ _ _) (sepR_stable (rowR_stable _ _ _ _ _) noneR_stable)) (HH.out.conv Conv.exch)).mono ?_
              rintro e w7 ⟨rfl, h7⟩
              have H7 := Lib.hid h7
              clear h7 HH
              go_wp2_with fail
              refine (batch_goes (sepR_stable (rowR_stable _ _ _ _ _) (sepR_stable (rowR_stable _ _ _ _ _) noneR_stable)) H7.out (by omega)).mono ?_
              rintro e w8 ⟨a4, c4, he, h8⟩
              rw [Htx.out, Hfe.out] at he
              subst he
              generalize hT : batchP R0 = T at *
              generalize hR2 : batchR R0 = R2 at *
              clear hT hR2
              have h8r := h8.row
              obtain ⟨g4, cc, hv4, hg4, hn4, hc4⟩ := row_some h8r hTl
              simp only [Value.slice.injEq] at hv4
              obtain ⟨rfl, _, rfl⟩ := hv4
              have hin : OrdIn w (w1.heap.size + 1) S P T R2 a c a3 c3 g4 c4 (.int .i64 0) w8 := ⟨0, Nat.zero_le _, rfl, h8⟩
              have Hin := Lib.hid hin
              have d5 : ((T.length : Int) == 0) = false := by rw [beq_eq_false_iff_ne]; omega
              have d6 : (T.length == 0) = false := by rw [beq_eq_false_iff_ne]; omega
              clear h8 h8r H7 hin
              have hgd : ∃ bk : Bool, decide ((k : Int) > 0) = bk ∧ decide (0 < k) = bk ∧ (bk = true → decide (x.k.at_ ≤ t) = false) := by
                by_cases h0 : 0 < k
                · exact ⟨true, by rw [decide_eq_true_eq]; omega, by rw [decide_eq_true_eq]; exact h0, fun _ => by rw [decide_eq_false_iff_not]; have := hlt3 h0; omega⟩
                · exact ⟨false, by rw [decide_eq_false_iff_not]; omega, by rw [decide_eq_false_iff_not]; exact h0, fun h => by cases h⟩
              obtain ⟨bk, g1, g2, g3⟩ := hgd
              clear hlt3
              cases bk
              case' true =>
                have g4' := g3 rfl
                clear g3
                go_wp2_with fail
              case' false =>
                clear g3
                go_wp2_with fail
              all_goals
                go_loopw [25] (fun kv wz => OrdIn w (w1.heap.size + 1) S P T R2 a c a3 c3 g4 c4 kv wz) (fun kv _ => T.length - (intOf kv).toNat)
                case atStart => exact Hin.out
                case round =>
                  rename World => wz
                  obtain ⟨m, hm, rfl, hH⟩ := hrel
                  have HI := Lib.hid hH
                  clear hH Hin
                  by_cases hlt4 : m < T.length
                  · obtain ⟨y, hy⟩ : ∃ y, T[m]? = some y := ⟨_, List.getElem?_eq_getElem hlt4⟩
                    have hyT := List.mem_of_getElem? hy
                    obtain ⟨j, hj, hv, hlk⟩ := Hinv.out.idx y (by rw [HSP.out, Hb1.out]; simp [hyT])
                    have hya := Hb3.out y hyT
                    obtain ⟨yk, yv⟩ := y
                    simp only at hv hlk hya
                    subst hv
                    have hrw := HI.out.row
                    have s0 : wz.cell? ⟨g4, m, none⟩ = some (.int .i64 (j : Int)) := by
                      rw [hrw.cellAt m (by omega)]
                      simp [valCells, hy]
                    have hmm := Hl.out.frm (Frm.of_below HI.out.below (Nat.le_refl _))
                    obtain ⟨b1, o1, k1, rfl, hb1, hk1, hcell⟩ := hmm.at_ hj
                    rw [hlk] at hk1
                    obtain rfl := Option.some.inj hk1
                    have p0 := hcell 0 _ rfl
                    simp only [Nat.add_zero] at p0
                    rw [hya] at p0
                    have j0 : (0 : Int) ≤ (j : Int) := by omega
                    have j1 : (j : Int) < (i : Int) := by omega
                    have m0 : (0 : Int) ≤ (m : Int) := by omega
                    have m1 : (m : Int) < (T.length : Int) := by omega
                    have d7 : decide ((j : Int) < 0) = false := by rw [decide_eq_false_iff_not]; omega
                    have d8 : decide ((j : Int) ≥ (i : Int)) = false := by rw [decide_eq_false_iff_not]; omega
                    have d8' : decide (i ≤ j) = false := by rw [decide_eq_false_iff_not]; omega
                    have d9 : (x.k.at_ != x.k.at_) = false := by simp
                    clear hy hyT hlk hya hrw hmm hk1 hcell
                    go_wp2_with fail
                    go_roundw
                    case rel => exact ⟨m + 1, by omega, by go_num, HI.out⟩
                    case measure => simp [intOf]; omega
                  · obtain rfl : m = T.length := by omega
                    have hnews := HI.out.row.cells (g := g4) rfl
                    have H9 := Lib.hid (HI.out.conv Conv.third)
                    have Hnews := Lib.hid hnews
                    clear hnews
                    have hkw : IntKind.i64.wrap ((k : Int) + 1) = (k : Int) + 1 := IntWalk.i64_in _ (by omega)
                    go_wp2_with (at_builtin; refine Stop.of ?_)
                    refine Stop.go ?_
                    obtain ⟨i1, hj0, hj1, hj2, hj3⟩ := info_parts infoInt
                    refine wpList_append_foot _ rfl _ _ 48 rfl 3 i1 (.int .i64 0) 1 8 Try.underlying48 hj0 hj1 hj2 hj3 rfl (by decide) (.slice a3 P.length c3) P.length (valCells P) rfl H9.out.row ⟨g4, 0, none⟩ T.length c4 (valCells T) rfl (by simp [valCells]) Hnews.out (valCells_one T) (by unfold maxLen; omega) (by omega) ?_
                    intro a5 c5 w9 hown hF hnew
                    have h10 := H9.out.appended (sepR_stable (rowR_stable _ _ _ _ _) (sepR_stable (heapR_stable _ _) (sepR_stable (rowR_stable _ _ _ _ _) noneR_stable))) hown hF hnew
                    have H10 := Lib.hid ((h10.conv Conv.exch).drop)
                    clear hown hF hnew h10 hj0 hj1 hj2 hj3 H9 Hnews HI
                    go_wp2_with fail
                    go_roundw
                    case rel =>
                      refine ⟨P ++ T, R2, k + 1, x.k.at_, a5, c5, by rw [HSP.out, Hb1.out, List.append_assoc], by go_num, by rw [List.length_append]; omega, rfl, by rw [List.length_append], fun _ => Hb4.out, ?_⟩
                      rw [valCells_append, List.length_append]
                      exact H10.out
                    case measure => simp [intOf]; omega
            | nil =>
              simp only [List.append_nil] at HSP
              obtain rfl := HSP.out
              have hc := fun (W : World) (hr1 : W.ownsRow 0 3 1 (.slice a S.length c) S.length (valCells S)) (hr2 : W.ownsRow 0 3 1 (.slice a3 S.length c3) S.length (valCells S)) =>
                ints_any W a S.length c (S.map Ent.v) a3 S.length c3 (S.map Ent.v) (SlAt.of_row intEnc_len (by rw [← valCells_flat]; exact hr1) (by simp)) (SlAt.of_row intEnc_len (by rw [← valCells_flat]; exact hr2) (by simp)) (by omega)
              rw [show decide (S.map Ent.v = S.map Ent.v) = true by simp] at hc
              have Hc := Lib.hid hc
              have hs3 : Stable (sepR (heapR (w1.heap.size + 1) []) (sepR (rowR 3 1 (.slice a3 S.length c3) S.length (valCells S)) (sepR (rowR 3 1 (.slice a S.length c) S.length (valCells S)) noneR))) := sepR_stable (heapR_stable _ _) (sepR_stable (rowR_stable _ _ _ _ _) (sepR_stable (rowR_stable _ _ _ _ _) noneR_stable))
              have H9 := Lib.hid (HH.out.conv Conv.exch)
              clear hc HH
              by_cases hkn : k < S.length
              case' pos =>
                have d1 : decide ((k : Int) < (S.length : Int)) = true := by rw [decide_eq_true_eq]; omega
                have d2 : decide (k < S.length) = true := by rw [decide_eq_true_eq]; omega
                go_wp2_with fail
                refine (len_goes (sepR_stable (rowR_stable _ _ _ _ _) (sepR_stable (rowR_stable _ _ _ _ _) noneR_stable)) H9.out).mono ?_
                rintro e w7 ⟨rfl, h7⟩
                have H7 := Lib.hid h7
                clear h7 H9
                dsimp only [List.length_nil]
              case' neg =>
                have d1 : decide ((k : Int) < (S.length : Int)) = false := by rw [decide_eq_false_iff_not]; omega
                have d2 : decide (k < S.length) = false := by rw [decide_eq_false_iff_not]; omega
                have H7 := H9
                clear H9
              all_goals
                have h7 := H7.out
                have hr1 := (h7.conv Conv.third).row
                have hr2 := (h7.conv Conv.exch).row
                have Hints := Lib.hid (Hc.out _ hr1 hr2)
                clear h7 hr1 hr2 Hc
                go_wp2_with fail
                refine Hints.out.mono ?_
                rintro e w8 ⟨rfl, hf⟩
                have H8 := Lib.hid (H7.out.made hs3 hf)
                clear hf Hints H7
                go_wp2_with fail
                refine (len_goes (sepR_stable (rowR_stable _ _ _ _ _) (sepR_stable (rowR_stable _ _ _ _ _) noneR_stable)) H8.out).mono ?_
                rintro e w9 ⟨rfl, h9⟩
                have H9 := Lib.hid h9
                clear h9 H8
                dsimp only [List.length_nil]
                go_wp2_with fail
                refine (awake_any _).mono ?_
                rintro e w10 ⟨rfl, hf⟩
                have H10 := Lib.hid (H9.out.made hs3 (Frm.of_below hf (Nat.le_refl _)))
                clear hf H9
                go_wp2_with fail
                go_ret
                exact ⟨rfl, H10.out.below⟩
end Go.Proofs.Ytclaicpnjllhjaa
