/- IheapTimes, walked. -/
import Derived.Test.YtclaicpnjllhjaaHeapSame
import Derived.Test.YtclaicpnjllhjaaHeapRefP
import Derived.Test.YtclaicpnjllhjaaHeapOrd
namespace Go.Proofs.Ytclaicpnjllhjaa
open Go.RowKit Go.Maps Go.Shelf
attribute [local go_sem] Oper.semAt_some

def TimPush (w : World) (A C n : Nat) (l : List Kv) (iv : Value) (wr : World) : Prop :=
  ∃ (i : Nat) (S : List Ent), i ≤ n ∧ iv = .int .i64 (i : Int) ∧ InvS l i S ∧ (0 < i → S ≠ []) ∧ Holds w.heap.size w (sepR (heapR A S) (sepR (refR C S) noneR)) wr [(w.heap.size, .cells #[.bool false] 4)]

/-- A thing that is ahead of all goes in front. -/
theorem push_front {x : Ent} {T : List Ent} (h : ∀ y ∈ T, x.k.lt y.k = true) : pushE x.k T = 0 ∧ pushS x T = x :: T := by
  have hf : findE x.k T = none := by
    unfold findE
    rw [List.find?_eq_none]
    intro y hy hd
    have := h y hy
    rw [show y.k = x.k by simpa using hd, lt_irrefl] at this
    cases this
  obtain ⟨e1, e2⟩ := push_none (x := x) hf
  refine ⟨e1, ?_⟩
  rw [e2]
  cases T with
  | nil => rfl
  | cons y T =>
    rw [insE_cons, if_neg (by rw [lt_asymm (h y (by simp))]; simp)]
theorem Holds.allFacts {B : Nat} {w0 w : World} {X : World → List Nat → Prop} {L : List (Nat × Obj)} {bx : Nat} {a : Option Addr} {c : Nat} {S : List Ent} (h : Holds B w0 (sepR (boxR bx #[.slice a S.length c] 62) (sepR (rowR 68 5 (.slice a S.length c) S.length (flat Ent.cells S)) X)) w L) :
    w.cell? ⟨bx, 0, none⟩ = some (.slice a S.length c) ∧ bx < w.heap.size ∧ SlAt Ent.cells 5 w a S.length c S ∧ ∀ ad, a = some ad → ad.block < w.heap.size := by
  have h1 := h.theBox
  have h2 := h.drop.row
  refine ⟨cells1 h1, lt_of_obj h1, SlAt.of_row ent_len h2 rfl, fun ad ha => ?_⟩
  subst ha
  rcases row_nil_or h2 with ⟨hv, _⟩ | ⟨g, cc, hv, hg, _⟩
  · simp at hv
  · simp only [Value.slice.injEq, Option.some.injEq] at hv
    rw [hv.1]; exact hg
theorem valAt {w : World} {e : TypeId} {g n cap j : Nat} {P : List Ent} {x : Ent} (h : w.ownsRow 0 e 1 (.slice (some ⟨g, 0, none⟩) n cap) n (valCells P)) (hn : P.length = n) (hx : P[j]? = some x) : w.cell? ⟨g, j, none⟩ = some (.int .i64 x.v) := by
  have hj := (List.getElem?_eq_some_iff.1 hx).1
  rw [h.cellAt j (by omega)]
  simp [valCells, hx]
/-- What the last loop has done, but for the first j of the batch. -/
def TimBack (w : World) (A C : Nat) (S P R : List Ent) (a5 : Option Addr) (c5 : Nat) (L : List (Nat × Obj)) (iv : Value) (wr : World) : Prop :=
  ∃ (j : Nat) (z : Int), j ≤ P.length ∧ z = (j : Int) - 1 ∧ iv = .int .i64 z ∧ Holds w.heap.size w (sepR (heapR A (P.drop j ++ R)) (sepR (rowR 3 1 (.slice a5 P.length c5) P.length (valCells P)) (sepR (refR C S) noneR))) wr L

set_option maxHeartbeats 8000000 in
set_option maxRecDepth 100000 in
theorem times_in (w : World) (a1 : Option Addr) (n1 c1 : Nat) (l : List Kv) (hl : SlAt keyEnc 4 w a1 n1 c1 l) (hw : ∀ k ∈ l, k.Wf) (h0 : 0 < n1) (h2 : n1 ≤ 40) :
    Calls Try.prog 8 #[.slice a1 n1 c1] w (LawTrue w) := by
  have hl1 := hl.1
  have gc1 := hl.2.1
  have Hl := Lib.hid hl
  have Hl1 := Lib.hid hl1
  have Hw := Lib.hid hw
  clear hl hl1 hw
  refine (callsIn_wide (n := 3)).1 ?_
  refine callsIn_of_wp_marks Try.func8 rfl trivial ?_ rfl
  simp only [Try.ntmps8, List.size_toArray, List.length_cons, List.length_nil, Nat.reduceAdd, Nat.reduceSub, Array.replicate_succ, Array.replicate_zero, List.push_toArray, List.append_toArray, List.nil_append, List.cons_append]
  refine wpIn_wide.2 ?_
  have H0 := Lib.hid ((Holds.start w).alloc noneR_stable (.cells #[.bool false] 4))
  go_wp2_with fail
  refine (new_goes noneR_stable H0.out).mono ?_
  rintro e w1 ⟨rfl, h1⟩
  obtain ⟨A, hA⟩ : ∃ A, (w.alloc (.cells #[.bool false] 4)).heap.size + 1 = A := ⟨_, rfl⟩
  rw [hA] at h1 ⊢
  have hsA := sepR_stable (heapR_stable A []) noneR_stable
  have h3 := ((h1.newBox hsA #[.slice none 0 0] 30).nilRow 42 5).toRead ent_len (l := []) rfl
  have h4 := ((h3.conv Conv.exch).refShut (S := [])).conv Conv.exch
  obtain ⟨C, hC⟩ : ∃ C, w1.heap.size = C := ⟨_, rfl⟩
  rw [hC] at h4
  have hloop : TimPush w A C n1 l (.int .i64 0) (w1.alloc (.cells #[.slice none 0 0] 30)) := ⟨0, [], Nat.zero_le _, rfl, inv_none l, fun h => absurd h (Nat.lt_irrefl _), h4⟩
  have Hloop := Lib.hid hloop
  have HC := Lib.hid hC
  clear hloop h1 h3 h4 H0 hA hC
  go_wp2_with fail
  rw [HC.out]
  go_loopw [5] (fun iv wr => TimPush w A C n1 l iv wr) (fun iv _ => n1 - (intOf iv).toNat)
  case atStart => exact Hloop.out
  case round =>
    obtain ⟨i, S, hi, rfl, hinv, hne, hH⟩ := hrel
    have HH := Lib.hid hH
    have Hinv := Lib.hid hinv
    have Hne := Lib.hid hne
    have hSl := hinv.len
    clear hH Hloop hinv hne
    by_cases hlt : i < n1
    · have hm := Hl.out.frm (Frm.of_below HH.out.below (Nat.le_refl _))
      obtain ⟨b1, o1, k, rfl, hb1, hk, hcell⟩ := hm.at_ hlt
      have p0 := hcell 0 _ rfl
      have p1 := hcell 1 _ rfl
      have p2 := hcell 2 _ rfl
      have p3 := hcell 3 _ rfl
      simp only [Nat.add_zero] at p0
      have hkw := Hw.out k (List.mem_of_getElem? hk)
      have hwf : IntKind.i64.wrap ((i : Int) + 1) = (i : Int) + 1 := IntWalk.i64_in _ (by omega)
      have hb1w := Hl.out.2.2.2
      have hold : b1 < w.heap.size := by
        rcases hb1w with h0 | ⟨_, _, he, hb, _⟩
        · omega
        · simp only [Option.some.injEq, Addr.mk.injEq, and_true] at he; omega
      have Hkw := Lib.hid hkw
      have Hk := Lib.hid hk
      have i0 : (0 : Int) ≤ (i : Int) := by omega
      have i1 : (i : Int) < (n1 : Int) := by omega
      have Hold := Lib.hid hold
      have hwl : w.heap.size ≤ wr.heap.size := HH.out.le
      have Q0 := Lib.hid ((HH.out.oldCell (a := ⟨b1, o1 + i * 4, none⟩) hold).symm.trans p0)
      have Q1 := Lib.hid ((HH.out.oldCell (a := ⟨b1, o1 + i * 4 + 1, none⟩) hold).symm.trans p1)
      have Q2 := Lib.hid ((HH.out.oldCell (a := ⟨b1, o1 + i * 4 + 2, none⟩) hold).symm.trans p2)
      have Q3 := Lib.hid ((HH.out.oldCell (a := ⟨b1, o1 + i * 4 + 3, none⟩) hold).symm.trans p3)
      have hsP := sepR_stable (heapR_stable A S) (sepR_stable (refR_stable C S) noneR_stable)
      have HHd := Lib.hid (HH.out.drew hsP)
      obtain ⟨pe, hpe⟩ : ∃ pe, pushE k S = pe := ⟨_, rfl⟩
      have Hpe := Lib.hid hpe
      clear hm hcell hkw hk hb1w hpe
      go_wp2_with fail
      go_region_held3 (fun w' => w'.cell? ⟨b1, o1 + i * 4, none⟩ = some (.int .i64 k.at_) ∧ w'.cell? ⟨b1, o1 + i * 4 + 1, none⟩ = some (.int .i64 k.src) ∧ w'.cell? ⟨b1, o1 + i * 4 + 2, none⟩ = some (.int .i64 k.sent) ∧ w'.cell? ⟨b1, o1 + i * 4 + 3, none⟩ = some (.int .i64 k.no))
        (first | go_keep | exact ⟨(H4.out.oldCell Hold.out).trans Q0.out, (H4.out.oldCell Hold.out).trans Q1.out, (H4.out.oldCell Hold.out).trans Q2.out, (H4.out.oldCell Hold.out).trans Q3.out⟩ | exact ⟨(H3.out.oldCell Hold.out).trans Q0.out, (H3.out.oldCell Hold.out).trans Q1.out, (H3.out.oldCell Hold.out).trans Q2.out, (H3.out.oldCell Hold.out).trans Q3.out⟩)
        ((first
          | (go_at_call 26; refine (rpush_goes (sepR_stable (heapR_stable _ _) noneR_stable) H3.out (by omega) k (i : Int)).mono ?_; rintro e w4 ⟨rfl, h4⟩; rw [Hpe.out]; have H4 := Lib.hid h4; clear h4)
          | (go_at_call 17; refine (push_goes (sepR_stable (refR_stable _ _) noneR_stable) (by first | exact HHd.out | exact HH.out) (by omega) k (i : Int) Hkw.out).mono ?_; rintro e w3 ⟨rfl, h3⟩; rw [Hpe.out]; have H3 := Lib.hid (h3.conv Conv.exch); clear h3)))
      have h4x := H4.out.conv Conv.exch
      have hbn : (pe != pe) = false := by simp
      cases hf : findE k S with
      | none =>
        obtain ⟨e1, e2⟩ := push_none (x := ⟨k, (i : Int)⟩) hf
        rw [e2] at h4x
        have Hnew := Lib.hid (Hinv.out.push Hk.out hf)
        have H5 := Lib.hid h4x
        clear h4x hf e1 e2 p0 p1 p2 p3 H3 H4 HHd
        go_wp2_with fail
        go_roundw
        case rel => exact ⟨i + 1, insE ⟨k, (i : Int)⟩ S, by omega, by go_num, Hnew.out, fun _ => by unfold insE; simp, H5.out⟩
        case measure => simp [intOf]; omega
      | some y =>
        obtain ⟨e1, e2⟩ := push_some (x := ⟨k, (i : Int)⟩) hf
        rw [e2] at h4x
        have hne : S ≠ [] := fun h => by rw [h] at hf; cases hf
        have Hne2 := Lib.hid hne
        have H5 := Lib.hid h4x
        clear h4x hf e1 e2 p0 p1 p2 p3 H3 H4 HHd hne
        go_wp2_with fail
        go_roundw
        case rel => exact ⟨i + 1, S, by omega, by go_num, Hinv.out.there, fun _ => Hne2.out, H5.out⟩
        case measure => simp [intOf]; omega
    · obtain rfl : i = n1 := by omega
      have hS0 := Hne.out h0
      obtain ⟨hf1, hf2, hf3, hf4⟩ := batch_facts Hinv.out.srt hS0
      have hbat := batch_goes (sepR_stable (refR_stable C S) noneR_stable) HH.out (by omega)
      have hfe : firstErr S = 0 := by cases S with | nil => exact absurd rfl hS0 | cons _ _ => rfl
      unfold BatchDoes at hbat
      rw [hfe] at hbat
      generalize batchP S = P at hf1 hf2 hf3 hbat
      generalize batchR S = R at hf1 hf4 hbat
      generalize timeOf S = tm at hf3 hf4 hbat
      have hPR : P.length + R.length = S.length := by rw [hf1, List.length_append]
      have hP0 : 0 < P.length := List.length_pos_iff.2 hf2
      have Hbat := Lib.hid hbat
      have Hf1 := Lib.hid hf1
      have Hf3 := Lib.hid hf3
      have Hf4 := Lib.hid hf4
      clear hbat hf1 hf2 hf3 hf4 hfe hS0 HH
      go_wp2_with fail
      refine Hbat.out.mono ?_
      rintro e w5 ⟨a5, c5, rfl, h5⟩
      have hs5 := sepR_stable (rowR_stable 3 1 (.slice a5 P.length c5) P.length (valCells P)) (sepR_stable (heapR_stable A R) (sepR_stable (refR_stable C S) noneR_stable))
      have hs6 := sepR_stable (rowR_stable 3 1 (.slice a5 P.length c5) P.length (valCells P)) (sepR_stable (refR_stable C S) noneR_stable)
      have H6 := Lib.hid ((h5.alloc hs5 (.cells #[.int .i64 tm] 3)).conv Conv.exch)
      obtain ⟨b6, hb6⟩ : ∃ b6, w5.heap.size = b6 := ⟨_, rfl⟩
      rw [hb6] at H6
      have Hb6 := Lib.hid hb6
      clear h5 Hbat hb6
      go_wp2_with fail
      rw [Hb6.out]
      refine (all_goes hs6 H6.out (by omega)).mono ?_
      rintro e w6 ⟨bx, a, c, rfl, h7⟩
      have hfn := func_all3 bx
      have H7 := Lib.hid h7
      clear h7 H6
      go_wp2_with fail
      obtain ⟨hc, hbx, hsl, hab⟩ := H7.out.allFacts
      have hs7 : Stable (sepR (boxR bx #[.slice a R.length c] 62) (sepR (rowR 68 5 (.slice a R.length c) R.length (flat Ent.cells R)) (sepR (heapR A R) (sepR (rowR 3 1 (.slice a5 P.length c5) P.length (valCells P)) (sepR (refR C S) noneR))))) := sepR_stable (boxR_stable _ _ _) (sepR_stable (rowR_stable _ _ _ _ _) (sepR_stable (heapR_stable _ _) hs6))
      clear hfn
      refine (wpIn_wide (n := 3)).1 ?_
      refine' wpIn_rangeFunc_box (F := Fence.wide) rfl (by omega) (gf := 35) (lb := #[.pointer (some ⟨bx, 0, none⟩)]) rfl trivial (enters_of Try.func35 (by kernel_rfl) rfl)
        (all3_stops Fence.wide _ trivial rfl (by omega) bx w6.heap.size a c R (by omega) w6 hbx (Nat.le_refl _) hc hsl hab) belowK_t (belowK_b (Nat.le_refl _)) (Below.refl _ _) (fun _ => rfl)
        (fun _ W => Frm [] w6 W) (fun _ pre _ => ∃ x ∈ pre, x.k.at_ ≤ tm) (ownFrom_frm (Nat.le_refl _)) (fun c => ownFrom_pure _ _) (Frm.refl _ _) 33 (fun x : Ent => #[.int .i64 x.k.at_, .int .i64 x.k.src, .int .i64 x.k.sent, .int .i64 x.k.no]) _ ?assign ?body ?done ?stop
      case assign =>
        rintro l pre x W K hf hK
        have HK := Lib.hid hK
        have Hf := Lib.hid hf
        clear hK hf
        gi_wp2
        have hle := Hf.out.size
        have h1 := obj_new W (.cells #[.int .i64 x.k.at_, .int .i64 x.k.src, .int .i64 x.k.sent, .int .i64 x.k.no] 33)
        have h2 := (Below.refl w6.heap.size W).alloc hle (.cells #[.int .i64 x.k.at_, .int .i64 x.k.src, .int .i64 x.k.sent, .int .i64 x.k.no] 33)
        generalize W.heap.size = Bx at hle h1 ⊢
        exact HK.out Bx _ ((KeepsOthers.alloc _ _).from _) h2 (Hf.out.alloc _) hle h1
      case body =>
        rintro l pre x Bx W hl hf hBx hK hlt
        have r0 := (cells4 hK).1
        have zB := lt_of_obj hK
        have ob6 := hf.obj (H7.out.box (k := b6) (o := .cells #[.int .i64 tm] 3) (by simp)) (by simp)
        have ob2 := hf.obj (H7.out.box (k := w.heap.size) (o := .cells #[.bool false] 4) (by simp)) (by simp)
        have s0 := cells1 ob6
        have zs := lt_of_obj ob6
        have u1 := cells1 ob2
        have u0 : W.frozen? ⟨w.heap.size, 0, none⟩ = false := frozen_of_obj ob2 0
        have zu := lt_of_obj ob2
        have Hf := Lib.hid hf
        clear hf hK ob6 ob2 hc hsl hab
        by_cases hle : x.k.at_ ≤ tm
        · gi_wp2_with fail
          exact ⟨(KeepsOthers.setCell _ _ _).from _, x, by simp, hle⟩
        · gi_wp2_with fail
          exact ⟨KeepsFrom.refl _ _, Below.refl _ _, Hf.out⟩
      case done =>
        rintro D xs W hD _ hf hKD
        have h8 := (H7.out.more hs7 hf hD hKD).drop.drop
        have hback : TimBack w A C S P R a5 c5 ((D, .deferred (some [])) :: [(b6, .cells #[.int .i64 tm] 3), (w.heap.size, .cells #[.bool false] 4)]) (.int .i64 ((P.length : Int) - 1)) W :=
          ⟨P.length, (P.length : Int) - 1, Nat.le_refl _, rfl, rfl, by rw [List.drop_length]; exact h8⟩
        have Hback := Lib.hid hback
        have hD2 : w.heap.size < D := Nat.lt_of_lt_of_le (lt_of_obj (H7.out.box (k := w.heap.size) (o := .cells #[.bool false] 4) (by simp))) hD
        have hwr : IntKind.i64.wrap ((P.length : Int) - 1) = (P.length : Int) - 1 := IntWalk.i64_in _ (by omega)
        clear h8 hback hf hKD hc hsl hab H7
        go_wp2_with fail
        go_loopw [11] (fun iv wr => TimBack w A C S P R a5 c5 ((D, .deferred (some [])) :: [(b6, .cells #[.int .i64 tm] 3), (w.heap.size, .cells #[.bool false] 4)]) iv wr) (fun iv _ => (intOf iv + 1).toNat)
        case atStart => exact Hback.out
        case round =>
          rename World => wy
          obtain ⟨j, z, hj, hz, rfl, hH⟩ := hrel
          have HY := Lib.hid hH
          clear hH Hback
          cases j with
          | zero =>
            have hz1 : z = -1 := by omega
            subst hz1
            clear hz
            have h9 := HY.out.conv Conv.exch.right
            rw [List.drop_zero, ← Hf1.out] at h9
            have H9 := Lib.hid h9
            have hsR := sepR_stable (rowR_stable 3 1 (.slice a5 P.length c5) P.length (valCells P)) noneR_stable
            have hsS := sepR_stable (heapR_stable A S) (sepR_stable (refR_stable C S) hsR)
            clear h9 HY
            go_wp2_with fail
            refine (same_goes hsR H9.out (by omega) H9.out.boxes).mono ?_
            rintro e w11 ⟨rfl, h11⟩
            have H11 := Lib.hid h11
            clear h11 H9
            go_wp2_with fail
            refine (awake_any _).mono ?_
            rintro e w12 ⟨rfl, hF⟩
            have h12 := H11.out.made hsS (Frm.of_below hF (Nat.le_refl _))
            have u1 := cells1 (h12.box (k := w.heap.size) (o := .cells #[.bool false] 4) (by simp))
            have u0 : w12.frozen? ⟨w.heap.size, 0, none⟩ = false := frozen_of_obj (h12.box (k := w.heap.size) (o := .cells #[.bool false] 4) (by simp)) 0
            have zu := World.block_lt_of_cell? _ _ u1
            dsimp only at zu
            have H12 := Lib.hid h12
            clear hF h12 H11
            go_wp2_with fail
            have g1 : (w12.setCell ⟨w.heap.size, 0, none⟩ (.bool true)).heap[D]? = some (.deferred (some [])) := obj_setCell_ne (H12.out.box (k := D) (o := .deferred (some [])) (by simp)) (a := ⟨w.heap.size, 0, none⟩) (by dsimp only; omega) _
            have g2 : (w12.setCell ⟨w.heap.size, 0, none⟩ (.bool true)).heap[w.heap.size]? = some (.cells #[.bool true] 4) := obj_setCell (H12.out.box (k := w.heap.size) (o := .cells #[.bool false] 4) (by simp)) 0 _
            have g3 := cells1 ((World.putObj_heap_other (o := .deferred none) (show w.heap.size ≠ D by omega)).trans g2)
            refine ⟨by simp, .inl ⟨_, _, rfl, run_takeDeferred g1, ?_⟩⟩
            refine ⟨.bool true, by simp [results, Try.results8, go_sem, g3], rfl, ?_⟩
            exact (H12.out.below.setCell (p := ⟨w.heap.size, 0, none⟩) (Nat.le_refl _) _).trans (belowK_b (w := w) (Nat.le_refl _) _ D _ _ (by omega) g1 rfl rfl)
          | succ j =>
            have hz1 : z = (j : Int) := by omega
            subst hz1
            clear hz
            obtain ⟨x, hx⟩ : ∃ x, P[j]? = some x := ⟨_, List.getElem?_eq_getElem (by omega)⟩
            have hxP := List.mem_of_getElem? hx
            obtain ⟨q, hq, hv, hlk⟩ := Hinv.out.idx x (by rw [Hf1.out]; simp [hxP])
            have hya := Hf3.out x hxP
            have hdr : P.drop j = x :: P.drop (j + 1) := by
              rw [List.drop_eq_getElem_cons (by omega)]
              rw [List.getElem?_eq_getElem (by omega)] at hx
              rw [Option.some.inj hx]
            have hsx : Srt (x :: (P.drop (j + 1) ++ R)) := by
              have h9 : Srt (P.take j ++ (P.drop j ++ R)) := by rw [← List.append_assoc, List.take_append_drop, ← Hf1.out]; exact Hinv.out.srt
              have := (List.pairwise_append.1 h9).2.1
              rw [hdr] at this
              exact this
            have hpf := push_front (srt_cons.1 hsx).1
            obtain ⟨xk, xv⟩ := x
            simp only at hv hlk hya hpf hdr
            subst hv
            have hrow := (HY.out.conv Conv.exch).row
            obtain ⟨g, cap, hsv, hg, hcap, _⟩ := row_some hrow hP0
            simp only [Value.slice.injEq] at hsv
            obtain ⟨rfl, _, rfl⟩ := hsv
            have s0 : wy.cell? ⟨g, j, none⟩ = some (.int .i64 (q : Int)) := by
              rw [hrow.cellAt j (by omega)]
              simp [valCells, hx]
            have t0 := cells1 (HY.out.box (k := b6) (o := .cells #[.int .i64 tm] 3) (by simp))
            have hmm := Hl.out.frm (Frm.of_below HY.out.below (Nat.le_refl _))
            obtain ⟨b1, o1, k1, rfl, hb1, hk1, hcell⟩ := hmm.at_ hq
            rw [hlk] at hk1
            obtain rfl := Option.some.inj hk1
            have p0 := hcell 0 _ rfl
            have p1 := hcell 1 _ rfl
            have p2 := hcell 2 _ rfl
            have p3 := hcell 3 _ rfl
            simp only [Nat.add_zero] at p0
            have hb1w := Hl.out.2.2.2
            have hold : b1 < w.heap.size := by
              rcases hb1w with h0 | ⟨_, _, he, hb, _⟩
              · omega
              · simp only [Option.some.injEq, Addr.mk.injEq, and_true] at he; omega
            have Hold := Lib.hid hold
            have Q0 := Lib.hid ((HY.out.oldCell (a := ⟨b1, o1 + q * 4, none⟩) hold).symm.trans p0)
            have Q1 := Lib.hid ((HY.out.oldCell (a := ⟨b1, o1 + q * 4 + 1, none⟩) hold).symm.trans p1)
            have Q2 := Lib.hid ((HY.out.oldCell (a := ⟨b1, o1 + q * 4 + 2, none⟩) hold).symm.trans p2)
            have Q3 := Lib.hid ((HY.out.oldCell (a := ⟨b1, o1 + q * 4 + 3, none⟩) hold).symm.trans p3)
            have hzb := World.block_lt_of_cell? _ _ t0
            dsimp only at hzb
            have hgy : g < wy.heap.size := hg
            have hsY := sepR_stable (heapR_stable A (P.drop (j + 1) ++ R)) hs6
            have HYd := Lib.hid (HY.out.drew hsY)
            have Hkw := Lib.hid (Hw.out xk (List.mem_of_getElem? hlk))
            have Hpf := Lib.hid hpf
            have Hdr := Lib.hid hdr
            have Hx := Lib.hid hx
            have g1 : decide ((q : Int) < 0) = false := by rw [decide_eq_false_iff_not]; omega
            have g2 : decide ((i : Int) ≤ (q : Int)) = false := by rw [decide_eq_false_iff_not]; omega
            have g3 : decide (i ≤ q) = false := by rw [decide_eq_false_iff_not]; omega
            have g4 : (xk.at_ != tm) = false := by rw [hya]; simp
            have i0 : (0 : Int) ≤ (q : Int) := by omega
            have i1 : (q : Int) < (i : Int) := by omega
            have i2 : (0 : Int) ≤ (j : Int) := by omega
            have i3 : (j : Int) < (P.length : Int) := by omega
            have hwz : IntKind.i64.wrap ((j : Int) - 1) = (j : Int) - 1 := IntWalk.i64_in _ (by omega)
            have hTl : (P.drop (j + 1) ++ R).length ≤ 99 := by rw [List.length_append, List.length_drop]; omega
            clear hmm hcell hk1 hb1w hrow hpf hdr hsx hya hxP hlk hx hq
            go_wp2_with fail
            go_region_held3 (fun w' => w'.cell? ⟨g, j, none⟩ = some (.int .i64 (q : Int)) ∧ w'.cell? ⟨b6, 0, none⟩ = some (.int .i64 tm) ∧ w'.cell? ⟨b1, o1 + q * 4, none⟩ = some (.int .i64 xk.at_) ∧ w'.cell? ⟨b1, o1 + q * 4 + 1, none⟩ = some (.int .i64 xk.src) ∧ w'.cell? ⟨b1, o1 + q * 4 + 2, none⟩ = some (.int .i64 xk.sent) ∧ w'.cell? ⟨b1, o1 + q * 4 + 3, none⟩ = some (.int .i64 xk.no))
              (first | exact ⟨e5, e6, (H9.out.oldCell (a := ⟨b1, o1 + q * 4, none⟩) Hold.out).trans Q0.out, (H9.out.oldCell (a := ⟨b1, o1 + q * 4 + 1, none⟩) Hold.out).trans Q1.out, (H9.out.oldCell (a := ⟨b1, o1 + q * 4 + 2, none⟩) Hold.out).trans Q2.out, (H9.out.oldCell (a := ⟨b1, o1 + q * 4 + 3, none⟩) Hold.out).trans Q3.out⟩ | go_keep)
              ((go_at_call 17; refine (push_goes hs6 (by first | exact HYd.out | exact HY.out) hTl xk (q : Int) Hkw.out).mono ?_; rintro e w9 ⟨rfl, h9⟩; rw [Hpf.out.1]; have e6 := cells1 (h9.box (k := b6) (o := .cells #[.int .i64 tm] 3) (by simp)); have e5 := valAt (h9.conv Conv.exch).row rfl Hx.out; have H9 := Lib.hid h9; clear h9))
            have h10 := H9.out
            rw [Hpf.out.2, ← List.cons_append, ← Hdr.out] at h10
            have H10 := Lib.hid h10
            clear h10 H9 e5 e6 s0 t0 p0 p1 p2 p3 HYd HY
            go_wp2_with fail
            go_roundw
            case rel => exact ⟨j, (j : Int) - 1, by omega, rfl, rfl, H10.out⟩
            case measure => simp [intOf]
      case stop =>
        rintro D c pre W _ ⟨k, hk, hpre⟩ ⟨x, hx, hle⟩ _
        rw [hpre] at hx
        have := Hf4.out x (List.mem_of_mem_take hx)
        omega
end Go.Proofs.Ytclaicpnjllhjaa
