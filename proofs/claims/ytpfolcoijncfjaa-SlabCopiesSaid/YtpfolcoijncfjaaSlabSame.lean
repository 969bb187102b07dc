/- same: a slab is the document's. -/
import Derived.Test.YtpfolcoijncfjaaSlabRCopy
import Derived.Test.YtpfolcoijncfjaaSlabAllI
import Derived.Test.YtpfolcoijncfjaaSlabHeld
import Derived.Test.YtpfolcoijncfjaaQuietRound
import Derived.Deep.RegionHeld3
namespace Go.Proofs.Ytpfolcoijncfjaa
open Go.RowKit Go.Shelf
attribute [local go_sem] Oper.semAt_some

theorem Holds.joinL {R R' : World → List Nat → Prop} {B : Nat} {w0 w w' : World} {L L' : List (Nat × Obj)} (hR : Stable R) (h : Holds B w0 R w L) (h' : Holds w.heap.size w R' w' L') (hL : ∀ p ∈ L', w.heap.size ≤ p.1) : Holds B w0 (sepR R' R) w' (L' ++ L) := by
  obtain ⟨F', h1, hb, hlo, hle⟩ := h'
  have hf : Frm [] w w' := Frm.of_below hb (Nat.le_refl _)
  have hm := h.made hR hf
  obtain ⟨F, h2, _, h3, h4⟩ := h
  obtain ⟨_, h5, h6, _, _⟩ := hm
  have hR' : R w' F := hR [] w w' F h2.res hf (by simp)
  have hlt : ∀ k ∈ F, k < w'.heap.size := fun k hk => Nat.lt_of_lt_of_le (h2.lt k hk) hle
  refine ⟨F' ++ F, ⟨⟨F', F, h1.res, hR', fun k hk hm => ?_, h1.lt, hlt, rfl⟩, fun k hk => ?_, fun p hp => ?_⟩, h6, fun k hk => ?_, Nat.le_trans h4 hle⟩
  · have := hlo k hk; have := h2.lt k hm; omega
  · rcases List.mem_append.1 hk with h | h
    · exact h1.lt k h
    · exact hlt k h
  · rcases List.mem_append.1 hp with hp | hp
    · have hb := h1.box p hp
      refine ⟨hb.1, fun hm => ?_⟩
      rcases List.mem_append.1 hm with h | h
      · exact hb.2 h
      · have := hL p hp; have := h2.lt _ h; omega
    · have hb := h2.box p hp
      refine ⟨hf.obj hb.1 (by simp), fun hm => ?_⟩
      rcases List.mem_append.1 hm with h | h
      · have := hlo _ h; have := lt_of_obj hb.1; omega
      · exact hb.2 h
  · rcases List.mem_append.1 hk with h | h
    · have := hlo k h; omega
    · exact h3 k h
/-- The number that a box holds. -/
def cellNat (w : World) (b : Nat) : Nat := (intOf ((w.cell? ⟨b, 0, none⟩).getD (.bool false))).toNat
theorem cellNat_of {w : World} {b n : Nat} {t : TypeId} (h : w.heap[b]? = some (.cells #[.int .i64 (n : Int)] t)) : cellNat w b = n := by
  unfold cellNat
  rw [cells1 h]
  simp [intOf]
theorem drewN_keeps (W : World) (n : Nat) : KeepsOthers W (W.drewN n) := ⟨Nat.le_refl _, fun _ _ h _ => h⟩
theorem func_all2 (bx : Nat) (w : World) : (binOp BinOp.eql 45 (.func (.func 33) #[] #[.pointer (some ⟨bx, 0, none⟩)]) .nilFunc).run Try.prog w = .ok (.bool false) w := by kernel_rfl
theorem keeps_of_frm {nb : Nat} {W W' : World} {c : Array Value} {t : TypeId} (hf : Frm [nb] W W') (hc : W.heap[nb]? = some (.cells c t)) : KeepsOthers W W' :=
  ⟨hf.size, fun k o hk ho => hf.obj hk (fun hm => by
    simp only [List.mem_singleton] at hm
    subst hm
    rw [hc] at hk
    cases hk
    cases ho)⟩
theorem Holds.refAt {B : Nat} {w0 w : World} {Q : World → List Nat → Prop} {L : List (Nat × Obj)} {b : Nat} {r : Rs} (h : Holds B w0 (sepR (refR b r) Q) w L) : ∃ lv fv, RefAt w b r lv fv := by
  obtain ⟨F, h, _⟩ := h
  obtain ⟨F1, F2, ⟨lv, fv, hS, _⟩, _⟩ := h.res
  exact ⟨lv, fv, hS⟩

section
variable {B : Nat} {w0 w : World} {Q : World → List Nat → Prop} {L : List (Nat × Obj)}
abbrev bothR (hb rb : Nat) (s : St) (Q : World → List Nat → Prop) : World → List Nat → Prop := sepR (slabR hb s) (sepR (refR rb s.ref) Q)
theorem bothR_stable (hQ : Stable Q) (hb rb : Nat) (s : St) : Stable (bothR hb rb s Q) := sepR_stable (slabR_stable _ _) (sepR_stable (refR_stable _ _) hQ)

def SmRel (B : Nat) (w0 w : World) (hb rb : Nat) (s : St) (Q : World → List Nat → Prop) (L : List (Nat × Obj)) (kv : Value) (wr : World) : Prop :=
  ∃ k : Nat, k ≤ 6 ∧ kv = .int .i64 (k : Int) ∧ Holds B w0 (bothR hb rb s Q) wr ((w.heap.size + 1, .cells #[.bool false] 4) :: (w.heap.size, .cells #[.pointer (some ⟨rb, 0, none⟩)] 31) :: L)

set_option maxHeartbeats 4000000 in
set_option maxRecDepth 100000 in
theorem same_goes (hQ : Stable Q) {hb rb : Nat} {s : St} (h : Holds B w0 (bothR hb rb s Q) w L) (ho : s.Ok) (hL : ∀ p ∈ L, p.1 < w.heap.size) :
    Calls Try.prog 14 #[.pointer (some ⟨hb, 0, none⟩), .pointer (some ⟨rb, 0, none⟩)] w (Goes (.bool true) B w0 (bothR hb rb s Q) L) := by
  have hs := bothR_stable hQ hb rb s
  have hs1 := sepR_stable (refR_stable rb s.ref) hQ
  refine (callsIn_wide (n := 3)).1 ?_
  refine callsIn_of_wp_marks Try.func14 rfl trivial ?_ rfl
  simp only [Try.ntmps14, List.size_toArray, List.length_cons, List.length_nil, Nat.reduceAdd, Nat.reduceSub, Array.replicate_succ, Array.replicate_zero, List.push_toArray, List.append_toArray, List.nil_append, List.cons_append]
  refine wpIn_wide.2 ?_
  have h0 := (h.alloc hs (.cells #[.pointer (some ⟨rb, 0, none⟩)] 31)).alloc hs (.cells #[.bool false] 4)
  simp only [World.size_alloc] at h0
  have hloop : SmRel B w0 w hb rb s Q L (.int .i64 0) ((w.alloc (.cells #[.pointer (some ⟨rb, 0, none⟩)] 31)).alloc (.cells #[.bool false] 4)) := ⟨0, by omega, rfl, h0⟩
  have Hloop := Lib.hid hloop
  have HL := Lib.hid hL
  have Ho := Lib.hid ho
  have hBw := h.le
  clear h h0 hloop hL ho
  go_wp2_with fail
  go_loopw [5] (fun kv wr => SmRel B w0 w hb rb s Q L kv wr) (fun kv _ => 6 - (intOf kv).toNat)
  case atStart => exact Hloop.out
  case round =>
    obtain ⟨k, hk, rfl, hH⟩ := hrel
    have HH := Lib.hid hH
    have t0 := cells1 (hH.box (k := w.heap.size) (o := .cells #[.pointer (some ⟨rb, 0, none⟩)] 31) (by simp))
    have z0 := lt_of_obj (hH.box (k := w.heap.size) (o := .cells #[.pointer (some ⟨rb, 0, none⟩)] 31) (by simp))
    clear hH Hloop
    by_cases hlt : k < 6
    · by_cases hk0 : k = 0
      · subst hk0
        go_wp2_with fail
        go_quiet (fail)
        go_wp2_with fail
        go_roundw
        case rel => exact ⟨1, by omega, rfl, HH.out.drewN hs _⟩
        case measure => simp [intOf]
      · have gz : decide ((k : Int) > 0) = true := by rw [decide_eq_true_eq]; omega
        have gz' : decide (0 < k) = true := by rw [decide_eq_true_eq]; omega
        have hcnt : ((s.full.countP (isOf (k : Int)) : Nat) : Int) = (s.liveOf [(k : Int)] : Int) := by rw [full_live Ho.out (by omega)]
        have Hcnt := Lib.hid hcnt
        have gne : (((s.liveOf [(k : Int)] : Nat) : Int) != ((s.liveOf [(k : Int)] : Nat) : Int)) = false := by simp
        have Hd := Lib.hid ((HH.out.drew hs).alloc hs (.cells #[.int .i64 (k : Int)] 3))
        have hsz : (wr.drew.alloc (.cells #[.int .i64 (k : Int)] 3)).heap.size = wr.heap.size + 1 := by simp
        clear hcnt
        go_wp2_with fail
        go_region_held3 (fun w' => w'.cell? ⟨w.heap.size, 0, none⟩ = some (.pointer (some ⟨rb, 0, none⟩)))
          (first | go_keep | exact y1 | exact y2 | exact t0)
          ((first
            | (go_at_call 23
               refine (live_one hs1 Hd.out Ho.out (k : Int) wr.heap.size (Hd.out.box (k := wr.heap.size) (by simp))).mono ?_
               rintro e w3 ⟨rfl, h3⟩
               have y1 := cells1 (h3.box (k := w.heap.size) (o := .cells #[.pointer (some ⟨rb, 0, none⟩)] 31) (by simp))
               have H3 := Lib.hid (sepR_assoc h3)
               clear h3)
            | (go_at_call 19
               refine (rlive_goes (sepR_stable (slabR_stable hb s) hQ) H3.out Ho.out (k : Int)).mono ?_
               rintro e w4 ⟨rfl, h4⟩
               rw [Hcnt.out]
               have y2 := cells1 (h4.box (k := w.heap.size) (o := .cells #[.pointer (some ⟨rb, 0, none⟩)] 31) (by simp))
               have H4 := Lib.hid (sepR_assoc h4)
               clear h4)))
        go_wp2_with fail
        go_roundw
        case rel => exact ⟨k + 1, by omega, by go_num, H4.out.sub (fun p hp => by simp at hp ⊢; rcases hp with rfl | rfl | hp <;> simp [*])⟩
        case measure => simp [intOf]; omega
    · obtain rfl : k = 6 := by omega
      have hl0 : ((s.full.countP (isOf 0) : Nat) : Int) = (s.slots.length : Int) - (s.freed.length : Int) := full_live0 Ho.out
      have hl131 := full_live131 Ho.out
      have Hl0 := Lib.hid hl0
      obtain ⟨A, hA⟩ : ∃ A, s.full.countP (isOf 1) = A := ⟨_, rfl⟩
      obtain ⟨D, hD⟩ : ∃ D, s.full.countP (isOf 3) = D := ⟨_, rfl⟩
      obtain ⟨C, hC⟩ : ∃ C, s.liveOf [1, 3, 1] = C := ⟨_, rfl⟩
      rw [hA, hD, hC] at hl131
      have hCs : C ≤ s.slots.length := by rw [← hC]; exact List.countP_le_length
      have hsl := Ho.out.len
      have hrm := Ho.out.room
      have hsum : IntKind.i64.wrap ((A : Int) + (D : Int)) = (C : Int) := by rw [IntWalk.i64_in _ (by omega)]; omega
      have HA := Lib.hid hA
      have HDc := Lib.hid hD
      have HC := Lib.hid hC
      have gn0 : (((s.slots.length : Int) - (s.freed.length : Int)) != ((s.slots.length : Int) - (s.freed.length : Int))) = false := by simp
      have gn1 : ((C : Int) != (C : Int)) = false := by simp
      have gn2 : (s.left != s.left) = false := by simp
      have Hd := Lib.hid (HH.out.drew hs)
      clear hl0 hl131 hA hD hC hsl hrm hCs
      go_wp2_with fail
      go_region_held3 (fun w' => w'.cell? ⟨w.heap.size, 0, none⟩ = some (.pointer (some ⟨rb, 0, none⟩)))
        (first | go_keep | exact y1 | exact y2 | exact y3 | exact y4 | exact y5 | exact y6 | exact y7 | exact t0)
        ((first
          | (go_at_call 29
             refine (rleft_goes (sepR_stable (slabR_stable hb s) hQ) H6.out Ho.out).mono ?_
             rintro e w9 ⟨rfl, h9⟩
             have y7 := cells1 (h9.box (k := w.heap.size) (o := .cells #[.pointer (some ⟨rb, 0, none⟩)] 31) (by simp))
             have H7 := Lib.hid (sepR_assoc h9)
             clear h9)
          | (go_at_call 20
             refine (left_goes hs1 H5.out Ho.out).mono ?_
             rintro e w8 ⟨rfl, h9⟩
             have y6 := cells1 (h9.box (k := w.heap.size) (o := .cells #[.pointer (some ⟨rb, 0, none⟩)] 31) (by simp))
             have H6 := Lib.hid (sepR_assoc h9)
             clear h9)
          | (go_at_call 19
             refine (rlive_goes (sepR_stable (slabR_stable hb s) hQ) H4.out Ho.out 3).mono ?_
             rintro e w7 ⟨rfl, h9⟩
             rw [HDc.out]
             have y5 := cells1 (h9.box (k := w.heap.size) (o := .cells #[.pointer (some ⟨rb, 0, none⟩)] 31) (by simp))
             have H5 := Lib.hid (sepR_assoc h9)
             clear h9)
          | (go_at_call 19
             refine (rlive_goes (sepR_stable (slabR_stable hb s) hQ) H3.out Ho.out 1).mono ?_
             rintro e w6 ⟨rfl, h9⟩
             rw [HA.out]
             have y4 := cells1 (h9.box (k := w.heap.size) (o := .cells #[.pointer (some ⟨rb, 0, none⟩)] 31) (by simp))
             have H4 := Lib.hid h9
             clear h9)
          | (go_at_call 23
             refine (live_twice hs1 H2.out Ho.out _ (H2.out.box (o := .cells #[.int .i64 1, .int .i64 3, .int .i64 1] 3) (by simp))).mono ?_
             rintro e w5 ⟨rfl, h9⟩
             rw [HC.out]
             have y3 := cells1 (h9.box (k := w.heap.size) (o := .cells #[.pointer (some ⟨rb, 0, none⟩)] 31) (by simp))
             have H3 := Lib.hid (sepR_assoc h9)
             clear h9)
          | (go_at_call 19
             refine (rlive_goes (sepR_stable (slabR_stable hb s) hQ) H1.out Ho.out 0).mono ?_
             rintro e w4 ⟨rfl, h9⟩
             rw [Hl0.out]
             have y2 := cells1 (h9.box (k := w.heap.size) (o := .cells #[.pointer (some ⟨rb, 0, none⟩)] 31) (by simp))
             have H2 := Lib.hid ((sepR_assoc h9).alloc hs (.cells #[.int .i64 1, .int .i64 3, .int .i64 1] 3))
             clear h9)
          | (go_at_call 23
             refine (live_goes hs1 Hd.out Ho.out).mono ?_
             rintro e w3 ⟨rfl, h9⟩
             have y1 := cells1 (h9.box (k := w.heap.size) (o := .cells #[.pointer (some ⟨rb, 0, none⟩)] 31) (by simp))
             have H1 := Lib.hid (sepR_assoc h9)
             clear h9)))
      rename_i hHeldX
      clear hHeldX y1 y2 y3 y4 y5 y6 y7 t0 z0 gn0 gn1 gn2 hsum HH H1 H2 H3 H4 H5 H6 Hd HA HDc HC Hl0
      obtain ⟨sv, fv, hSl⟩ := H7.out.slabAt
      have hAll := all_any hSl Ho.out
      have HAll := Lib.hid hAll
      clear hSl hAll
      go_wp2_with fail
      refine HAll.out.mono ?_
      rintro e w10 ⟨a, c, g, rfl, hg, hA⟩
      have h10 := H7.out.joinL hs hA (by simp; exact hg)
      have hsA : Stable (sepR (sepR (rowR 75 3 (.slice a s.slots.length c) s.slots.length (slotCells s.slots)) noneR) (bothR hb rb s Q)) := sepR_stable (sepR_stable (rowR_stable _ _ _ _ _) noneR_stable) hs
      have hgl : g < w10.heap.size := lt_of_obj (hA.box (k := g) (o := .cells #[.slice a s.slots.length c] 66) (by simp))
      have h11 := (h10.sub (M := (g, .cells #[.slice a s.slots.length c] 66) :: (w.heap.size + 1, .cells #[.bool false] 4) :: (w.heap.size, .cells #[.pointer (some ⟨rb, 0, none⟩)] 31) :: L) (fun p hp => by simp at hp ⊢; rcases hp with rfl | rfl | rfl | hp <;> simp [*])).alloc hsA (.cells #[.int .i64 0] 3)
      have hab : ∀ ad, a = some ad → ad.block < w10.heap.size := fun ad ha => by
        subst ha
        rcases row_nil_or (h10.conv Conv.flat).row with ⟨hv, _⟩ | ⟨g', cc, hv, hg', _⟩
        · simp at hv
        · simp only [Value.slice.injEq, Option.some.injEq] at hv
          rw [hv.1]; exact hg'
      have hb5 : w.heap.size + 1 < w10.heap.size := lt_of_obj (h10.box (k := w.heap.size + 1) (o := .cells #[.bool false] 4) (by simp))
      have hgb : w.heap.size + 1 < g := by
        have := lt_of_obj (H7.out.box (k := w.heap.size + 1) (o := .cells #[.bool false] 4) (by simp))
        omega
      have Hab := Lib.hid hab
      have hfn := func_all2 g
      have H11 := Lib.hid h11
      have HsA := Lib.hid hsA
      clear hg hA h10 h11 hsA HAll H7 hab
      go_wp2_with fail
      have h2 := H11.out
      have hsz : w10.heap.size ≤ (w10.alloc (.cells #[.int .i64 0] 3)).heap.size := by simp
      have hnb := obj_new w10 (.cells #[.int .i64 0] 3)
      have hc := cells1 (h2.box (k := g) (o := .cells #[.slice a s.slots.length c] 66) (by simp))
      have hsl : SlAt slEnc 3 (w10.alloc (.cells #[.int .i64 0] 3)) a s.slots.length c s.slots := SlAt.of_row slEnc_len (by rw [flat_sl]; exact (h2.conv Conv.flat).row) rfl
      have hab := Hab.out
      generalize w10.alloc (.cells #[.int .i64 0] 3) = W0 at h2 hsz hc hsl hnb ⊢
      obtain ⟨nb, hnbe⟩ : ∃ nb, w10.heap.size = nb := ⟨_, rfl⟩
      obtain ⟨b3, hb3⟩ : ∃ b3, w.heap.size = b3 := ⟨_, rfl⟩
      obtain ⟨b4, hb4⟩ : ∃ b4, b3 + 1 = b4 := ⟨_, rfl⟩
      have hb34 : b3 < nb ∧ b4 < nb := by omega
      rw [hb3] at h2
      rw [hb4] at h2
      rw [hnbe] at h2 hgl hab hsz hnb
      simp only [hnbe, hb3, hb4]
      have HW := Lib.hid h2
      clear h2 hfn H11 Hab
      refine (wpIn_wide (n := 3)).1 ?_
      refine' wpIn_rangeFunc_box (F := Fence.wide) rfl (by omega) (gf := 33) (lb := #[.pointer (some ⟨g, 0, none⟩)]) rfl trivial (enters_of Try.func33 (by kernel_rfl) rfl)
        (allTwo_stops Fence.wide _ trivial rfl (by omega) g nb a c s.slots s.slots.length rfl (by have := Ho.out.len; have := Ho.out.room; omega) W0 hgl hsz hc hsl hab) belowK_t (belowK_b hsz) (Below.refl _ _) (fun _ => rfl)
        (fun pre W => (pre = (heldL s.slots 0).take pre.length ∧ W.heap[nb]? = some (.cells #[.int .i64 (nextOf 0 pre : Nat)] 3)) ∧ Frm [nb] W0 W) (fun _ pre _ => ¬ ∃ k, k ≤ (heldL s.slots 0).length ∧ pre = (heldL s.slots 0).take k)
        (OwnFrom.and (OwnFrom.and (ownFrom_pure _ _) (ownFrom_obj _ _ _ (fun pre : List (Nat × Int × Int) => #[Value.int .i64 (nextOf 0 pre : Nat)]))) (ownFrom_frm (Nat.le_refl _)))
        (fun c => ownFrom_pure _ _)
        ⟨⟨rfl, hnb⟩, Frm.refl _ _⟩ 38 (fun x : Nat × Int × Int => #[.int .i64 (x.1 : Int), .int .i64 x.2.1]) _ ?assign ?body ?done ?stop
      case assign =>
        rintro l pre x W K ⟨⟨hp, hn1⟩, hf⟩ hK
        have Hn1 := Lib.hid hn1
        have HK := Lib.hid hK
        have Hf := Lib.hid hf
        clear hn1 hK hf
        gi_wp2
        have hle := Hf.out.size
        have h1 := obj_new W (.cells #[.int .i64 (x.1 : Int), .int .i64 x.2.1] 38)
        have h2 := (Below.refl nb W).alloc (by omega) (.cells #[.int .i64 (x.1 : Int), .int .i64 x.2.1] 38)
        generalize W.heap.size = Bx at hle h1 ⊢
        exact HK.out Bx _ ((KeepsOthers.alloc _ _).from _) h2 ⟨⟨hp, obj_alloc Hn1.out _⟩, Hf.out.alloc _⟩ hle h1
      case body =>
        rintro l pre x Bx W hl ⟨⟨hp, hn1⟩, hf⟩ hBx hK hlt
        obtain ⟨y, hy⟩ : ∃ y, (heldL s.slots 0)[pre.length]? = some y := ⟨_, List.getElem?_eq_getElem hlt⟩
        have hsplit : heldL s.slots 0 = pre ++ y :: (heldL s.slots 0).drop (pre.length + 1) := by
          have h1 := List.take_append_drop pre.length (heldL s.slots 0)
          rw [← hp, List.drop_eq_getElem_cons hlt] at h1
          rw [List.getElem?_eq_getElem hlt] at hy
          rw [Option.some.inj hy] at h1
          exact h1.symm
        obtain ⟨n1, n2, n3, cy, hcy, n5⟩ := held_next s.slots 0 pre _ y hsplit
        simp only [Nat.sub_zero] at n3 n5
        have hyl := (List.getElem?_eq_some_iff.1 n5).1
        have hsl2 := Ho.out.len
        have hsr := Ho.out.room
        have hfy : s.full[y.1]? = some (cy, y.2.1, y.2.2) := by rw [full_get (by omega), at_some n5]
        have hff : ∀ j, nextOf 0 pre ≤ j → j < y.1 → ∃ t v, s.full[j]? = some (0, t, v) := fun j h1 h2 => by
          obtain ⟨t, v, h3⟩ := n3 j h1 h2
          have hjl := (List.getElem?_eq_some_iff.1 h3).1
          exact ⟨t, v, by rw [full_get (by omega), at_some h3]⟩
        have hroom : s.full.length = s.room := full_len s
        have hts : ¬ y = x → ¬ ∃ k, k ≤ (heldL s.slots 0).length ∧ pre ++ [x] = (heldL s.slots 0).take k := by
          rintro hne ⟨k, hk, he⟩
          have h1 : (pre ++ [x])[pre.length]? = some x := by simp
          rw [he, List.getElem?_take] at h1
          split at h1
          · rw [hy] at h1; exact hne (Option.some.inj h1)
          · cases h1
        have htk : y = x → pre ++ [x] = (heldL s.slots 0).take (pre ++ [x]).length := by
          rintro rfl
          rw [List.length_append, List.length_singleton, List.take_add_one, hy, ← hp]
          rfl
        have hnx : nextOf 0 (pre ++ [x]) = x.1 + 1 := nextOf_more _ _ _
        -- what is read in whatever world the inner loop comes to
        have hread : ∀ (W' : World) (j : Nat), Frm [nb] W W' → W'.heap[nb]? = some (.cells #[.int .i64 (j : Nat)] 3) → ∀ c t v, s.full[j]? = some (c, t, v) → ∃ g2 cap2,
            W'.cell? ⟨nb, 0, none⟩ = some (.int .i64 (j : Nat)) ∧ W'.frozen? ⟨nb, 0, none⟩ = false ∧ nb < W'.heap.size ∧ W'.cell? ⟨b3, 0, none⟩ = some (.pointer (some ⟨rb, 0, none⟩)) ∧ W'.cell? ⟨rb, 0, none⟩ = some (.slice (some ⟨g2, 0, none⟩) s.room cap2) ∧ rb < W'.heap.size ∧
            W'.cell? ⟨g2, j * 3, none⟩ = some (.int .i64 c) ∧ W'.cell? ⟨g2, j * 3 + 1, none⟩ = some (.int .i64 t) ∧ W'.cell? ⟨g2, j * 3 + 2, none⟩ = some (.int .i64 v) ∧
            W'.cell? ⟨Bx, 0, none⟩ = some (.int .i64 (x.1 : Int)) ∧ W'.cell? ⟨Bx, 1, none⟩ = some (.int .i64 x.2.1) ∧ W'.frozen? ⟨b4, 0, none⟩ = false ∧ W'.cell? ⟨b4, 0, none⟩ = some (.bool false) := by
          intro W' j hf' hn' c t v hx
          have hH := HW.out.frmBox HsA.out (hf.trans hf' (by simp)) (by have := HW.out.le; have := (HW.out.sub (M := []) (by simp)).le; omega) (by
            intro p hp
            simp only [List.mem_cons] at hp
            rcases hp with rfl | rfl | rfl | hp
            · dsimp only; omega
            · dsimp only; omega
            · dsimp only; omega
            · have := HL.out p hp; omega) hn'
          obtain ⟨lv, fv, hR⟩ := (hH.drop.drop).refAt
          obtain ⟨g2, cap2, rfl, _, _, p0, p1, p2, _⟩ := hR.slot hx
          have hc0 := hR.c0
          rw [show s.ref.L.length = s.room from hroom] at hc0
          have hnW0 := lt_of_obj hnb
          have hBo := hf'.obj hK (by simp; omega)
          exact ⟨g2, cap2, cells1 hn', frozen_of_obj hn' 0, lt_of_obj hn', cells1 (hH.box (k := b3) (o := .cells #[.pointer (some ⟨rb, 0, none⟩)] 31) (by simp)), hc0, lt_of_obj hR.box, p0, p1, p2,
            (cells2 hBo).1, (cells2 hBo).2, frozen_of_obj (hH.box (k := b4) (o := .cells #[.bool false] 4) (by simp)) 0, cells1 (hH.box (k := b4) (o := .cells #[.bool false] 4) (by simp))⟩
        have Hread := Lib.hid hread
        have Hff := Lib.hid hff
        have Hfy := Lib.hid hfy
        have Hts := Lib.hid hts
        have Htk := Lib.hid htk
        have Hnx := Lib.hid hnx
        have Hf := Lib.hid hf
        have Hn1 := Lib.hid hn1
        have Hcy := Lib.hid hcy
        have hnW := lt_of_obj hn1
        clear hread hff hfy hts htk hnx hf hn1 hcy n3 n5 hp hy hsplit hK hroom hsl hab hc hnb
        gi_wp2_with fail
        gi_loopw [] (fun W' => ∃ j : Nat, nextOf 0 pre ≤ j ∧ j ≤ y.1 ∧ W'.heap[nb]? = some (.cells #[.int .i64 (j : Nat)] 3) ∧ Frm [nb] W W') (fun W' => s.room - cellNat W' nb)
        case atStart => exact ⟨_, Nat.le_refl _, n2, Hn1.out, Frm.refl _ _⟩
        case' round =>
          rename World => Wj
          obtain ⟨j, hj1, hj2, hnj, hfj⟩ := hrel
          have Hnj := Lib.hid hnj
          have Hfj := Lib.hid hfj
          have j1 : (0 : Int) ≤ (j : Int) := by omega
          have j2 : (j : Int) < (s.room : Int) := by omega
          have j3 : decide ((j : Int) < (s.room : Int)) = true := by rw [decide_eq_true_eq]; exact j2
          have j4 : decide (j < s.room) = true := by rw [decide_eq_true_eq]; omega
          have j5 : IntKind.i64.wrap ((j : Int) + 1) = (j : Int) + 1 := IntWalk.i64_in _ (by omega)
          by_cases hjy : j < y.1
          case' pos =>
            obtain ⟨t, v, hx⟩ := Hff.out j hj1 hjy
            obtain ⟨g2, cap2, r1, r2, r3, r4, r5, r6, r7, _⟩ := Hread.out Wj j hfj hnj _ _ _ hx
            clear hx hnj hfj
            gi_wp2_with fail
            refine wpIn_region_quiet_plain (by kernel_rfl) (by kernel_rfl) (by kernel_rfl) ?_
            repeat (gi_big_quiet_step (fail))
            refine wpQuietIn_nil ?_
            rintro _ ⟨nq, rfl⟩
            gi_wp2_with fail
            go_roundw
            case rel =>
              refine ⟨j + 1, by omega, by omega, ?_, (Hfj.out.drewN nq).setCell (a := ⟨nb, 0, none⟩) (.inl (by simp)) _⟩
              exact obj_setCell (w := Wj.drewN nq) Hnj.out 0 (.int .i64 ((j : Int) + 1))
            case measure =>
              have h1 : ((Wj.drewN nq).setCell ⟨nb, 0, none⟩ (.int .i64 ((j : Int) + 1))).heap[nb]? = some (.cells #[.int .i64 ((j + 1 : Nat) : Int)] 3) := obj_setCell (w := Wj.drewN nq) Hnj.out 0 (.int .i64 ((j : Int) + 1))
              rw [cellNat_of h1, cellNat_of Hnj.out]
              omega
          case' neg =>
            obtain rfl : j = y.1 := by omega
            obtain ⟨g2, cap2, r1, r2, r3, r4, r5, r6, r7, r8, r9, r10, r11, r12, r13⟩ := Hread.out Wj _ hfj hnj _ _ _ Hfy.out
            have gcy : (cy == 0) = false := by rw [beq_eq_false_iff_ne]; exact Hcy.out
            clear hnj hfj
            gi_wp2_with fail
            refine wpIn_region_quiet_plain (by kernel_rfl) (by kernel_rfl) (by kernel_rfl) ?_
            repeat (gi_big_quiet_step (fail))
            refine wpQuietIn_nil ?_
            rintro _ ⟨nq, rfl⟩
            gi_wp2_with fail
        have hgd : decide ((y.1 : Int) ≥ (s.room : Int)) = false := by rw [decide_eq_false_iff_not]; omega
        have hgd2 : decide (s.room ≤ y.1) = false := by rw [decide_eq_false_iff_not]; omega
        have hgd3 : decide ((s.room : Int) ≤ (y.1 : Int)) = false := by rw [decide_eq_false_iff_not]; omega
        have Hkb := Lib.hid ((keeps_of_frm Hfj.out Hn1.out).from W0.heap.size)
        clear j3 j4
        by_cases hA : x.1 = y.1
        · by_cases hB : x.2.1 = y.2.1
          · by_cases hC : x.2.2 = y.2.2
            · have hxy : y = x := by
                obtain ⟨x1, x2, x3⟩ := x
                obtain ⟨y1, y2, y3⟩ := y
                dsimp only at hA hB hC
                subst hA hB hC
                rfl
              subst hxy
              clear hA hB hC
              gi_wp2_with fail
              refine wpIn_region_quiet_plain (by kernel_rfl) (by kernel_rfl) (by kernel_rfl) ?_
              repeat (gi_big_quiet_step (fail))
              refine wpQuietIn_nil ?_
              rintro _ ⟨nq2, rfl⟩
              gi_wp2_with fail
              have hfr := (Hfj.out.drewN (nq + nq2)).setCell (a := ⟨nb, 0, none⟩) (.inl (by simp)) (.int .i64 ((y.1 : Int) + 1))
              refine ⟨(keeps_of_frm hfr Hn1.out).from _, hfr.below (B := nb) (by omega) (by simp), ⟨Htk.out (by first | rfl | trivial), ?_⟩, Hf.out.trans hfr (by simp)⟩
              rw [Hnx.out]
              exact obj_setCell (w := Wj.drewN (nq + nq2)) Hnj.out 0 (.int .i64 ((y.1 : Int) + 1))
            · have c1 : (x.2.2 != y.2.2) = true := by rw [bne_iff_ne]; exact hC
              have c2 : decide (x.2.2 = y.2.2) = false := by rw [decide_eq_false_iff_not]; exact hC
              rw [hA] at r10
              rw [hB] at r11
              gi_wp2_with fail
              refine wpIn_region_quiet_plain (by kernel_rfl) (by kernel_rfl) (by kernel_rfl) ?_
              repeat (gi_big_quiet_step (fail))
              refine wpQuietIn_nil ?_
              rintro _ ⟨nq2, rfl⟩
              gi_wp2_with fail
              exact ⟨(((keeps_of_frm Hfj.out Hn1.out).trans (drewN_keeps _ (nq + nq2))).trans (KeepsOthers.setCell _ _ _)).from _, Hts.out (by rintro rfl; exact hC rfl)⟩
          · have c1 : (x.2.1 != y.2.1) = true := by rw [bne_iff_ne]; exact hB
            have c2 : decide (x.2.1 = y.2.1) = false := by rw [decide_eq_false_iff_not]; exact hB
            rw [hA] at r10
            gi_wp2_with fail
            refine wpIn_region_quiet_plain (by kernel_rfl) (by kernel_rfl) (by kernel_rfl) ?_
            repeat (gi_big_quiet_step (fail))
            refine wpQuietIn_nil ?_
            rintro _ ⟨nq2, rfl⟩
            gi_wp2_with fail
            exact ⟨(((keeps_of_frm Hfj.out Hn1.out).trans (drewN_keeps _ (nq + nq2))).trans (KeepsOthers.setCell _ _ _)).from _, Hts.out (by rintro rfl; exact hB rfl)⟩
        · have c1 : ((x.1 : Int) != (y.1 : Int)) = true := by rw [bne_iff_ne]; omega
          have c2 : decide (x.1 = y.1) = false := by rw [decide_eq_false_iff_not]; exact hA
          have c3 : (x.1 != y.1) = true := by rw [bne_iff_ne]; exact hA
          gi_wp2_with fail
          refine wpIn_region_quiet_plain (by kernel_rfl) (by kernel_rfl) (by kernel_rfl) ?_
          repeat (gi_big_quiet_step (fail))
          refine wpQuietIn_nil ?_
          rintro _ ⟨nq2, rfl⟩
          gi_wp2_with fail
          exact ⟨(((keeps_of_frm Hfj.out Hn1.out).trans (drewN_keeps _ (nq + nq2))).trans (KeepsOthers.setCell _ _ _)).from _, Hts.out (by rintro rfl; exact hA rfl)⟩
      case done =>
        rintro D xs W hD hxs ⟨⟨_, hn1⟩, hf⟩ hKD
        rw [hxs] at hn1
        clear hxs
        obtain ⟨q1, q2, q3⟩ := held_end s.slots 0
        have hnW0 := lt_of_obj hnb
        have hsl2 := Ho.out.len
        have hsr := Ho.out.room
        have hroom : s.full.length = s.room := full_len s
        have hff : ∀ j, nextOf 0 (heldL s.slots 0) ≤ j → j < s.room → ∃ t v, s.full[j]? = some (0, t, v) := fun j h1 h2 => by
          by_cases hj : j < s.slots.length
          · obtain ⟨t, v, h3⟩ := q3 j h1 (by omega)
            rw [Nat.sub_zero] at h3
            exact ⟨t, v, by rw [full_get h2, at_some h3]⟩
          · exact ⟨0, 0, by rw [full_get h2, at_ge (by omega)]⟩
        have hH := HW.out.frmMore HsA.out hf (by omega) (by
          intro p hp
          simp only [List.mem_cons] at hp
          rcases hp with rfl | rfl | rfl | hp
          · dsimp only; omega
          · dsimp only; omega
          · dsimp only; omega
          · have := HL.out p hp; omega) hn1 hD hKD
        have hread : ∀ (W' : World) (j : Nat), Holds B w0 (sepR (sepR (rowR 75 3 (.slice a s.slots.length c) s.slots.length (slotCells s.slots)) noneR) (bothR hb rb s Q)) W' ((nb, .cells #[.int .i64 (j : Nat)] 3) :: (D, .deferred (some [])) :: (g, .cells #[.slice a s.slots.length c] 66) :: (b4, .cells #[.bool false] 4) :: (b3, .cells #[.pointer (some ⟨rb, 0, none⟩)] 31) :: L) → ∃ a2 cap2,
            W'.cell? ⟨nb, 0, none⟩ = some (.int .i64 (j : Nat)) ∧ W'.frozen? ⟨nb, 0, none⟩ = false ∧ nb < W'.heap.size ∧ W'.cell? ⟨b3, 0, none⟩ = some (.pointer (some ⟨rb, 0, none⟩)) ∧ W'.cell? ⟨rb, 0, none⟩ = some (.slice a2 s.room cap2) ∧ rb < W'.heap.size ∧
            (∀ c t v, s.full[j]? = some (c, t, v) → ∃ g2, a2 = some ⟨g2, 0, none⟩ ∧ W'.cell? ⟨g2, j * 3, none⟩ = some (.int .i64 c)) := by
          intro W' j hH
          obtain ⟨lv, fv, hR⟩ := (hH.drop.drop).refAt
          obtain ⟨a2, cap2, rfl⟩ := row_slice hR.rowL
          have hc0 := hR.c0
          rw [show s.ref.L.length = s.room from hroom] at hc0
          refine ⟨a2, cap2, cells1 (hH.box (k := nb) (o := .cells #[.int .i64 (j : Nat)] 3) (by simp)), frozen_of_obj (hH.box (k := nb) (o := .cells #[.int .i64 (j : Nat)] 3) (by simp)) 0, lt_of_obj (hH.box (k := nb) (o := .cells #[.int .i64 (j : Nat)] 3) (by simp)), cells1 (hH.box (k := b3) (o := .cells #[.pointer (some ⟨rb, 0, none⟩)] 31) (by simp)), hc0, lt_of_obj hR.box, fun c t v hx => ?_⟩
          obtain ⟨g2, cap3, hv, _, _, p0, _⟩ := hR.slot hx
          simp only [Value.slice.injEq] at hv
          exact ⟨g2, hv.1, p0⟩
        have Hread := Lib.hid hread
        have Hff := Lib.hid hff
        have HH := Lib.hid hH
        have hDn : nb < D := by omega
        clear hread hff hH hn1 hf hKD hnb hsl hc hab hroom q3
        go_wp2_with fail
        go_loopw [] (fun W' => ∃ j : Nat, nextOf 0 (heldL s.slots 0) ≤ j ∧ j ≤ s.room ∧ Holds B w0 (sepR (sepR (rowR 75 3 (.slice a s.slots.length c) s.slots.length (slotCells s.slots)) noneR) (bothR hb rb s Q)) W' ((nb, .cells #[.int .i64 (j : Nat)] 3) :: (D, .deferred (some [])) :: (g, .cells #[.slice a s.slots.length c] 66) :: (b4, .cells #[.bool false] 4) :: (b3, .cells #[.pointer (some ⟨rb, 0, none⟩)] 31) :: L)) (fun W' => s.room - cellNat W' nb)
        case atStart => exact ⟨_, Nat.le_refl _, by omega, HH.out⟩
        case round =>
          rename World => Wj
          obtain ⟨j, hj1, hj2, hH⟩ := hrel
          obtain ⟨a2, cap2, r1, r2, r3, r4, r5, r6, r7⟩ := Hread.out Wj j hH
          have HJ := Lib.hid hH
          have j1 : (0 : Int) ≤ (j : Int) := by omega
          have j5 : IntKind.i64.wrap ((j : Int) + 1) = (j : Int) + 1 := IntWalk.i64_in _ (by omega)
          clear hH
          by_cases hjr : j < s.room
          · obtain ⟨t, v, hx⟩ := Hff.out j hj1 hjr
            obtain ⟨g2, rfl, r8⟩ := r7 _ _ _ hx
            have j2 : (j : Int) < (s.room : Int) := by omega
            have j3 : decide ((j : Int) < (s.room : Int)) = true := by rw [decide_eq_true_eq]; exact j2
            have j4 : decide (j < s.room) = true := by rw [decide_eq_true_eq]; omega
            clear hx r7
            go_wp2_with fail
            go_quiet (fail)
            go_wp2_with fail
            go_roundw
            case rel => exact ⟨j + 1, by omega, by omega, (HJ.out.drewN HsA.out _).put (L := []) HsA.out (by omega) (by simp) (by
              intro p hp
              simp only [List.mem_cons] at hp
              rcases hp with rfl | rfl | rfl | rfl | hp
              · dsimp only; omega
              · dsimp only; omega
              · dsimp only; omega
              · dsimp only; omega
              · have := HL.out p hp; omega) 0 (.int .i64 ((j : Int) + 1))⟩
            case measure =>
              have h0 := HJ.out.box (k := nb) (o := .cells #[.int .i64 (j : Nat)] 3) (by simp)
              have h1 : ((Wj.drewN nq).setCell ⟨nb, 0, none⟩ (.int .i64 ((j : Int) + 1))).heap[nb]? = some (.cells #[.int .i64 ((j + 1 : Nat) : Int)] 3) := obj_setCell (w := Wj.drewN nq) h0 0 (.int .i64 ((j : Int) + 1))
              rw [cellNat_of h1, cellNat_of h0]
              omega
          · obtain rfl : j = s.room := by omega
            have j3 : decide ((s.room : Int) < (s.room : Int)) = false := by rw [decide_eq_false_iff_not]; omega
            have j4 : decide (s.room < s.room) = false := by rw [decide_eq_false_iff_not]; omega
            clear r7
            go_wp2_with fail
            go_quiet (fail)
            go_wp2_with fail
            refine wp_world (fun W => Holds B w0 (sepR (sepR (rowR 75 3 (.slice a s.slots.length c) s.slots.length (slotCells s.slots)) noneR) (bothR hb rb s Q)) W ((nb, .cells #[.int .i64 (s.room : Nat)] 3) :: (D, .deferred (some [])) :: (g, .cells #[.slice a s.slots.length c] 66) :: (b4, .cells #[.bool false] 4) :: (b3, .cells #[.pointer (some ⟨rb, 0, none⟩)] 31) :: L)) (HJ.out.drewN HsA.out _) ?_
            intro W5 h5
            obtain ⟨a3, cap3, p1, p2, p3, p4, p5, p6, _⟩ := Hread.out W5 _ h5
            have o4 := h5.box (k := b4) (o := .cells #[.bool false] 4) (by simp)
            have u0 : W5.frozen? ⟨b4, 0, none⟩ = false := frozen_of_obj o4 0
            have u1 := cells1 o4
            have zu := lt_of_obj o4
            have H5 := Lib.hid h5
            clear h5 o4 r1 r2 r3 r4 r5 r6 HJ HH
            go_still_tail 7, (by kernel_rfl)
            change wpList _ _ _ _ _ W5.drew
            go_wp2_with fail
            have hLb : ∀ p ∈ L, p.1 ≠ b4 ∧ p.1 ≠ D := fun p hp => by have := HL.out p hp; omega
            have h6 := (H5.out.put (L := [_, _, _]) HsA.out (by omega) (by
              intro p hp
              simp only [List.mem_cons, List.not_mem_nil, or_false] at hp
              rcases hp with rfl | rfl | rfl
              · dsimp only; omega
              · dsimp only; omega
              · dsimp only; omega) (by
              intro p hp
              simp only [List.mem_cons] at hp
              rcases hp with rfl | hp
              · dsimp only; omega
              · exact (hLb p hp).1) 0 (.bool true)).drew HsA.out
            have g1 : (W5.setCell ⟨b4, 0, none⟩ (.bool true)).drew.heap[D]? = some (.deferred (some [])) := h6.box (k := D) (by simp)
            have g2 : (W5.setCell ⟨b4, 0, none⟩ (.bool true)).drew.heap[b4]? = some (.cells #[.bool true] 4) := h6.box (k := b4) (by simp)
            have h7 := (h6.sub (M := (D, .deferred (some [])) :: L) (fun p hp => by simp at hp ⊢; rcases hp with rfl | hp <;> simp [*])).frmBox HsA.out (Frm.of_grown (grownBy_putObj' _ D (.deferred none)) (fun k e => .inl (by simpa using e.symm))) (by omega) (fun p hp => (hLb p hp).2) (World.putObj_heap_same (lt_of_obj g1))
            have g3 := cells1 ((World.putObj_heap_other (o := .deferred none) (show b4 ≠ D by omega)).trans g2)
            refine ⟨by simp, .inl ⟨_, _, rfl, run_takeDeferred g1, ?_⟩⟩
            refine ⟨.bool true, by simp [results, Try.results14, go_sem, g3], rfl, ?_⟩
            exact (h7.sub (M := L) (fun p hp => by simp [hp])).drop
      case stop =>
        rintro D c pre W _ hk h _
        exact absurd hk h
end
end Go.Proofs.Ytpfolcoijncfjaa
