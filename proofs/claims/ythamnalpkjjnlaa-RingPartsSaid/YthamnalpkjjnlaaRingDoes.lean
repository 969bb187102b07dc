/- A call of a ring and of the document's answer. -/
import Derived.Test.YthamnalpkjjnlaaRingRefE
import Derived.Test.YthamnalpkjjnlaaRingNilW
namespace Go.Proofs.Ythamnalpkjjnlaa
open Go.RowKit Go.Maps

section
variable {B : Nat} {w0 w : World} {Q : World → List Nat → Prop} {L : List (Nat × Obj)}
abbrev bothR (hb rb room : Nat) (S : List It) (Q : World → List Nat → Prop) : World → List Nat → Prop := sepR (ringR hb room S) (sepR (refR rb room S) Q)
theorem bothR_stable (hQ : Stable Q) (hb rb room : Nat) (S : List It) : Stable (bothR hb rb room S Q) := sepR_stable (ringR_stable _ _ _) (sepR_stable (refR_stable _ _ _) hQ)
theorem Holds.bothFits {hb rb room : Nat} {S : List It} (h : Holds B w0 (bothR hb rb room S Q) w L) : Rise S ∧ S.length ≤ room ∧ room ≤ 4096 := by
  obtain ⟨a, c, f, P, hf, _⟩ := h.ringOpen
  exact ⟨hf.rise, hf.many, hf.room⟩

set_option maxHeartbeats 4000000 in
set_option maxRecDepth 100000 in
theorem does_push (hQ : Stable Q) {hb rb room : Nat} {S : List It} (h : Holds B w0 (bothR hb rb room S Q) w L) (hr1 : 1 ≤ room) (t v : Int) :
    Calls Try.prog 12 #[.pointer (some ⟨hb, 0, none⟩), .pointer (some ⟨rb, 0, none⟩), (OpV.mk 0 t v).val] w (Goes (.bool true) B w0 (bothR hb rb room (pushS room S ⟨t, v⟩) Q) L) := by
  obtain ⟨hS, hm, hr2⟩ := h.bothFits
  have hs := bothR_stable hQ hb rb room S
  have h2 := h.alloc hs (.cells #[.int .i64 0, .int .i64 t, .int .i64 v] 35)
  obtain ⟨p0, p1, p2⟩ := cells3 (h2.box (k := w.heap.size) (o := .cells #[.int .i64 0, .int .i64 t, .int .i64 v] 35) (by simp))
  have H2 := Lib.hid h2
  have H2d := Lib.hid (h2.drew hs)
  obtain ⟨pe, hpe⟩ : ∃ pe, pushE room S t = pe := ⟨_, rfl⟩
  have Hpe := Lib.hid hpe
  have Hm := Lib.hid hm
  clear h h2 hpe hS hm p0 p1 p2
  go_enter Try.func12, Try.ntmps12
  go_wp2_with fail
  generalize hW : w.alloc (.cells #[.int .i64 0, .int .i64 t, .int .i64 v] 35) = W at H2 H2d ⊢
  clear hW
  obtain ⟨p0, p1, p2⟩ := cells3 (H2.out.box (k := w.heap.size) (o := .cells #[.int .i64 0, .int .i64 t, .int .i64 v] 35) (by simp))
  have z0 := World.block_lt_of_cell? _ _ p0
  dsimp only at z0
  go_region_held3 (fun w' => w'.cell? ⟨w.heap.size, 1, none⟩ = some (.int .i64 t) ∧ w'.cell? ⟨w.heap.size, 2, none⟩ = some (.int .i64 v))
    (first | exact ⟨c1, c2⟩ | exact ⟨b1, b2⟩ | go_keep)
    ((first
      | (go_at_call 26; refine (rpush_goes (sepR_stable (ringR_stable _ _ _) hQ) H3.out Hm.out hr1 hr2 t v).mono ?_; rintro e w4 ⟨rfl, h4⟩; rw [Hpe.out]; obtain ⟨_, c1, c2⟩ := cells3 (h4.box (k := w.heap.size) (o := .cells #[.int .i64 0, .int .i64 t, .int .i64 v] 35) (by simp)); have H4 := Lib.hid h4; clear h4)
      | (go_at_call 22; refine (push_goes (sepR_stable (refR_stable _ _ _) hQ) (by first | exact H2d.out | exact H2.out) hr1 t v).mono ?_; rintro e w3 ⟨rfl, h3⟩; rw [Hpe.out]; obtain ⟨_, b1, b2⟩ := cells3 (h3.box (k := w.heap.size) (o := .cells #[.int .i64 0, .int .i64 t, .int .i64 v] 35) (by simp)); have H3 := Lib.hid (h3.conv Conv.exch); clear h3)))
  have H5 := Lib.hid (H4.out.conv Conv.exch)
  clear H4 H3 H2 H2d p0 p1 p2
  go_wp2_with fail
  go_ret
  exact ⟨by simp, H5.out.sub (fun p hp => by simp [hp])⟩

set_option maxHeartbeats 4000000 in
set_option maxRecDepth 100000 in
theorem does_back (hQ : Stable Q) {hb rb room : Nat} {S : List It} (h : Holds B w0 (bothR hb rb room S Q) w L) (hl : S.length ≤ 1000) (t v : Int) :
    Calls Try.prog 12 #[.pointer (some ⟨hb, 0, none⟩), .pointer (some ⟨rb, 0, none⟩), (OpV.mk 1 t v).val] w (Goes (.bool true) B w0 (bothR hb rb room (S.take (cnt (fun x => decide (x ≥ t)) S)) Q) L) := by
  obtain ⟨hS, hm, hr2⟩ := h.bothFits
  have hs := bothR_stable hQ hb rb room S
  have h2 := h.alloc hs (.cells #[.int .i64 1, .int .i64 t, .int .i64 v] 35)
  have H2 := Lib.hid h2
  have H2d := Lib.hid (h2.drew hs)
  have hb1 := fun (W : World) (hW : Holds B w0 (bothR hb rb room S Q) W ((w.heap.size, .cells #[.int .i64 1, .int .i64 t, .int .i64 v] 35) :: L)) => back_goes (sepR_stable (refR_stable rb room S) hQ) hW t
  have hb2 := fun (R : World → List Nat → Prop) (hR : Stable R) (W : World) (hW : Holds B w0 (sepR (refR rb room S) R) W ((w.heap.size, .cells #[.int .i64 1, .int .i64 t, .int .i64 v] 35) :: L)) => rback_goes hR hW hS (by omega) t
  have hk := cnt_le (fun x => decide (x ≥ t)) S
  generalize cnt (fun x => decide (x ≥ t)) S = k at hb1 hb2 hk ⊢
  obtain ⟨n, hn⟩ : ∃ n, S.length - k = n := ⟨_, rfl⟩
  obtain ⟨l, hll⟩ : ∃ l, (valsOf (S.drop k)).reverse = l := ⟨_, rfl⟩
  have hln : l.length = n := by rw [← hll, ← hn]; simp [valsOf]; try omega
  unfold BackDoes at hb1
  rw [hll] at hb1 hb2
  rw [hn] at hb1 hb2
  have hn1 : n ≤ 1000 := by omega
  have Hb1 := Lib.hid hb1
  have Hb2 := Lib.hid hb2
  have Hln := Lib.hid hln
  clear h h2 hS hm hb1 hb2 hk hll hln hn
  skip
  go_enter Try.func12, Try.ntmps12
  go_wp2_with fail
  generalize hW : w.alloc (.cells #[.int .i64 1, .int .i64 t, .int .i64 v] 35) = W at H2 H2d ⊢
  clear hW
  obtain ⟨p0, p1, p2⟩ := cells3 (H2.out.box (k := w.heap.size) (o := .cells #[.int .i64 1, .int .i64 t, .int .i64 v] 35) (by simp))
  have z0 := World.block_lt_of_cell? _ _ p0
  dsimp only at z0
  go_wp2_with fail
  go_region_held3 (fun w' => w'.cell? ⟨w.heap.size, 1, none⟩ = some (.int .i64 t))
    (first | exact d1 | exact c1 | exact b1 | go_keep)
    ((first
      | (go_at_call 25; refine (ints_any _ _ _ _ l _ _ _ l (SlAt.of_row intEnc_len (H4.out.conv Conv.third).row Hln.out) (SlAt.of_row intEnc_len H4.out.row Hln.out) hn1).mono ?_; rintro e w5 ⟨rfl, hf5⟩; have h5 := H4.out.made hsT hf5; obtain ⟨_, d1, _⟩ := cells3 (h5.box (k := w.heap.size) (o := .cells #[.int .i64 1, .int .i64 t, .int .i64 v] 35) (by simp)); have H5 := Lib.hid h5; clear h5 hf5)
      | (go_at_call 27; refine (Hb2.out _ hsR _ H3.out).mono ?_; rintro e w4 ⟨la4, lc4, rfl, h4⟩; obtain ⟨_, c1, _⟩ := cells3 (h4.box (k := w.heap.size) (o := .cells #[.int .i64 1, .int .i64 t, .int .i64 v] 35) (by simp)); have hsT : Stable (sepR (intR (.slice la4 n lc4) n l) (sepR (refR rb room (S.take k)) (sepR (intR (.slice la3 n lc3) n l) (sepR (ringR hb room (S.take k)) Q)))) := sepR_stable (rowR_stable _ _ _ _ _) (sepR_stable (refR_stable _ _ _) hsR); have H4 := Lib.hid h4; clear h4)
      | (go_at_call 17; refine (Hb1.out _ (by first | exact H2d.out | exact H2.out)).mono ?_; rintro e w3 ⟨la3, lc3, rfl, h3⟩; obtain ⟨_, b1, _⟩ := cells3 (h3.box (k := w.heap.size) (o := .cells #[.int .i64 1, .int .i64 t, .int .i64 v] 35) (by simp)); have hsR : Stable (sepR (intR (.slice la3 n lc3) n l) (sepR (ringR hb room (S.take k)) Q)) := sepR_stable (rowR_stable _ _ _ _ _) (sepR_stable (ringR_stable _ _ _) hQ); have H3 := Lib.hid (h3.conv Conv.third); clear h3)))
  have H6 := Lib.hid (((H5.out.drop.conv Conv.exch).drop).conv Conv.exch)
  clear H5 H4 H3 H2 H2d p0 p1 p2
  go_wp2_with fail
  go_ret
  exact ⟨by simp, H6.out.sub (fun p hp => by simp [hp])⟩

set_option maxHeartbeats 4000000 in
set_option maxRecDepth 100000 in
theorem does_front (hQ : Stable Q) {hb rb room : Nat} {S : List It} (h : Holds B w0 (bothR hb rb room S Q) w L) (hl : S.length ≤ 1000) (t v : Int) :
    Calls Try.prog 12 #[.pointer (some ⟨hb, 0, none⟩), .pointer (some ⟨rb, 0, none⟩), (OpV.mk 2 t v).val] w (Goes (.bool true) B w0 (bothR hb rb room (S.drop (cnt (fun x => decide (x ≥ t)) S)) Q) L) := by
  obtain ⟨hS, hm, hr2⟩ := h.bothFits
  have hs := bothR_stable hQ hb rb room S
  have h2 := h.alloc hs (.cells #[.int .i64 2, .int .i64 t, .int .i64 v] 35)
  have H2 := Lib.hid h2
  have H2d := Lib.hid (h2.drew hs)
  have hb1 := fun (W : World) (hW : Holds B w0 (bothR hb rb room S Q) W ((w.heap.size, .cells #[.int .i64 2, .int .i64 t, .int .i64 v] 35) :: L)) => front_goes (sepR_stable (refR_stable rb room S) hQ) hW t
  have hb2 := fun (R : World → List Nat → Prop) (hR : Stable R) (W : World) (hW : Holds B w0 (sepR (refR rb room S) R) W ((w.heap.size, .cells #[.int .i64 2, .int .i64 t, .int .i64 v] 35) :: L)) => rfront_goes hR hW hS (by omega) t
  have hk := cnt_le (fun x => decide (x ≥ t)) S
  generalize cnt (fun x => decide (x ≥ t)) S = k at hb1 hb2 hk ⊢
  obtain ⟨n, hn⟩ : ∃ n, k = n := ⟨_, rfl⟩
  obtain ⟨l, hll⟩ : ∃ l, valsOf (S.take k) = l := ⟨_, rfl⟩
  have hln : l.length = n := by rw [← hll, ← hn]; simp [valsOf]; try omega
  unfold FrontDoes at hb1
  rw [hll] at hb1 hb2
  have hn' := hn
  have hn1 : n ≤ 1000 := by omega
  have Hb1 := Lib.hid hb1
  have Hb2 := Lib.hid hb2
  have Hln := Lib.hid hln
  clear h h2 hS hm hb1 hb2 hk hll hln hn'
  subst hn
  go_enter Try.func12, Try.ntmps12
  go_wp2_with fail
  generalize hW : w.alloc (.cells #[.int .i64 2, .int .i64 t, .int .i64 v] 35) = W at H2 H2d ⊢
  clear hW
  obtain ⟨p0, p1, p2⟩ := cells3 (H2.out.box (k := w.heap.size) (o := .cells #[.int .i64 2, .int .i64 t, .int .i64 v] 35) (by simp))
  have z0 := World.block_lt_of_cell? _ _ p0
  dsimp only at z0
  go_wp2_with fail
  go_region_held3 (fun w' => w'.cell? ⟨w.heap.size, 1, none⟩ = some (.int .i64 t))
    (first | exact d1 | exact c1 | exact b1 | go_keep)
    ((first
      | (go_at_call 25; refine (ints_any _ _ _ _ l _ _ _ l (SlAt.of_row intEnc_len (H4.out.conv Conv.third).row Hln.out) (SlAt.of_row intEnc_len H4.out.row Hln.out) hn1).mono ?_; rintro e w5 ⟨rfl, hf5⟩; have h5 := H4.out.made hsT hf5; obtain ⟨_, d1, _⟩ := cells3 (h5.box (k := w.heap.size) (o := .cells #[.int .i64 2, .int .i64 t, .int .i64 v] 35) (by simp)); have H5 := Lib.hid h5; clear h5 hf5)
      | (go_at_call 28; refine (Hb2.out _ hsR _ H3.out).mono ?_; rintro e w4 ⟨la4, lc4, rfl, h4⟩; obtain ⟨_, c1, _⟩ := cells3 (h4.box (k := w.heap.size) (o := .cells #[.int .i64 2, .int .i64 t, .int .i64 v] 35) (by simp)); have hsT : Stable (sepR (intR (.slice la4 k lc4) k l) (sepR (refR rb room (S.drop k)) (sepR (intR (.slice la3 k lc3) k l) (sepR (ringR hb room (S.drop k)) Q)))) := sepR_stable (rowR_stable _ _ _ _ _) (sepR_stable (refR_stable _ _ _) hsR); have H4 := Lib.hid h4; clear h4)
      | (go_at_call 18; refine (Hb1.out _ (by first | exact H2d.out | exact H2.out)).mono ?_; rintro e w3 ⟨la3, lc3, rfl, h3⟩; obtain ⟨_, b1, _⟩ := cells3 (h3.box (k := w.heap.size) (o := .cells #[.int .i64 2, .int .i64 t, .int .i64 v] 35) (by simp)); have hsR : Stable (sepR (intR (.slice la3 k lc3) k l) (sepR (ringR hb room (S.drop k)) Q)) := sepR_stable (rowR_stable _ _ _ _ _) (sepR_stable (ringR_stable _ _ _) hQ); have H3 := Lib.hid (h3.conv Conv.third); clear h3)))
  have H6 := Lib.hid (((H5.out.drop.conv Conv.exch).drop).conv Conv.exch)
  clear H5 H4 H3 H2 H2d p0 p1 p2
  go_wp2_with fail
  go_ret
  exact ⟨by simp, H6.out.sub (fun p hp => by simp [hp])⟩


set_option maxHeartbeats 4000000 in
set_option maxRecDepth 100000 in
theorem does_first (hQ : Stable Q) {hb rb room : Nat} {S : List It} (h : Holds B w0 (bothR hb rb room S Q) w L) (t v : Int) :
    Calls Try.prog 12 #[.pointer (some ⟨hb, 0, none⟩), .pointer (some ⟨rb, 0, none⟩), (OpV.mk 3 t v).val] w (Goes (.bool true) B w0 (bothR hb rb room S Q) L) := by
  obtain ⟨hS, hm, hr2⟩ := h.bothFits
  have hs := bothR_stable hQ hb rb room S
  have h2 := h.made hs ((Frm.refl _ _).alloc (.cells #[.int .i64 3, .int .i64 t, .int .i64 v] 35))
  have hf := first_says h2.ringAt
  obtain ⟨p0, p1, p2⟩ := cells3 (obj_new w (.cells #[.int .i64 3, .int .i64 t, .int .i64 v] 35))
  have ht := fun w' (hf' : Frm [] (w.alloc (.cells #[.int .i64 3, .int .i64 t, .int .i64 v] 35)) w') => told_says ((h2.drop.refAt).frm hf') (n := min 1 S.length) (by omega)
  obtain ⟨a, c, hb1, _⟩ := h2.drop.refAt
  obtain ⟨k, hk⟩ : ∃ k, min 1 S.length = k := ⟨_, rfl⟩
  have e1 : IntKind.i64.wrap ((S.length : Int) - 1) = (S.length : Int) - 1 := IntWalk.i64_in _ (by omega)
  have hk1 : S.length = 0 ∧ k = 0 ∨ 0 < S.length ∧ k = 1 := by omega
  have Hk1 := Lib.hid hk1
  rw [hk] at hf ht
  have Hf := Lib.hid hf
  have Ht := Lib.hid ht
  have H2 := Lib.hid h2
  have Hb := Lib.hid hb1
  clear h h2 hf ht hS hm hk hb1 hk1
  go_enter Try.func12, Try.ntmps12
  go_wp2_with fail
  refine Hf.out.mono ?_
  rintro e w1 ⟨rfl, hF⟩
  obtain ⟨c0, c1⟩ := cells2 (hF.obj Hb.out (by simp))
  have hbl := lt_of_obj (hF.obj Hb.out (by simp))
  have h3 := H2.out.made hs hF
  have Ht2 := Lib.hid (Ht.out w1 hF)
  have H3 := Lib.hid h3
  clear hF h3 H2 Ht p0 p1 p2
  dsimp only [tellT]
  go_wp2_with fail
  all_goals
    have hk1 := Hk1.out
    have ht2 := Ht2.out
    have hke : (k : Int) - 1 = 0 ∨ (k : Int) - 1 = (S.length : Int) - 1 := by omega
    first
      | (rw [show (k : Int) - 1 = 0 by omega] at ht2; refine ht2.mono ?_)
      | (rw [show (k : Int) - 1 = (S.length : Int) - 1 by omega] at ht2; refine ht2.mono ?_)
    rintro e w2 ⟨rfl, rfl⟩
    clear hke ht2 hk1
    go_wp2_with fail
    go_ret
    exact ⟨rfl, H3.out⟩

set_option maxHeartbeats 4000000 in
set_option maxRecDepth 100000 in
theorem does_last (hQ : Stable Q) {hb rb room : Nat} {S : List It} (h : Holds B w0 (bothR hb rb room S Q) w L) (t v : Int) :
    Calls Try.prog 12 #[.pointer (some ⟨hb, 0, none⟩), .pointer (some ⟨rb, 0, none⟩), (OpV.mk 4 t v).val] w (Goes (.bool true) B w0 (bothR hb rb room S Q) L) := by
  obtain ⟨hS, hm, hr2⟩ := h.bothFits
  have hs := bothR_stable hQ hb rb room S
  have h2 := h.made hs ((Frm.refl _ _).alloc (.cells #[.int .i64 4, .int .i64 t, .int .i64 v] 35))
  have hf := last_says h2.ringAt
  obtain ⟨p0, p1, p2⟩ := cells3 (obj_new w (.cells #[.int .i64 4, .int .i64 t, .int .i64 v] 35))
  have ht := fun w' (hf' : Frm [] (w.alloc (.cells #[.int .i64 4, .int .i64 t, .int .i64 v] 35)) w') => told_says ((h2.drop.refAt).frm hf') (Nat.le_refl S.length)
  obtain ⟨a, c, hb1, _⟩ := h2.drop.refAt
  have e1 : IntKind.i64.wrap ((S.length : Int) - 1) = (S.length : Int) - 1 := IntWalk.i64_in _ (by omega)
  have Hf := Lib.hid hf
  have Ht := Lib.hid ht
  have H2 := Lib.hid h2
  have Hb := Lib.hid hb1
  clear h h2 hf ht hS hm hb1
  go_enter Try.func12, Try.ntmps12
  go_wp2_with fail
  refine Hf.out.mono ?_
  rintro e w1 ⟨rfl, hF⟩
  obtain ⟨c0, c1⟩ := cells2 (hF.obj Hb.out (by simp))
  have hbl := lt_of_obj (hF.obj Hb.out (by simp))
  have h3 := H2.out.made hs hF
  have Ht2 := Lib.hid (Ht.out w1 hF)
  have H3 := Lib.hid h3
  clear hF h3 H2 Ht p0 p1 p2
  dsimp only [tellT]
  go_wp2_with fail
  refine Ht2.out.mono ?_
  rintro e w2 ⟨rfl, rfl⟩
  go_wp2_with fail
  go_ret
  exact ⟨rfl, H3.out⟩

set_option maxHeartbeats 4000000 in
set_option maxRecDepth 100000 in
theorem does_upto (hQ : Stable Q) {hb rb room : Nat} {S : List It} (h : Holds B w0 (bothR hb rb room S Q) w L) (ask t v : Int) (n0 : (ask == 0) = false) (n1 : (ask == 1) = false) (n2 : (ask == 2) = false) (n3 : (ask == 3) = false) (n4 : (ask == 4) = false) :
    Calls Try.prog 12 #[.pointer (some ⟨hb, 0, none⟩), .pointer (some ⟨rb, 0, none⟩), (OpV.mk ask t v).val] w (Goes (.bool true) B w0 (bothR hb rb room S Q) L) := by
  obtain ⟨hS, hm, hr2⟩ := h.bothFits
  have hs := bothR_stable hQ hb rb room S
  have h2 := h.made hs ((Frm.refl _ _).alloc (.cells #[.int .i64 ask, .int .i64 t, .int .i64 v] 35))
  have hf := upto_says h2.ringAt hS t
  have hbx := obj_new w (.cells #[.int .i64 ask, .int .i64 t, .int .i64 v] 35)
  obtain ⟨p0, p1, p2⟩ := cells3 hbx
  have hk := cnt_le (fun x => decide (x > t)) S
  have hu := fun w' (hf' : Frm [] (w.alloc (.cells #[.int .i64 ask, .int .i64 t, .int .i64 v] 35)) w') => rupto_says ((h2.drop.refAt).frm hf') hS (by omega) t
  have ht := fun w' (hf' : Frm [] (w.alloc (.cells #[.int .i64 ask, .int .i64 t, .int .i64 v] 35)) w') => told_says ((h2.drop.refAt).frm hf') hk
  generalize cnt (fun x => decide (x > t)) S = k at hf hu ht hk
  have Hf := Lib.hid hf
  have Ht := Lib.hid ht
  have Hu := Lib.hid hu
  have H2 := Lib.hid h2
  have Hbx := Lib.hid hbx
  clear h h2 hf ht hS hm hbx hu
  go_enter Try.func12, Try.ntmps12
  go_wp2_with fail
  refine Hf.out.mono ?_
  rintro e w1 ⟨rfl, hF⟩
  obtain ⟨b0, b1, b2⟩ := cells3 (hF.obj Hbx.out (by simp))
  have z0 := World.block_lt_of_cell? _ _ b0
  dsimp only at z0
  have h3 := H2.out.made hs hF
  have Ht2 := Lib.hid (Ht.out w1 hF)
  have Hu2 := Lib.hid (Hu.out w1 hF)
  have H3 := Lib.hid h3
  clear hF h3 H2 Ht Hu p0 p1 p2
  dsimp only [tellT]
  go_wp2_with fail
  refine Hu2.out.mono ?_
  rintro e w2 ⟨rfl, rfl⟩
  go_wp2_with fail
  refine Ht2.out.mono ?_
  rintro e w3 ⟨rfl, rfl⟩
  go_wp2_with fail
  go_ret
  exact ⟨rfl, H3.out⟩

/-- What a call makes of the things. -/
def doS (room : Nat) (o : OpV) (S : List It) : List It :=
  if o.ask = 0 then pushS room S ⟨o.at_, o.v⟩ else if o.ask = 1 then S.take (cnt (fun x => decide (x ≥ o.at_)) S) else if o.ask = 2 then S.drop (cnt (fun x => decide (x ≥ o.at_)) S) else S
theorem doS_len (room : Nat) (o : OpV) (S : List It) : (doS room o S).length ≤ S.length + 1 := by
  unfold doS pushS
  split
  · split
    · omega
    · split
      · omega
      · simp
  · split
    · rw [List.length_take]; omega
    · split
      · rw [List.length_drop]; omega
      · omega
theorem does_goes (hQ : Stable Q) {hb rb room : Nat} {S : List It} (h : Holds B w0 (bothR hb rb room S Q) w L) (hr1 : 1 ≤ room) (hl : S.length ≤ 1000) (o : OpV) :
    Calls Try.prog 12 #[.pointer (some ⟨hb, 0, none⟩), .pointer (some ⟨rb, 0, none⟩), o.val] w (Goes (.bool true) B w0 (bothR hb rb room (doS room o S) Q) L) := by
  obtain ⟨ask, t, v⟩ := o
  unfold doS
  dsimp only
  by_cases h0 : ask = 0
  · subst h0; exact does_push hQ h hr1 t v
  rw [if_neg h0]
  by_cases h1 : ask = 1
  · subst h1; exact does_back hQ h hl t v
  rw [if_neg h1]
  by_cases h2 : ask = 2
  · subst h2; exact does_front hQ h hl t v
  rw [if_neg h2]
  by_cases h3 : ask = 3
  · subst h3; exact does_first hQ h t v
  by_cases h4 : ask = 4
  · subst h4; exact does_last hQ h t v
  exact does_upto hQ h ask t v (by simpa using h0) (by simpa using h1) (by simpa using h2) (by simpa using h3) (by simpa using h4)
end
end Go.Proofs.Ythamnalpkjjnlaa
