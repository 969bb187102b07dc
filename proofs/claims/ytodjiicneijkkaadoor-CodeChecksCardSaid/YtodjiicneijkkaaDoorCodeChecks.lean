/- CodeChecks, walked. -/
import Derived.Test.YtodjiicneijkkaaDoorCodeG
import Derived.Deep.RegionHeld3
namespace Go.Proofs.YtodjiicneijkkaaDoor
open Go.RowKit Go.Maps

theorem one_at (w : World) (x : Ins) (T : TypeId) : Ins.at_ (w.alloc (.cells #[.int .i64 x.op, .int .i64 x.a, .int .i64 x.b, .int .i64 x.c, .int .i64 x.d] T)) (some ⟨w.heap.size, 0, none⟩) 1 1 [x] := by
  refine ⟨rfl, Nat.le_refl _, by unfold maxLen; omega, .inr ⟨w.heap.size, 0, rfl, by simp, fun i y hi j u hj => ?_⟩⟩
  rw [cell_of_obj (obj_new w _)]
  match i, hi with
  | 0, hi =>
    simp at hi; subst hi
    match j, hj with
    | 0, hj => simpa [Ins.enc] using hj
    | 1, hj => simpa [Ins.enc] using hj
    | 2, hj => simpa [Ins.enc] using hj
    | 3, hj => simpa [Ins.enc] using hj
    | 4, hj => simpa [Ins.enc] using hj
    | j + 5, hj => simp [Ins.enc] at hj
  | i + 1, hi => simp at hi

set_option maxHeartbeats 4000000 in
set_option maxRecDepth 100000 in
theorem checks_any {a : Option Addr} {n c : Nat} {l : List Ins} {w : World} (hf : Facts w) (x : Ins) (many : Int) (hl : Ins.at_ w a n c l) : Calls Tryd.prog 3 #[x.val, .int .i64 many, .slice a n c] w (LawTrue w) := by
  have hn : l.length = n := hl.1
  have HO := Lib.hid hf
  have HL := Lib.hid hl
  have Hn := Lib.hid hn
  have H0 := Lib.hid ((Holds.start w).alloc noneR_stable (.cells #[.int .i64 x.op, .int .i64 x.a, .int .i64 x.b, .int .i64 x.c, .int .i64 x.d] 23))
  clear hf hl hn
  by_cases h80 : n > 80
  · have g1 : decide ((n : Int) > 80) = true := by rw [decide_eq_true_eq]; omega
    go_enter Tryd.func3, Tryd.ntmps3
    go_wp2_with fail
    refine (awake_any (HO.out.frm ((Frm.refl _ _).alloc _))).mono ?_
    rintro e w1 ⟨rfl, hF⟩
    have HF := Lib.hid (H0.out.made noneR_stable hF)
    clear hF
    go_wp2_with fail
    go_ret
    exact ⟨rfl, HF.out.below⟩
  · have g1 : decide ((n : Int) > 80) = false := by rw [decide_eq_false_iff_not]; omega
    go_enter Tryd.func3, Tryd.ntmps3
    go_wp2_with fail
    refine (word_any x.op (HO.out.frm ((Frm.refl _ _).alloc _)).ops).mono ?_
    rintro e w1 ⟨rfl, hF⟩
    have H1 := Lib.hid (H0.out.made noneR_stable hF)
    clear hF
    have hbox := H1.out.box (k := w.heap.size) (o := .cells #[.int .i64 x.op, .int .i64 x.a, .int .i64 x.b, .int .i64 x.c, .int .i64 x.d] 23) (by simp)
    have hc : ∀ w', Frm [] w1 w' → w'.cell? ⟨w.heap.size, 0, none⟩ = some (.int .i64 x.op) ∧ w'.cell? ⟨w.heap.size, 1, none⟩ = some (.int .i64 x.a) ∧ w'.cell? ⟨w.heap.size, 2, none⟩ = some (.int .i64 x.b) ∧ w'.cell? ⟨w.heap.size, 3, none⟩ = some (.int .i64 x.c) ∧ w'.cell? ⟨w.heap.size, 4, none⟩ = some (.int .i64 x.d) := fun w' hF => cells5 (hF.obj hbox (by simp))
    have HC := Lib.hid hc
    have F0 := Lib.hid (Frm.refl [] w1).drew
    have HW1 := Lib.hid (Frm.of_below (S := []) H1.out.below (Nat.le_refl _))
    have hks : (tx (kindsK (opK x.op))).size = manyOf x.op := by rw [tx_size, kindsK_length]; rfl
    clear hbox hc
    go_wp2_with fail
    refine wp_region_held_drew (S := fun w' => w'.cell? ⟨w.heap.size, 0, none⟩ = some (.int .i64 x.op) ∧ w'.cell? ⟨w.heap.size, 1, none⟩ = some (.int .i64 x.a) ∧ w'.cell? ⟨w.heap.size, 2, none⟩ = some (.int .i64 x.b) ∧ w'.cell? ⟨w.heap.size, 3, none⟩ = some (.int .i64 x.c) ∧ w'.cell? ⟨w.heap.size, 4, none⟩ = some (.int .i64 x.d)) (by kernel_rfl) ?_ (fun _ => ?_)
    · first | exact HC.out _ F0.out | exact HC.out _ (Frm.refl _ _)
    refine wpAnyH_take (i := 0) (oi := ⟨some 25, _, _, _, _, _⟩) (v := ?_) rfl (by kernel_rfl) (by kernel_rfl) (by kernel_rfl) (fun _ _ _ h => h) (Or.inl ⟨by rfl, ?_⟩) (by assumption) ?_
    rotate_left
    · (intro w hSw; (try dsimp only at hSw); go_simp; try with_reducible rfl)
    try simp only [Act.put, List.setIfInBounds_toArray, List.set_cons_zero, List.set_cons_succ]
    refine wpAnyH_take (i := 1) (oi := ⟨some 26, _, _, _, _, _⟩) (v := ?_) rfl (by kernel_rfl) (by kernel_rfl) (by kernel_rfl) (fun _ _ _ h => h) (Or.inl ⟨by rfl, ?_⟩) (by assumption) ?_
    rotate_left
    · (intro w hSw; (try dsimp only at hSw); go_simp; try with_reducible rfl)
    try simp only [Act.put, List.setIfInBounds_toArray, List.set_cons_zero, List.set_cons_succ]
    refine wpAnyH_take (i := 2) (oi := ⟨some 27, _, _, _, _, _⟩) (v := ?_) rfl (by kernel_rfl) (by kernel_rfl) (by kernel_rfl) (fun _ _ _ h => h) (Or.inl ⟨by rfl, ?_⟩) (by assumption) ?_
    rotate_left
    · (intro w hSw; (try dsimp only at hSw); go_simp; try with_reducible rfl)
    try simp only [Act.put, List.setIfInBounds_toArray, List.set_cons_zero, List.set_cons_succ]
    refine wpAnyH_ready (rs := [3]) (by kernel_rfl) (by simp) ?_
    refine AllReadyH.cons (o := ⟨some 28, _, _, _, _, _⟩) rfl (fun K hK => ?_) AllReadyH.nil
    go_simp
    refine (rword_any x.op _).mono ?_
    rintro e wA ⟨rfl, hF⟩
    have FA := Lib.hid (F0.out.trans (T := []) hF (by simp))
    refine hK.out _ _ (HC.out _ FA.out) (fun _ => ?_)
    clear hK K hF
    try simp only [Act.put, List.setIfInBounds_toArray, List.set_cons_zero, List.set_cons_succ]
    refine wpAnyH_take (i := 4) (oi := ⟨some 29, _, _, _, _, _⟩) (v := ?_) rfl (by kernel_rfl) (by kernel_rfl) (by kernel_rfl) (fun _ _ _ h => h) (Or.inl ⟨by rfl, ?_⟩) (by assumption) ?_
    rotate_left
    · (intro w hSw; (try dsimp only at hSw); go_simp; try with_reducible rfl)
    try simp only [Act.put, List.setIfInBounds_toArray, List.set_cons_zero, List.set_cons_succ]
    refine wpAnyH_take (i := 5) (oi := ⟨some 30, _, _, _, _, _⟩) (v := ?_) rfl (by kernel_rfl) (by kernel_rfl) (by kernel_rfl) (fun _ _ _ h => h) (Or.inl ⟨by rfl, ?_⟩) (by assumption) ?_
    rotate_left
    · (intro w hSw; (try dsimp only at hSw); go_simp; try with_reducible rfl)
    try simp only [Act.put, List.setIfInBounds_toArray, List.set_cons_zero, List.set_cons_succ]
    refine wpAnyH_take (i := 6) (oi := ⟨some 31, _, _, _, _, _⟩) (v := ?_) rfl (by kernel_rfl) (by kernel_rfl) (by kernel_rfl) (fun _ _ _ h => h) (Or.inl ⟨by rfl, ?_⟩) (by assumption) ?_
    rotate_left
    · (intro w hSw; (try dsimp only at hSw); go_simp; try with_reducible rfl)
    try simp only [Act.put, List.setIfInBounds_toArray, List.set_cons_zero, List.set_cons_succ]
    refine wpAnyH_take (i := 7) (oi := ⟨some 32, _, _, _, _, _⟩) (v := ?_) rfl (by kernel_rfl) (by kernel_rfl) (by kernel_rfl) (fun _ _ _ h => h) (Or.inl ⟨by rfl, ?_⟩) (by assumption) ?_
    rotate_left
    · (intro w hSw; (try dsimp only at hSw); go_simp; try with_reducible rfl)
    try simp only [Act.put, List.setIfInBounds_toArray, List.set_cons_zero, List.set_cons_succ]
    refine wpAnyH_take (i := 8) (oi := ⟨some 33, _, _, _, _, _⟩) (v := ?_) rfl (by kernel_rfl) (by kernel_rfl) (by kernel_rfl) (fun _ _ _ h => h) (Or.inl ⟨by rfl, ?_⟩) (by assumption) ?_
    rotate_left
    · (intro w hSw; (try dsimp only at hSw); go_simp; try with_reducible rfl)
    try simp only [Act.put, List.setIfInBounds_toArray, List.set_cons_zero, List.set_cons_succ]
    refine wpAnyH_ready (rs := [9]) (by kernel_rfl) (by simp) ?_
    refine AllReadyH.cons (o := ⟨some 34, _, _, _, _, _⟩) rfl (fun K hK => ?_) AllReadyH.nil
    go_simp
    refine (rkinds_any x.op _).mono ?_
    rintro e wB ⟨rfl, hF⟩
    have FB := Lib.hid (FA.out.trans (T := []) hF (by simp))
    refine hK.out _ _ (HC.out _ FB.out) (fun _ => ?_)
    clear hK K hF
    try simp only [Act.put, List.setIfInBounds_toArray, List.set_cons_zero, List.set_cons_succ]
    refine wpAnyH_take (i := 10) (oi := ⟨some 35, _, _, _, _, _⟩) (v := ?_) rfl (by kernel_rfl) (by kernel_rfl) (by kernel_rfl) (fun _ _ _ h => h) (Or.inl ⟨by rfl, ?_⟩) (by assumption) ?_
    rotate_left
    · (intro w hSw; (try dsimp only at hSw); go_simp; try with_reducible rfl)
    try simp only [Act.put, List.setIfInBounds_toArray, List.set_cons_zero, List.set_cons_succ]
    refine wpAnyH_take (i := 11) (oi := ⟨some 36, _, _, _, _, _⟩) (v := ?_) rfl (by kernel_rfl) (by kernel_rfl) (by kernel_rfl) (fun _ _ _ h => h) (Or.inl ⟨by rfl, ?_⟩) (by assumption) ?_
    rotate_left
    · (intro w hSw; (try dsimp only at hSw); go_simp; try with_reducible rfl)
    try simp only [Act.put, List.setIfInBounds_toArray, List.set_cons_zero, List.set_cons_succ]
    refine wpAnyH_take (i := 12) (oi := ⟨some 37, _, _, _, _, _⟩) (v := ?_) rfl (by kernel_rfl) (by kernel_rfl) (by kernel_rfl) (fun _ _ _ h => h) (Or.inl ⟨by rfl, ?_⟩) (by assumption) ?_
    rotate_left
    · (intro w hSw; (try dsimp only at hSw); go_simp; try with_reducible rfl)
    try simp only [Act.put, List.setIfInBounds_toArray, List.set_cons_zero, List.set_cons_succ]
    refine wpAnyH_take (i := 13) (oi := ⟨some 38, _, _, _, _, _⟩) (v := ?_) rfl (by kernel_rfl) (by kernel_rfl) (by kernel_rfl) (fun _ _ _ h => h) (Or.inl ⟨by rfl, ?_⟩) (by assumption) ?_
    rotate_left
    · (intro w hSw; (try dsimp only at hSw); go_simp; try with_reducible rfl)
    try simp only [Act.put, List.setIfInBounds_toArray, List.set_cons_zero, List.set_cons_succ]
    refine wpAnyH_take (i := 14) (oi := ⟨some 39, _, _, _, _, _⟩) (v := ?_) rfl (by kernel_rfl) (by kernel_rfl) (by kernel_rfl) (fun _ _ _ h => h) (Or.inl ⟨by rfl, ?_⟩) (by assumption) ?_
    rotate_left
    · (intro w hSw; (try dsimp only at hSw); go_simp; try with_reducible rfl)
    try simp only [Act.put, List.setIfInBounds_toArray, List.set_cons_zero, List.set_cons_succ]
    refine wpAnyH_take (i := 15) (oi := ⟨some 40, _, _, _, _, _⟩) (v := ?_) rfl (by kernel_rfl) (by kernel_rfl) (by kernel_rfl) (fun _ _ _ h => h) (Or.inl ⟨by rfl, ?_⟩) (by assumption) ?_
    rotate_left
    · (intro w hSw; (try dsimp only at hSw); go_simp; try with_reducible rfl)
    try simp only [Act.put, List.setIfInBounds_toArray, List.set_cons_zero, List.set_cons_succ]
    refine wpAnyH_take (i := 17) (oi := ⟨some 42, _, _, _, _, _⟩) (v := ?_) rfl (by kernel_rfl) (by kernel_rfl) (by kernel_rfl) (fun _ _ _ h => h) (Or.inl ⟨by rfl, ?_⟩) (by assumption) ?_
    rotate_left
    · (intro w hSw; (try dsimp only at hSw); go_simp; try with_reducible rfl)
    try simp only [Act.put, List.setIfInBounds_toArray, List.set_cons_zero, List.set_cons_succ]
    refine wpAnyH_take (i := 22) (oi := ⟨some 47, _, _, _, _, _⟩) (v := ?_) rfl (by kernel_rfl) (by kernel_rfl) (by kernel_rfl) (fun _ _ _ h => h) (Or.inl ⟨by rfl, ?_⟩) (by assumption) ?_
    rotate_left
    · (intro w hSw; (try dsimp only at hSw); go_simp; try with_reducible rfl)
    try simp only [Act.put, List.setIfInBounds_toArray, List.set_cons_zero, List.set_cons_succ]
    refine wpAnyH_ready (rs := [16, 18]) (by kernel_rfl) (by simp) ?_
    refine AllReadyH.cons (o := ⟨some 41, _, _, _, _, _⟩) rfl (fun K hK => ?_) (AllReadyH.cons (o := ⟨some 43, _, _, _, _, _⟩) rfl (fun K hK => ?_) AllReadyH.nil)
    case' refine_1 =>
      go_simp
      refine (may_any x many (HO.out.frm (HW1.out.trans (T := []) FB.out (by simp))).ops).mono ?_
      rintro e wC ⟨rfl, hF⟩
      have FC := Lib.hid (FB.out.trans (T := []) hF (by simp))
      refine hK.out _ _ (HC.out _ FC.out) (fun _ => ?_)
      clear hK K hF
      try simp only [Act.put, List.setIfInBounds_toArray, List.set_cons_zero, List.set_cons_succ]
      refine wpAnyH_ready (rs := [18]) (by kernel_rfl) (by simp) ?_
      refine AllReadyH.cons (o := ⟨some 43, _, _, _, _, _⟩) rfl (fun K hK => ?_) AllReadyH.nil
      go_simp
      have FCa := Lib.hid (FC.out.alloc (.cells #[.int .i64 x.op, .int .i64 x.a, .int .i64 x.b, .int .i64 x.c, .int .i64 x.d] 23))
      refine hK.out _ _ (HC.out _ FCa.out) (fun _ => ?_)
      clear hK K
      try simp only [Act.put, List.setIfInBounds_toArray, List.set_cons_zero, List.set_cons_succ]
      refine wpAnyH_ready (rs := [19]) (by kernel_rfl) (by simp) ?_
      refine AllReadyH.cons (o := ⟨some 44, _, _, _, _, _⟩) rfl (fun K hK => ?_) AllReadyH.nil
      go_simp
      refine (plain_any (one_at _ x _) (by omega)).mono ?_
      rintro e wD ⟨a2, c2, rfl, h2⟩
      have FD := Lib.hid (FCa.out.trans (T := []) (Frm.of_below (S := []) h2.below (Nat.le_refl _)) (by simp))
      obtain ⟨b2, o2, y, rfl, hb2, hy, r0, r1, r2, r3, r4⟩ := insAt (SlAt.of_row Ins.enc_len h2.row rfl) (i := 0) (by omega)
      obtain rfl : x = y := by simpa using hy
      simp only [Nat.zero_mul, Nat.add_zero] at r0 r1 r2 r3 r4
      refine hK.out _ _ (HC.out _ FD.out) (fun _ => ?_)
      clear hK K h2 hy
      try simp only [Act.put, List.setIfInBounds_toArray, List.set_cons_zero, List.set_cons_succ]
      refine wpAnyH_take (i := 20) (oi := ⟨some 45, _, _, _, _, _⟩) (v := ?_) rfl (by kernel_rfl) (by kernel_rfl) (by kernel_rfl) (fun _ _ _ h => h) (Or.inl ⟨by rfl, ?_⟩) (by assumption) ?_
      rotate_left
      · (intro w hSw; (try dsimp only at hSw); go_simp; try with_reducible rfl)
      try simp only [Act.put, List.setIfInBounds_toArray, List.set_cons_zero, List.set_cons_succ]
      refine wpAnyH_ready (rs := [21]) (by kernel_rfl) (by simp) ?_
      refine AllReadyH.cons (o := ⟨some 46, _, _, _, _, _⟩) rfl (fun K hK => ?_) AllReadyH.nil
      go_simp
      refine hK.out _ _ (HC.out _ FD.out) (fun _ => ?_)
      clear hK K
      try simp only [Act.put, List.setIfInBounds_toArray, List.set_cons_zero, List.set_cons_succ]
      refine wpAnyH_ready (rs := [23]) (by kernel_rfl) (by simp) ?_
      refine AllReadyH.cons (o := ⟨some 48, _, _, _, _, _⟩) rfl (fun K hK => ?_) AllReadyH.nil
      go_simp
      refine (rmay_any x many _).mono ?_
      rintro e wE ⟨rfl, hF⟩
      have FE := Lib.hid (FD.out.trans (T := []) hF (by simp))
      refine hK.out _ _ (HC.out _ FE.out) (fun _ => ?_)
      clear hK K hF
      try simp only [Act.put, List.setIfInBounds_toArray, List.set_cons_zero, List.set_cons_succ]
      refine wpAnyH_take (i := 24) (oi := ⟨some 49, _, _, _, _, _⟩) (v := ?_) rfl (by kernel_rfl) (by kernel_rfl) (by kernel_rfl) (fun _ _ _ h => h) (Or.inl ⟨by rfl, ?_⟩) (by assumption) ?_
      rotate_left
      · (intro w hSw; (try dsimp only at hSw); go_simp; try with_reducible rfl)
      try simp only [Act.put, List.setIfInBounds_toArray, List.set_cons_zero, List.set_cons_succ]
      refine wpAnyH_take (i := 25) (oi := ⟨some 50, _, _, _, _, _⟩) (v := ?_) rfl (by kernel_rfl) (by kernel_rfl) (by kernel_rfl) (fun _ _ _ h => h) (Or.inl ⟨by rfl, ?_⟩) (by assumption) ?_
      rotate_left
      · (intro w hSw; (try dsimp only at hSw); go_simp; try with_reducible rfl)
      try simp only [Act.put, List.setIfInBounds_toArray, List.set_cons_zero, List.set_cons_succ]
      refine wpAnyH_done (by kernel_rfl) ?_ _
      have HE := Lib.hid (HW1.out.trans (T := []) FE.out (by simp))
      clear FE FD FC FCa FB FA F0 HC
    case' refine_2 =>
      go_simp
      have FBa := Lib.hid (FB.out.alloc (.cells #[.int .i64 x.op, .int .i64 x.a, .int .i64 x.b, .int .i64 x.c, .int .i64 x.d] 23))
      have hone := Lib.hid (one_at wB x 23)
      refine hK.out _ _ (HC.out _ FBa.out) (fun _ => ?_)
      clear hK K
      try simp only [Act.put, List.setIfInBounds_toArray, List.set_cons_zero, List.set_cons_succ]
      refine wpAnyH_ready (rs := [16]) (by kernel_rfl) (by simp) ?_
      refine AllReadyH.cons (o := ⟨some 41, _, _, _, _, _⟩) rfl (fun K hK => ?_) AllReadyH.nil
      go_simp
      refine (may_any x many (HO.out.frm (HW1.out.trans (T := []) FBa.out (by simp))).ops).mono ?_
      rintro e wC ⟨rfl, hF⟩
      have FC := Lib.hid (FBa.out.trans (T := []) hF (by simp))
      have hone2 := Lib.hid (SlAt.frm hone.out hF)
      refine hK.out _ _ (HC.out _ FC.out) (fun _ => ?_)
      clear hK K hF hone
      try simp only [Act.put, List.setIfInBounds_toArray, List.set_cons_zero, List.set_cons_succ]
      refine wpAnyH_ready (rs := [19]) (by kernel_rfl) (by simp) ?_
      refine AllReadyH.cons (o := ⟨some 44, _, _, _, _, _⟩) rfl (fun K hK => ?_) AllReadyH.nil
      go_simp
      refine (plain_any hone2.out (by omega)).mono ?_
      rintro e wD ⟨a2, c2, rfl, h2⟩
      have FD := Lib.hid (FC.out.trans (T := []) (Frm.of_below (S := []) h2.below (Nat.le_refl _)) (by simp))
      obtain ⟨b2, o2, y, rfl, hb2, hy, r0, r1, r2, r3, r4⟩ := insAt (SlAt.of_row Ins.enc_len h2.row rfl) (i := 0) (by omega)
      obtain rfl : x = y := by simpa using hy
      simp only [Nat.zero_mul, Nat.add_zero] at r0 r1 r2 r3 r4
      refine hK.out _ _ (HC.out _ FD.out) (fun _ => ?_)
      clear hK K h2 hy
      try simp only [Act.put, List.setIfInBounds_toArray, List.set_cons_zero, List.set_cons_succ]
      refine wpAnyH_take (i := 20) (oi := ⟨some 45, _, _, _, _, _⟩) (v := ?_) rfl (by kernel_rfl) (by kernel_rfl) (by kernel_rfl) (fun _ _ _ h => h) (Or.inl ⟨by rfl, ?_⟩) (by assumption) ?_
      rotate_left
      · (intro w hSw; (try dsimp only at hSw); go_simp; try with_reducible rfl)
      try simp only [Act.put, List.setIfInBounds_toArray, List.set_cons_zero, List.set_cons_succ]
      refine wpAnyH_ready (rs := [21]) (by kernel_rfl) (by simp) ?_
      refine AllReadyH.cons (o := ⟨some 46, _, _, _, _, _⟩) rfl (fun K hK => ?_) AllReadyH.nil
      go_simp
      refine hK.out _ _ (HC.out _ FD.out) (fun _ => ?_)
      clear hK K
      try simp only [Act.put, List.setIfInBounds_toArray, List.set_cons_zero, List.set_cons_succ]
      refine wpAnyH_ready (rs := [23]) (by kernel_rfl) (by simp) ?_
      refine AllReadyH.cons (o := ⟨some 48, _, _, _, _, _⟩) rfl (fun K hK => ?_) AllReadyH.nil
      go_simp
      refine (rmay_any x many _).mono ?_
      rintro e wE ⟨rfl, hF⟩
      have FE := Lib.hid (FD.out.trans (T := []) hF (by simp))
      refine hK.out _ _ (HC.out _ FE.out) (fun _ => ?_)
      clear hK K hF
      try simp only [Act.put, List.setIfInBounds_toArray, List.set_cons_zero, List.set_cons_succ]
      refine wpAnyH_take (i := 24) (oi := ⟨some 49, _, _, _, _, _⟩) (v := ?_) rfl (by kernel_rfl) (by kernel_rfl) (by kernel_rfl) (fun _ _ _ h => h) (Or.inl ⟨by rfl, ?_⟩) (by assumption) ?_
      rotate_left
      · (intro w hSw; (try dsimp only at hSw); go_simp; try with_reducible rfl)
      try simp only [Act.put, List.setIfInBounds_toArray, List.set_cons_zero, List.set_cons_succ]
      refine wpAnyH_take (i := 25) (oi := ⟨some 50, _, _, _, _, _⟩) (v := ?_) rfl (by kernel_rfl) (by kernel_rfl) (by kernel_rfl) (fun _ _ _ h => h) (Or.inl ⟨by rfl, ?_⟩) (by assumption) ?_
      rotate_left
      · (intro w hSw; (try dsimp only at hSw); go_simp; try with_reducible rfl)
      try simp only [Act.put, List.setIfInBounds_toArray, List.set_cons_zero, List.set_cons_succ]
      refine wpAnyH_done (by kernel_rfl) ?_ _
      have HE := Lib.hid (HW1.out.trans (T := []) FE.out (by simp))
      clear FE FD FC FBa FB FA F0 HC hone2
    all_goals
      have hn80 : n ≤ 80 := by omega
      go_wp2_with fail
      refine (check_any (HO.out.frm HE.out).ops (HL.out.frm HE.out)).mono ?_
      rintro e v1 ⟨rfl, hF⟩
      have V1 := Lib.hid (HE.out.trans (T := []) hF (by simp))
      clear hF
      go_wp2_with fail
      refine (plain_any (HL.out.frm V1.out) hn80).mono ?_
      rintro e v2 ⟨a5, c5, rfl, h2⟩
      have HS := Lib.hid (SlAt.of_row Ins.enc_len h2.row Hn.out)
      have V2 := Lib.hid (V1.out.trans (T := []) (Frm.of_below (S := []) h2.below (Nat.le_refl _)) (by simp))
      clear h2
      go_wp2_with fail
      refine (rcheck_any HS.out).mono ?_
      rintro e v3 ⟨rfl, hF⟩
      have V3 := Lib.hid (V2.out.trans (T := []) hF (by simp))
      clear hF
      go_wp2_with fail
      go_loopw [13, 14] (fun sv iv wr => ∃ k : Nat, k ≤ n ∧ iv = .int .i64 (k : Int) ∧ sv = .int .i64 (sendsP (l.take k) : Nat) ∧ wr = v3) (fun _ iv _ => n - (intOf iv).toNat)
      case atStart => exact ⟨0, by omega, rfl, rfl, rfl⟩
      case round =>
        obtain ⟨k, hk, rfl, rfl, rfl⟩ := hrel
        by_cases hlt : k < n
        · obtain ⟨b, off, y, rfl, hbl, hx, p0, p1, p2, p3, p4⟩ := insAt (SlAt.frm HL.out V3.out) hlt
          have hle : sendsP (l.take k) ≤ k := by unfold sendsP; exact Nat.le_trans (List.length_filter_le _ _) (by rw [List.length_take]; omega)
          have ht : l.take (k + 1) = l.take k ++ [y] := by rw [List.take_add_one, hx]; rfl
          by_cases h14 : y.op = 14
          · have hs : sendsP (l.take (k + 1)) = sendsP (l.take k) + 1 := by rw [ht]; unfold sendsP; rw [List.filter_append, List.length_append]; simp [h14]
            have g : (y.op == 14) = true := by rw [beq_iff_eq]; exact h14
            have Hs := Lib.hid hs
            clear hs ht hx h14
            generalize sendsP (l.take k) = m at *
            have hw : IntKind.i64.wrap ((m : Int) + 1) = (m : Int) + 1 := IntWalk.i64_in _ (by omega)
            go_wp2_with fail
            go_roundw
            case rel => exact ⟨k + 1, by omega, by go_num, by rw [Hs.out]; push_cast; rfl, trivial⟩
            case measure => simp [intOf]; omega
          · have hs : sendsP (l.take (k + 1)) = sendsP (l.take k) := by rw [ht]; unfold sendsP; rw [List.filter_append, List.length_append]; simp [h14]
            have g : (y.op == 14) = false := by rw [beq_eq_false_iff_ne]; exact h14
            have Hs := Lib.hid hs
            clear hs ht hx h14
            go_wp2_with fail
            go_roundw
            case rel => exact ⟨k + 1, by omega, by go_num, by rw [Hs.out], trivial⟩
            case measure => simp [intOf]; omega
        · obtain rfl : n = k := by omega
          have hd : l.take n = l := List.take_of_length_le (by have := Hn.out; omega)
          rw [hd]
          clear hd
          go_wp2_with fail
          refine (sends_any (HL.out.frm V3.out)).mono ?_
          rintro e v4 ⟨rfl, hF⟩
          have V4 := Lib.hid (V3.out.trans (T := []) hF (by simp))
          clear hF
          go_wp2_with fail
          refine (awake_any (HO.out.frm V4.out)).mono ?_
          rintro e v5 ⟨rfl, hF⟩
          have V5 := Lib.hid (V4.out.trans (T := []) hF (by simp))
          clear hF
          go_wp2_with fail
          go_ret
          exact ⟨rfl, V5.out.below (Nat.le_refl _) (by simp)⟩
end Go.Proofs.YtodjiicneijkkaaDoor
