/- A ring's calls: Front, New, grow. -/
import Derived.Test.YthamnalpkjjnlaaRingU
namespace Go.Proofs.Ythamnalpkjjnlaa
open Go.RowKit Go.Maps

section
variable {B : Nat} {w0 w : World} {Q : World → List Nat → Prop} {L : List (Nat × Obj)}

/-- What Front does. -/
def FrontDoes (B : Nat) (w0 : World) (Q : World → List Nat → Prop) (L : List (Nat × Obj)) (b room : Nat) (S : List It) (k : Nat) (e : Ending) (w' : World) : Prop :=
  ∃ (la : Option Addr) (lc : Nat), e = .returned (.slice la k lc) ∧ Holds B w0 (sepR (intR (.slice la k lc) k (valsOf (S.take k))) (sepR (ringR b room (S.drop k)) Q)) w' L

theorem front_win {f k : Nat} {P P' S : List It} (h : Win f P S) (hk : k ≤ S.length) (hPl : P'.length = P.length) (hP : ∀ i, i < S.length → k ≤ i → P'[pl f P.length i]? = P[pl f P.length i]?) : Win (pl f P.length k) P' (S.drop k) := by
  have h1 := h.first
  have h2 := h.many
  refine ⟨?_, by rw [hPl, List.length_drop]; omega, by rw [hPl]; exact h.room, fun i x hx => ?_⟩
  · rw [hPl]
    unfold pl
    split <;> omega
  · rw [List.getElem?_drop] at hx
    have hlt := (List.getElem?_eq_some_iff.1 hx).1
    have h3 := hP (k + i) hlt (by omega)
    rw [h.at_ (k + i) x hx] at h3
    rw [hPl, ← h3]
    congr 1
    unfold pl
    split <;> split <;> (try split) <;> omega

set_option maxHeartbeats 4000000 in
set_option maxRecDepth 100000 in
theorem front_goes (hQ : Stable Q) {b room : Nat} {S : List It} (h : Holds B w0 (sepR (ringR b room S) Q) w L) (t : Int) :
    Calls Try.prog 18 #[.pointer (some ⟨b, 0, none⟩), .int .i64 t] w (FrontDoes B w0 Q L b room S (cnt (fun x => decide (x ≥ t)) S)) := by
  have hs := sepR_stable (ringR_stable b room S) hQ
  have hF0 := (Frm.refl [] w).alloc (.cells #[.int .i64 t] 3)
  have h0 := h.made hs hF0
  have hbx := cells1 (obj_new w (.cells #[.int .i64 t] 3))
  obtain ⟨a, c, f, P, hf, h1⟩ := h0.ringOpen
  have hs1 : Stable (sepR (ring0 b room a c f S.length P) Q) := sepR_stable (ring0_stable _ _ _ _ _ _ _) hQ
  have hm := hf.win.many
  have hr := hf.win.room
  have hfl := hf.win.f_lt
  have ha := ahead_says h0.ringAt hf.rise (g := 38) (bx := w.heap.size) (p := fun x => decide (x ≥ t)) (.inr (.inl rfl)) (fun x y hxy hx => by simp at hx ⊢; omega) (fun w'' hf'' u => cFront_any (hf''.cell hbx (by simp)) u)
  have hk := cnt_le (fun x => decide (x ≥ t)) S
  generalize cnt (fun x => decide (x ≥ t)) S = k at ha hk ⊢
  have ht := fun w' (hf' : Frm [] (w.alloc (.cells #[.int .i64 t] 3)) w') => take_goes hQ (h1.made hs1 hf') hf.win (Nat.zero_le k) hk
  have Ha := Lib.hid ha
  have Ht := Lib.hid ht
  have Hf := Lib.hid hf
  clear ha ht h h0 h1 hF0 hbx hf
  go_enter Try.func18, Try.ntmps18
  go_wp2_with fail
  refine Ha.out.mono ?_
  rintro e w1 ⟨rfl, hfa⟩
  have Ht2 := Lib.hid (Ht.out w1 hfa)
  clear hfa Ht Ha
  go_wp2_with fail
  refine Ht2.out.mono ?_
  rintro e w2 ⟨la, lc, P', rfl, hPl, hkp, h2⟩
  simp only [Nat.sub_zero, List.drop_zero] at h2 ⊢
  have h3 := h2.conv Conv.exch
  have hb := h3.rBox.theBox
  have hpc := place_any (n := P'.length) hb k (by omega) (by omega) (by omega)
  rw [hPl] at hpc
  have hwin := front_win Hf.out.win hk hPl (fun i hi hki => hkp i hi (.inr hki))
  have hsI : Stable (sepR (intR (.slice la k lc) k (valsOf (S.take k))) Q) := sepR_stable (rowR_stable _ _ _ _ _) hQ
  have hbp := h3.rBox.boxPut (sepR_stable (rowR_stable _ _ _ _ _) hsI) 2 (.int .i64 (pl f P.length k : Nat))
  have c2 := (cells4 hb).2.2.1
  have fz : ∀ k, w2.frozen? ⟨b, k, none⟩ = false := fun k => frozen_of_obj hb k
  have hbl := lt_of_obj hb
  have hfit : RFits room (pl f P.length k) P' (S.drop k) := ⟨hwin, Hf.out.rise.drop k, by rw [List.length_drop]; have := Hf.out.many; omega, by rw [hPl]; exact Hf.out.list, Hf.out.room⟩
  generalize pl f P.length k = j at hpc hbp hfit hwin
  have Hpc := Lib.hid hpc
  have Hbp := Lib.hid hbp
  have Hfit := Lib.hid hfit
  clear h2 h3 hb hpc hwin hbp hfit hkp Ht2 hPl
  go_wp2_with fail
  refine Hpc.out.mono ?_
  rintro e w3 ⟨rfl, rfl⟩
  go_wp2_with fail
  go_ret
  refine ⟨la, lc, rfl, ?_⟩
  have h4 := Hbp.out.rBox'
  rw [show S.length - k = (S.drop k).length by rw [List.length_drop]] at h4
  exact (h4.ringShut Hfit.out).conv Conv.exch

set_option maxHeartbeats 1000000 in
theorem new_goes (hQ : Stable Q) (h : Holds B w0 Q w L) (room : Nat) (h1 : 1 ≤ room) (h2 : room ≤ 4096) :
    Calls Try.prog 9 #[.int .i64 (room : Int)] w (Goes (.tuple #[.pointer (some ⟨w.heap.size, 0, none⟩), .int .i64 0]) B w0 (sepR (ringR w.heap.size room []) Q) L) := by
  have d1 : decide ((room : Int) < 1) = false := by rw [decide_eq_false_iff_not]; omega
  have d2 : decide ((room : Int) > 4096) = false := by rw [decide_eq_false_iff_not]; omega
  have h3 := (h.newBox hQ #[.int .i64 (room : Int), .slice none 0 0, .int .i64 0, .int .i64 0] 59).nilRow 66 2
  have h4 : Holds B w0 (sepR (ringR w.heap.size room []) Q) (w.alloc (.cells #[.int .i64 (room : Int), .slice none 0 0, .int .i64 0, .int .i64 0] 59)) L := by
    refine Holds.ringShut (a := none) (c := 0) (f := 0) (P := []) ⟨Win.nil, List.Pairwise.nil, Nat.zero_le _, Nat.zero_le _, h2⟩ ?_
    exact (h3.conv Conv.exch).conv Conv.fold
  have H4 := Lib.hid h4
  clear h h3 h4
  go_enter Try.func9, Try.ntmps9
  go_wp2_with fail
  go_ret2
  exact ⟨rfl, H4.out⟩
set_option maxHeartbeats 1000000 in
theorem new_bad (w : World) (room : Int) (h : room < 1 ∨ room > 4096) : Calls Try.prog 9 #[.int .i64 room] w (Says (.tuple #[.pointer none, .int .i64 1]) w) := by
  by_cases d1 : room < 1
  · go_enter Try.func9, Try.ntmps9
    go_wp2_with fail
    go_ret2
    exact ⟨rfl, Frm.refl _ _⟩
  · have d2 : room > 4096 := by omega
    clear h
    go_enter Try.func9, Try.ntmps9
    go_wp2_with fail
    go_ret2
    exact ⟨rfl, Frm.refl _ _⟩

/-- Items are copied to the beginning of a row of one's own. -/
theorem copy_run (hQ : Stable Q) {g n cap m c : Nat} {A : Option Addr} {Z S : List It} (h : Holds B w0 (sepR (rowR 66 2 (.slice (some ⟨g, 0, none⟩) n cap) n (flat It.cells Z)) Q) w L) (hZ : Z.length = n) (hs : SlAt It.cells 2 w A m c S) (hnil : A = none → m = 0 ∧ c = 0) (hm : m ≤ n) (ty : TypeId) :
    ∃ w', (Builtin.copy_ #[57, 57] ty #[.slice (some ⟨g, 0, none⟩) n cap, .slice A m c]).run Try.prog w = .ok (goInt m) w' ∧ Holds B w0 (sepR (rowR 66 2 (.slice (some ⟨g, 0, none⟩) n cap) n (flat It.cells (putAll Z 0 S))) Q) w' L := by
  obtain ⟨i1, hj0, hj1, hj2, hj3⟩ := info_parts infoItem
  have hSl := hs.1
  have hfc : (Builtin.firstCells 2 m (.slice A m c)).run Try.prog w = .ok (flat It.cells S).toArray w := by
    cases A with
    | none =>
      obtain ⟨rfl, rfl⟩ := hnil rfl
      have hS : S = [] := List.eq_nil_of_length_eq_zero hSl
      subst hS
      rfl
    | some x =>
      rcases hs.2.2.2 with h0 | ⟨b, off, he, _⟩
      · have hS : S = [] := List.eq_nil_of_length_eq_zero (by omega)
        subst hS
        subst h0
        exact run_firstCells_some _ _ _ _ _ _ [] (by simp) (fun j v hj => by simp at hj)
      · obtain rfl := Option.some.inj he
        exact run_firstCells_some _ _ _ _ _ _ _ (by rw [flat_length it_len, hSl]) (hs.news it_len (by omega))
  have hlen : (flat It.cells S).length = m * 2 := by rw [flat_length it_len, hSl]
  have hrow := h.row
  have hst := run_storeCells_cells (P := Try.prog) g 0 (flat It.cells S) 0 w (fun j hj => ?_) (fun j hj => ?_) (flat_one it_one _)
  · refine ⟨w.setCells g 0 (flat It.cells S), ?_, ?_⟩
    · have hmin : Nat.min m n = m := Nat.min_eq_left hm
      simp [Builtin.copy_, run_underlying Try.underlying57, Builtin.lenOf, hmin, sizeOf, typeInfo, hj0, hj2, hfc, hst]
    · rw [setCells_storeAll]
      have h1 := h.storedAll hQ (flat It.cells S) (0 * 2)
      rw [flat_putAll it_len _ _ _ (by omega)] at h1
      exact h1
  · rw [hlen] at hj
    have hl : j < (flat It.cells Z).length := by rw [flat_length it_len]; omega
    have := hrow.cellAt (j := j) (by omega)
    simp only [Nat.zero_add]
    rw [this, List.getElem?_eq_getElem hl]
    rfl
  · exact hrow.frozenAt _
theorem wpList_copy {P : Program} {ops : Array Oper} {rest : List Oper} {o : Oper} {a : Act} {Q : Exit → Act → World → Prop} (hgd : o.guard = none) (d s : Operand) (t t' : TypeId)
    (ho : o.op = .call { callee := .builtin .copy, args := #[d, s], argTypes := #[t, t'] }) (vd vs : Value) (hd : a.eval d = vd) (hs : a.eval s = vs)
    (v' : Value) (w' : World) (hr : (Builtin.copy_ #[t, t'] o.type #[vd, vs]).run P w = .ok v' w') (h : wpList P ops Q rest (a.put o.dst v') w') : wpList P ops Q (o :: rest) a w :=
  wpList_plain hgd fun _ hK => by
    unfold Oper.wp execOp
    simp only [ho, resolve, invoke, builtin, Sem.run_bind, Sem.run_pure, Result.andThen_ok, List.map_toArray, List.map_cons, List.map_nil, hd, hs, hr]
    exact hK _ _ h

theorem putAll_in {α : Type} (m : List α) : ∀ (l : List α) (i c : Nat), i ≤ c → c < i + m.length → i + m.length ≤ l.length → (putAll l i m)[c]? = m[c - i]? := by
  induction m with
  | nil => intro l i c h1 h2; simp at h2; omega
  | cons x m ih =>
    intro l i c h1 h2 h3
    simp only [List.length_cons] at h2 h3
    rw [putAll]
    by_cases e : c = i
    · subst e
      rw [putAll_out _ _ _ _ (.inl (by omega)), List.getElem?_set_self (by omega), Nat.sub_self]
      rfl
    · rw [ih _ _ _ (by omega) (by omega) (by rw [List.length_set]; omega), show c - i = c - (i + 1) + 1 by omega, List.getElem?_cons_succ]
theorem grow_win {n : Nat} {S : List It} (h1 : S.length ≤ n) (h2 : n ≤ 4096) (h0 : 0 < n) (Z : List It) (hZ : Z.length = n) : Win 0 (putAll Z 0 S) S := by
  refine ⟨.inl (by rw [putAll_length]; omega), by rw [putAll_length]; omega, by rw [putAll_length]; omega, fun i x hx => ?_⟩
  have hl := (List.getElem?_eq_some_iff.1 hx).1
  rw [putAll_length, pl_lt (by omega), Nat.zero_add, putAll_in _ _ _ _ (Nat.zero_le _) (by omega) (by omega)]
  exact hx

theorem made_flat (n : Nat) : (madeCells (Value.agg #[.int .i64 0, .int .i64 0]).cells (n * 2)).toList = flat It.cells (List.replicate n zeroIt) := by
  rw [← zeros_flat]
  unfold madeCells Builtin.zeroCells
  rfl

/-- What grow does. -/
def GrowDoes (B : Nat) (w0 : World) (Q : World → List Nat → Prop) (L : List (Nat × Obj)) (b room : Nat) (S : List It) (e : Ending) (w' : World) : Prop :=
  ∃ (a : Option Addr) (c : Nat) (P : List It), e = .returned (.tuple #[]) ∧ Win 0 P S ∧ S.length < P.length ∧ P.length ≤ room ∧ Holds B w0 (sepR (ring0 b room a c 0 S.length P) Q) w' L

set_option maxHeartbeats 4000000 in
set_option maxRecDepth 100000 in
theorem grow_goes (hQ : Stable Q) {b room : Nat} {a : Option Addr} {c f : Nat} {P S : List It} (h : Holds B w0 (sepR (ring0 b room a c f S.length P) Q) w L) (hw : Win f P S) (hm : S.length < room) (hr : room ≤ 4096) :
    Calls Try.prog 43 #[.pointer (some ⟨b, 0, none⟩)] w (GrowDoes B w0 Q L b room S) := by
  have hs : Stable (sepR (ring0 b room a c f S.length P) Q) := sepR_stable (ring0_stable _ _ _ _ _ _ _) hQ
  have hb := h.rBox.theBox
  obtain ⟨c0, c1, c2, c3⟩ := cells4 hb
  have hbl := lt_of_obj hb
  obtain ⟨m, hmm⟩ : ∃ m : Nat, S.length = m := ⟨_, rfl⟩
  obtain ⟨n, hn⟩ : ∃ n : Nat, min (2 * m + 1) room = n := ⟨_, rfl⟩
  have e1 : IntKind.i64.wrap (2 * (m : Int)) = 2 * (m : Int) := IntWalk.i64_in _ (by omega)
  have e2 : IntKind.i64.wrap (2 * (m : Int) + 1) = 2 * (m : Int) + 1 := IntWalk.i64_in _ (by omega)
  rw [hmm] at c3
  have hmin : min (2 * (m : Int) + 1) (room : Int) = (n : Int) := by omega
  have H0 := Lib.hid h
  have HW := Lib.hid hw
  have Hmm := Lib.hid hmm
  obtain ⟨i1, hj0, hj1, hj2, hj3⟩ := info_parts infoItem
  clear h hw hb hmm c1 c2
  have hif : (if (room : Int) < 2 * (m : Int) + 1 then (room : Int) else 2 * (m : Int) + 1) = (n : Int) := by split <;> omega
  have hn0 : 0 < n := by omega
  have hmn : m < n := by have := Hmm.out; omega
  have hnr : n ≤ room := by omega
  have Hif := Lib.hid hif
  clear hif hmin hn
  go_enter Try.func43, Try.ntmps43
  go_wp2_with fail
  go_still_tail 11, (by kernel_rfl)
  change wpList _ _ _ _ _ w.drew
  rw [Hif.out]
  refine wpList_make_full _ rfl _ _ 57 rfl w.heap.size 66 i1 (.agg #[.int .i64 0, .int .i64 0]) 2 Try.underlying57 hj0 hj1 hj2 .i64 .i64 _ _ n rfl rfl rfl rfl (by rw [hj3]; omega) (by unfold maxLen; omega) (Nat.le_refl _) ?_
  intro w1 hown hgrow
  rw [made_flat] at hown
  have h1 := ((H0.out.drew hs).newRow hs hown hgrow)
  have hs1 : Stable (sepR (rowR 66 2 (.slice (some ⟨w.heap.size, 0, none⟩) n n) n (flat It.cells (List.replicate n zeroIt))) (sepR (ring0 b room a c f S.length P) Q)) := sepR_stable (rowR_stable _ _ _ _ _) hs
  have hit := items_says ((h1.conv Conv.exch).ring0At HW.out)
  have H1 := Lib.hid h1
  have Hit := Lib.hid hit
  clear hown hgrow h1 hit c0 c3 e1 e2 H0
  go_wp2_with fail
  refine Hit.out.mono ?_
  rintro e w2 ⟨a2, c2, rfl, hnew⟩
  have h2 := H1.out.newRowF hs1 hnew
  have hsl := SlAt.of_row it_len hnew.1 rfl
  have hnil : a2 = none → S.length = 0 ∧ c2 = 0 := fun ha => row_nil hnew.1 ha
  have hsI : Stable (sepR (rowR 66 2 (.slice a2 S.length c2) S.length (flat It.cells S)) (sepR (ring0 b room a c f S.length P) Q)) := sepR_stable (rowR_stable _ _ _ _ _) hs
  obtain ⟨w3, hrun, h3⟩ := copy_run (c := c2) hsI (h2.conv Conv.exch) (by rw [List.length_replicate]) hsl hnil (by have := Hmm.out; omega) 3
  have hwin := grow_win (n := n) (S := S) (by have := Hmm.out; omega) (by omega) hn0 (List.replicate n zeroIt) (by rw [List.length_replicate])
  have hP2 : (putAll (List.replicate n zeroIt) 0 S).length = n := by rw [putAll_length, List.length_replicate]
  generalize putAll (List.replicate n zeroIt) 0 S = P2 at h3 hwin hP2
  subst hP2
  have h4 : Holds B w0 (sepR (boxR b #[.int .i64 (room : Int), .slice a P.length c, .int .i64 (f : Int), .int .i64 (S.length : Int)] 59) (sepR (rowR 66 2 (.slice a P.length c) P.length (flat It.cells P)) (sepR (rowR 66 2 (.slice (some ⟨w.heap.size, 0, none⟩) P2.length P2.length) P2.length (flat It.cells P2)) Q))) w3 L := by
    have h5 := (h3.conv Conv.exch).drop
    exact (h5.conv Conv.exch).conv (Conv.flat)
  have hb3 := h4.theBox
  obtain ⟨c0, c1, c2', c3⟩ := cells4 hb3
  have fz : ∀ k, w3.frozen? ⟨b, k, none⟩ = false := fun k => frozen_of_obj hb3 k
  have hbl3 := lt_of_obj hb3
  have hs4 : Stable (sepR (rowR 66 2 (.slice a P.length c) P.length (flat It.cells P)) (sepR (rowR 66 2 (.slice (some ⟨w.heap.size, 0, none⟩) P2.length P2.length) P2.length (flat It.cells P2)) Q)) := sepR_stable (rowR_stable _ _ _ _ _) (sepR_stable (rowR_stable _ _ _ _ _) hQ)
  have h6 := (h4.boxPut hs4 1 (.slice (some ⟨w.heap.size, 0, none⟩) P2.length P2.length)).boxPut hs4 2 (.int .i64 0)
  have H6 := Lib.hid h6
  have Hrun := Lib.hid hrun
  have Hwin := Lib.hid hwin
  clear hnew h2 hsl hnil h3 hrun hwin h4 hb3 h6 H1 Hit c0 c3
  go_wp2_with (refine wpList_copy rfl _ _ _ _ rfl _ _ rfl rfl _ _ Hrun.out ?_)
  have hdrop : Holds B w0 (sepR (ring0 b room (some ⟨w.heap.size, 0, none⟩) P2.length 0 S.length P2) Q) ((w3.setCell ⟨b, 1, none⟩ (.slice (some ⟨w.heap.size, 0, none⟩) P2.length P2.length)).setCell ⟨b, 2, none⟩ (.int .i64 0)) L := by
    have h7 := H6.out.conv Conv.exch
    exact (h7.drop).rBox'
  have Hdrop := Lib.hid hdrop
  clear hdrop H6
  go_wp2_with fail
  go_end0
  exact ⟨_, _, P2, rfl, Hwin.out, by rw [Hmm.out]; exact hmn, hnr, Hdrop.out⟩
end
end Go.Proofs.Ythamnalpkjjnlaa
