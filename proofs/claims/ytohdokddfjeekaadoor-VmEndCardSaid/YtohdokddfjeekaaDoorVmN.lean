/- Package vm: a copy of instructions; New. -/
import Derived.Test.YtohdokddfjeekaaDoorVmO
import Derived.Laws.IdiomCopy
namespace Go.Proofs.YtohdokddfjeekaaDoor
open Go.RowKit Go.Maps

section
variable {R R' : World → List Nat → Prop} {B : Nat} {w0 w w' : World} {L : List (Nat × Obj)}
/-- A row that a call has made. -/
def NewRow (w w' : World) (e : TypeId) (size : Nat) (v : Value) (n : Nat) (xs : List Value) : Prop := w'.ownsRow 0 e size v n xs ∧ (∀ k, v.ownBlock = some k → w.heap.size ≤ k) ∧ Frm [] w w'
theorem Holds.newRowF (hR : Stable R) (h : Holds B w0 R w L) {e : TypeId} {size : Nat} {v : Value} {n : Nat} {xs : List Value} (hn : NewRow w w' e size v n xs) : Holds B w0 (sepR (rowR e size v n xs) R) w' L := by
  obtain ⟨h1, h2, h3⟩ := hn
  obtain ⟨F1, _, _, _, hk⟩ := h.empty.split hR
  exact hk _ _ v.ownBlock.toList ⟨h1, rfl⟩ (h3.mono (by simp)) (fun k hk => .inr (h2 k (by simpa using hk))) (fun k hk => row_lt h1 k (by simpa using hk))
theorem NewRow.app {w1 w2 : World} {e : TypeId} {size : Nat} {v v' : Value} {n n' : Nat} {xs xs' : List Value} (h : NewRow w w1 e size v n xs) (hown : w2.ownsRow 0 e size v' n' xs') (hf : Frm v.ownBlock.toList w1 w2) (hk : ∀ k, v'.ownBlock = some k → v.ownBlock = some k ∨ w1.heap.size ≤ k) : NewRow w w2 e size v' n' xs' := by
  obtain ⟨_, h2, h3⟩ := h
  refine ⟨hown, fun k hk' => ?_, h3.trans hf (fun k hk' => .inr (h2 k (by simpa using hk')))⟩
  rcases hk k hk' with h4 | h4
  · exact h2 k h4
  · exact Nat.le_trans h3.size h4
theorem NewRow.nil (w : World) (e : TypeId) (size : Nat) : NewRow w w e size (.slice none 0 0) 0 [] := ⟨World.ownsRow_nil _ _ _ _, by simp [Value.ownBlock], Frm.refl _ _⟩
theorem NewRow.empty (w : World) (e : TypeId) (size : Nat) : NewRow w (w.alloc (.cells #[] e)) e size (.slice (some ⟨w.heap.size, 0, none⟩) 0 0) 0 [] :=
  ⟨⟨by simp, .inr ⟨w.heap.size, 0, #[], rfl, Nat.zero_le _, obj_new w _, Nat.le_refl _, Nat.zero_le _, by simp, by simp⟩⟩, fun k hk => by simp [Value.ownBlock] at hk; omega, (Frm.refl _ _).alloc _⟩
end

theorem infoInstr : (Tryd.prog.info? 47).map (fun i => (i.zero, i.size, i.bytes)) = some (some (.agg #[.int .i64 0, .int .i64 0, .int .i64 0, .int .i64 0, .int .i64 0]), 5, 40) := by kernel_rfl
theorem infoInt : (Tryd.prog.info? 3).map (fun i => (i.zero, i.size, i.bytes)) = some (some (.int .i64 0), 1, 8) := by kernel_rfl
/-- What a copy is. -/
def CloneI (l : List Ins) (n : Nat) (w : World) (e : Ending) (w' : World) : Prop := ∃ (a : Option Addr) (c : Nat), e = .returned (.slice a n c) ∧ NewRow w w' 47 5 (.slice a n c) n (flat Ins.enc l)
set_option maxHeartbeats 1000000 in
theorem clone_any (w : World) (a : Option Addr) (n cap : Nat) (l : List Ins) (hl : Ins.at_ w a n cap l) (hn : n ≤ 4096) (hnil : a = none → n = 0 ∧ cap = 0) : Calls Tryd.prog 18 #[.slice a n cap] w (CloneI l n w) := by
  have hl1 := hl.1
  have qT : ∀ (w : World) (a : Option Addr) (n c n' c' : Nat), (binOp .eql 22 (.slice a n c) (.slice none n' c')).run Tryd.prog w = .ok (.bool a.isNone) w := fun w a n c n' c' => Lib.run_eql_slice_nil w _ _ a n c n' c' Tryd.underlying22
  cases a with
  | none =>
    obtain ⟨rfl, rfl⟩ := hnil rfl
    have hle : l = [] := List.eq_nil_of_length_eq_zero hl1
    subst hle
    clear hl hl1 hnil
    go_enter Tryd.func18, Tryd.ntmps18
    go_wp2_with fail
    go_ret
    exact ⟨none, 0, rfl, NewRow.nil _ _ _⟩
  | some ad =>
    have Hl := Lib.hid hl
    clear hl hl1 hnil
    go_enter Tryd.func18, Tryd.ntmps18
    go_wp2_with (at_builtin; refine Stop.of ?_)
    refine Stop.go ?_
    obtain ⟨i1, hj0, hj1, hj2, hj3⟩ := info_parts infoInstr
    have h5 := NewRow.empty w 47 5
    refine wpList_append_sl (enc := Ins.enc) _ rfl _ _ 22 rfl 47 i1 (.agg #[.int .i64 0, .int .i64 0, .int .i64 0, .int .i64 0, .int .i64 0]) 5 40 Tryd.underlying22 hj0 hj1 hj2 hj3 rfl (by decide) (.slice (some ⟨w.heap.size, 0, none⟩) 0 0) 0 [] rfl h5.1 (some ad) n cap l rfl (Hl.out.frm ((Frm.refl _ _).alloc _)) (by simp) Ins.enc_len Ins.enc_one (by unfold maxLen; omega) (by omega) ?_
    intro a3 c3 w3 hown hF hnew
    simp only [Nat.zero_add, List.nil_append] at hown hnew ⊢
    have HS1 := Lib.hid (h5.app hown hF hnew)
    clear hown hF hnew h5 hj0 hj1 hj2 hj3
    go_wp2_with fail
    go_ret
    exact ⟨a3, c3, rfl, HS1.out⟩

/-- Four cells are copied. -/
theorem copy4 (w : World) {g o n cn d e m cm : Nat} (hmin : Nat.min m n = 4) (v : Nat → Value) (hs : ∀ j, j < 4 → w.cell? ⟨d, e + j, none⟩ = some (v j)) (h1 : ∀ j, j < 4 → (v j).oneCell' = true)
    (hd : ∀ j, j < 4 → (w.cell? ⟨g, o + j, none⟩).isSome = true) (hf : ∀ j, j < 4 → w.frozen? ⟨g, o + j, none⟩ = false) (ty : TypeId) :
    (Builtin.copy_ #[50, 50] ty #[.slice (some ⟨g, o, none⟩) n cn, .slice (some ⟨d, e, none⟩) m cm]).run Tryd.prog w = .ok (goInt 4) ((((w.setCell ⟨g, o, none⟩ (v 0)).setCell ⟨g, o + 1, none⟩ (v 1)).setCell ⟨g, o + 2, none⟩ (v 2)).setCell ⟨g, o + 3, none⟩ (v 3)) := by
  obtain ⟨i1, hj0, hj1, hj2, hj3⟩ := info_parts infoInt
  have hfc : (Builtin.firstCells 1 4 (.slice (some ⟨d, e, none⟩) m cm)).run Tryd.prog w = .ok [v 0, v 1, v 2, v 3].toArray w := by
    refine run_firstCells_some _ _ _ _ _ _ _ (by simp) (fun j u hj => ?_)
    have hj4 := (List.getElem?_eq_some_iff.1 hj).1
    simp at hj4
    rw [addr_add, hs j hj4, ← hj]
    obtain rfl | rfl | rfl | rfl : j = 0 ∨ j = 1 ∨ j = 2 ∨ j = 3 := by omega
    all_goals rfl
  have hst := run_storeCells_cells (P := Tryd.prog) g o [v 0, v 1, v 2, v 3] 0 w (fun j hj => by simpa using hd j (by simpa using hj)) (fun j hj => by simpa using hf j (by simpa using hj)) (fun u hu => by
    simp only [List.mem_cons, List.not_mem_nil, or_false] at hu
    rcases hu with rfl | rfl | rfl | rfl
    · exact h1 0 (by omega)
    · exact h1 1 (by omega)
    · exact h1 2 (by omega)
    · exact h1 3 (by omega))
  have hset : w.setCells g (o + 0) [v 0, v 1, v 2, v 3] = (((w.setCell ⟨g, o, none⟩ (v 0)).setCell ⟨g, o + 1, none⟩ (v 1)).setCell ⟨g, o + 2, none⟩ (v 2)).setCell ⟨g, o + 3, none⟩ (v 3) := rfl
  rw [hset] at hst
  simp [Builtin.copy_, run_underlying Tryd.underlying50, Builtin.lenOf, hmin, sizeOf, typeInfo, hj0, hj2, hfc, hst]
theorem wpList_copy {P : Program} {ops : Array Oper} {rest : List Oper} {o : Oper} {a : Act} {Q : Exit → Act → World → Prop} {w : World} (hgd : o.guard = none) (d s : Operand) (t t' : TypeId)
    (ho : o.op = .call { callee := .builtin .copy, args := #[d, s], argTypes := #[t, t'] }) (vd vs : Value) (hd : a.eval d = vd) (hs : a.eval s = vs)
    (v' : Value) (w' : World) (hr : (Builtin.copy_ #[t, t'] o.type #[vd, vs]).run P w = .ok v' w') (h : wpList P ops Q rest (a.put o.dst v') w') : wpList P ops Q (o :: rest) a w :=
  wpList_plain hgd fun _ hK => by
    unfold Oper.wp execOp
    simp only [ho, resolve, invoke, builtin, Sem.run_bind, Sem.run_pure, Result.andThen_ok, List.map_toArray, List.map_cons, List.map_nil, hd, hs, hr]
    exact hK _ _ h

/-- The beginning, of a state. -/
def st0 (t : Nat → Int) : MS := ⟨fun i => if i < 4 then t i else 0, 0, []⟩
abbrev stBox (t : Nat → Int) : Obj := .cells #[.int .i64 (t 0), .int .i64 (t 1), .int .i64 (t 2), .int .i64 (t 3)] 24
abbrev Ev.box (e : Ev) : Obj := .cells #[.int .i64 e.at_, .int .i64 e.src, .int .i64 e.sent, .int .i64 e.no, .int .i64 e.dst, .int .i64 e.kind, .int .i64 e.data] 28

theorem cells4 {w : World} {b : Nat} {x y z u : Value} {t : TypeId} {f : Nat × Nat} (h : w.heap[b]? = some (.cells #[x, y, z, u] t f)) : w.cell? ⟨b, 0, none⟩ = some x ∧ w.cell? ⟨b, 1, none⟩ = some y ∧ w.cell? ⟨b, 2, none⟩ = some z ∧ w.cell? ⟨b, 3, none⟩ = some u := by
  refine ⟨?_, ?_, ?_, ?_⟩ <;> (rw [cell_of_obj h]; rfl)
section
variable {B : Nat} {w0 w : World} {Q : World → List Nat → Prop} {L : List (Nat × Obj)}
/-- What New makes. -/
def NewGoes (B : Nat) (w0 : World) (e : Ev) (p : List Ins) (fan : Int) (t : Nat → Int) (Q : World → List Nat → Prop) (L : List (Nat × Obj)) (e' : Ending) (w' : World) : Prop :=
  ∃ (m : Nat) (pa : Option Addr) (pc : Nat), e' = .returned (.pointer (some ⟨m, 0, none⟩)) ∧ Holds B w0 (sepR (machR m e pa pc (p.take 64) fan (st0 t)) Q) w' L

set_option maxHeartbeats 4000000 in
set_option maxRecDepth 100000 in
theorem new_any (hQ : Stable Q) (h : Holds B w0 Q w L) {a : Option Addr} {n c : Nat} {p : List Ins} (hp : Ins.at_ w a n c p) (hnil : a = none → n = 0 ∧ c = 0) (t : Nat → Int) (e : Ev) (fan : Int) :
    Calls Tryd.prog 14 #[.slice a n c, stV t, e.val, .int .i64 fan] w (NewGoes B w0 e p fan t Q L) := by
  have hn : p.length = n := hp.1
  have hcap := hp.2.2.1
  have hcap' := hp.2.1
  simp only [maxLen] at hcap
  obtain ⟨k, hk⟩ : ∃ k : Nat, min n 64 = k := ⟨_, rfl⟩
  have hif : (if (64 : Int) < (n : Int) then (64 : Int) else (n : Int)) = (k : Int) := by split <;> omega
  have h1 := (h.alloc hQ (stBox t)).alloc hQ e.box
  simp only [World.size_alloc] at h1
  have hkn : k ≤ n := by omega
  have hkc : (k : Int) ≤ (c : Int) := by omega
  have hsl := hp.take hkn
  have hpk : p.take k = p.take 64 := by
    by_cases h64 : n ≤ 64
    · rw [show k = n by omega, List.take_of_length_le (by omega), List.take_of_length_le (by omega)]
    · rw [show k = 64 by omega]
  rw [hpk] at hsl
  have hcl : ∀ W, Frm [] w W → Calls Tryd.prog 18 #[.slice a k c] W (CloneI (p.take 64) k W) := fun W hF => clone_any W a k c _ (hsl.frm hF) (by omega) (fun ha => ⟨by have := (hnil ha).1; omega, (hnil ha).2⟩)
  have hlen : (p.take 64).length = k := by rw [List.length_take, hn]; omega
  obtain ⟨q, hq⟩ : ∃ q, p.take 64 = q := ⟨_, rfl⟩
  have Hq := Lib.hid hq
  rw [hq] at hlen hcl hsl
  have Hlen := Lib.hid hlen
  have Hcl := Lib.hid hcl
  have Hif := Lib.hid hif
  have H1 := Lib.hid h1
  have Hk := Lib.hid hk
  have hBw := h.le
  clear h hp hn hif h1 hsl hpk hcl hk hq hlen
  go_enter Tryd.func14, Tryd.ntmps14
  go_wp2_with fail
  refine wp_world (fun W => Holds B w0 Q W ((w.heap.size + 1, e.box) :: (w.heap.size, stBox t) :: L) ∧ Frm [] w W) ⟨H1.out, ((Frm.refl _ _).alloc _).alloc _⟩ ?_
  rintro W ⟨hW, hF⟩
  have hkeep : ∀ (R : World → List Nat → Prop) (W' : World) (M : List (Nat × Obj)), Holds B w0 R W' (M ++ (w.heap.size + 1, e.box) :: (w.heap.size, stBox t) :: L) → W'.cell? ⟨w.heap.size + 1, 0, none⟩ = some (.int .i64 e.at_) ∧ W'.cell? ⟨w.heap.size + 1, 1, none⟩ = some (.int .i64 e.src) ∧ W'.cell? ⟨w.heap.size + 1, 2, none⟩ = some (.int .i64 e.sent) ∧ W'.cell? ⟨w.heap.size + 1, 3, none⟩ = some (.int .i64 e.no) ∧ W'.cell? ⟨w.heap.size + 1, 4, none⟩ = some (.int .i64 e.dst) ∧ W'.cell? ⟨w.heap.size + 1, 5, none⟩ = some (.int .i64 e.kind) ∧ W'.cell? ⟨w.heap.size + 1, 6, none⟩ = some (.int .i64 e.data) :=
    fun R W' M h => cells7 (h.box (k := w.heap.size + 1) (o := e.box) (by simp))
  have hd := hW.drew hQ
  have K1 := hkeep _ _ [] hd
  have H2 := Lib.hid hd
  have HK := Lib.hid hkeep
  have HF := Lib.hid hF
  have hif := Hif.out
  clear hW hd hkeep hF H1
  go_region_held3 (fun W' => W'.cell? ⟨w.heap.size + 1, 0, none⟩ = some (.int .i64 e.at_) ∧ W'.cell? ⟨w.heap.size + 1, 1, none⟩ = some (.int .i64 e.src) ∧ W'.cell? ⟨w.heap.size + 1, 2, none⟩ = some (.int .i64 e.sent) ∧ W'.cell? ⟨w.heap.size + 1, 3, none⟩ = some (.int .i64 e.no) ∧ W'.cell? ⟨w.heap.size + 1, 4, none⟩ = some (.int .i64 e.dst) ∧ W'.cell? ⟨w.heap.size + 1, 5, none⟩ = some (.int .i64 e.kind) ∧ W'.cell? ⟨w.heap.size + 1, 6, none⟩ = some (.int .i64 e.data))
    (first | exact K1 | exact HK.out _ _ [] H3.out | exact HK.out _ _ [(_, _)] H4.out)
    ((go_at_call 18
      refine (Hcl.out _ HF.out.drew).mono ?_
      rintro e' w3 ⟨pa, pc, rfl, hnew⟩
      have h3 := H2.out.newRowF hQ hnew
      have hs3 : Stable (sepR (rowR 47 5 (.slice pa k pc) k (flat Ins.enc q)) Q) := sepR_stable (rowR_stable _ _ _ _ _) hQ
      have H3 := Lib.hid h3
      have H4 := Lib.hid (h3.alloc hs3 (.cells (machA e (.slice pa k pc) (fun _ => 0) 0 (.slice none 0 0) fan) 52))
      clear h3 hnew))
  have h5 := H3.out.newBox hs3 (machA e (.slice pa k pc) (fun _ => 0) 0 (.slice none 0 0) fan) 52
  have H5 := Lib.hid h5
  rename_i hH
  clear hH h5 H4 K1 HK H2
  go_wp2_with fail
  refine wp_world (fun W4 => Holds B w0 (sepR (boxR w3.heap.size (machA e (.slice pa k pc) (fun _ => 0) 0 (.slice none 0 0) fan) 52) (sepR (rowR 47 5 (.slice pa k pc) k (flat Ins.enc q)) Q)) W4 ((w.heap.size + 1, e.box) :: (w.heap.size, stBox t) :: L)) H5.out ?_
  intro W4 hW4
  have hd4 := hW4.drew (sepR_stable (boxR_stable _ _ _) hs3)
  have hb4 := hd4.theBox
  have hst4 := cells4 (hd4.box (k := w.heap.size) (o := stBox t) (by simp))
  have hcp := copy4 W4.drew (g := w3.heap.size) (o := 8) (n := 8) (cn := 8) (d := w.heap.size) (e := 0) (m := 4) (cm := 4) (by decide) (fun j => .int .i64 (t j))
    (fun j hj => by
      obtain rfl | rfl | rfl | rfl : j = 0 ∨ j = 1 ∨ j = 2 ∨ j = 3 := by omega
      · exact hst4.1
      · exact hst4.2.1
      · exact hst4.2.2.1
      · exact hst4.2.2.2)
    (fun j _ => rfl) (fun j hj => by rw [cell_of_obj hb4, machA_cs (by omega)]; rfl) (fun j _ => frozen_of_obj hb4 _) 3
  have h6 := (((hd4.boxPut hs3 (8 + 0) (.int .i64 (t 0))).boxPut hs3 (8 + 1) (.int .i64 (t 1))).boxPut hs3 (8 + 2) (.int .i64 (t 2))).boxPut hs3 (8 + 3) (.int .i64 (t 3))
  rw [machA_set (by omega), machA_set (by omega), machA_set (by omega), machA_set (by omega)] at h6
  have H6 := Lib.hid h6
  have Hcp := Lib.hid hcp
  clear hW4 hd4 hb4 hst4 hcp h6 H5
  go_still_tail 5, (by kernel_rfl)
  change wpList _ _ _ _ _ W4.drew
  go_wp2_with (refine wpList_copy rfl _ _ _ _ rfl _ _ rfl rfl _ _ Hcp.out ?_)
  go_ret
  refine ⟨w3.heap.size, pa, pc, rfl, ?_⟩
  rw [Hq.out]
  refine Holds.mShut (a := none) (c := 0) ?_
  have eo : outP fan (st0 t).sent = [] := List.take_nil
  rw [eo]
  refine Holds.mBox' ?_
  have h7 := (H6.out.conv (Conv.refl _)).nilRow 37 4
  have h8 := h7.conv (Conv.exch.trans (Conv.right Conv.fold))
  rw [← Hlen.out] at h8
  exact h8.sub (fun _ hq => List.mem_cons_of_mem _ (List.mem_cons_of_mem _ hq))
end
end Go.Proofs.YtohdokddfjeekaaDoor
