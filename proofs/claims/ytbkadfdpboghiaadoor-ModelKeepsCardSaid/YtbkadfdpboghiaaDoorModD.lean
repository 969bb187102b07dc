/- Package model: Check. -/
import Derived.Test.YtbkadfdpboghiaaDoorModB
import Derived.Deep.RegionHeld3
namespace Go.Proofs.YtbkadfdpboghiaaDoor
open Go.RowKit Go.Maps

/-- A configuration's box, and that nothing else has turned. -/
abbrev KS (C : Cf) (b : Nat) (w : World) (w' : World) : Prop :=
  w'.cell? ⟨b, 0, none⟩ = some (.slice C.pa C.pn C.pc) ∧ w'.cell? ⟨b, 1, none⟩ = some (.slice C.la C.ln C.lc) ∧ w'.cell? ⟨b, 2, none⟩ = some (.slice C.sa C.sn C.sc) ∧ w'.cell? ⟨b, 3, none⟩ = some (.int .i64 C.fin) ∧ w'.cell? ⟨b, 4, none⟩ = some (.int .i64 C.fuel) ∧ w'.cell? ⟨b, 5, none⟩ = some (.int .i64 C.fan) ∧ Frm [] w w'
theorem KS.of {C : Cf} {b : Nat} {t : TypeId} {w w' : World} (h : w'.heap[b]? = some (C.obj t)) (hf : Frm [] w w') : KS C b w w' := by
  obtain ⟨c0, c1, c2, c3, c4, c5⟩ := cells6 h
  exact ⟨c0, c1, c2, c3, c4, c5, hf⟩
theorem KS.frm {C : Cf} {b : Nat} {w w' w2 : World} (h : KS C b w w') (hf : Frm [] w' w2) : KS C b w w2 := by
  obtain ⟨c0, c1, c2, c3, c4, c5, hw⟩ := h
  exact ⟨hf.cell c0 (by simp), hf.cell c1 (by simp), hf.cell c2 (by simp), hf.cell c3 (by simp), hf.cell c4 (by simp), hf.cell c5 (by simp), hw.trans (T := []) hf (by simp)⟩
theorem KS.f {C : Cf} {b : Nat} {w w' : World} (h : KS C b w w') : Frm [] w w' := h.2.2.2.2.2.2

theorem errs_at {w : World} (l : List Int) (t : TypeId) : SlAt intEnc 1 (w.alloc (.cells (l.map (Value.int .i64)).toArray t)) (some ⟨w.heap.size, 0, none⟩) l.length l.length l ↔ l.length ≤ maxLen := by
  constructor
  · exact fun h => h.2.2.1
  · intro hm
    refine ⟨rfl, Nat.le_refl _, hm, .inr ⟨w.heap.size, 0, rfl, by simp, fun i x hi j u hj => ?_⟩⟩
    have hi' := (List.getElem?_eq_some_iff.1 hi).1
    match j, hj with
    | 0, hj =>
      simp only [intEnc, List.getElem?_cons_zero, Option.some.injEq] at hj
      subst hj
      rw [cell_of_obj (obj_new w _)]
      simp [hi]
    | j + 1, hj => simp [intEnc] at hj

set_option maxHeartbeats 8000000 in
set_option maxRecDepth 100000 in
theorem mcheck_any {C : Cf} {w : World} (hO : Ops w) (hC : CfAt w C) : Calls Tryd.prog 13 #[C.val] w (Tells (.int .i64 (checkC C)) w) := by
  have hk0 : KS C w.heap.size w (w.alloc (C.obj 26)) := KS.of (obj_new w _) ((Frm.refl _ _).alloc _)
  have HK0 := Lib.hid hk0
  have HO := Lib.hid hO
  have HC := Lib.hid hC
  have z0 : w.heap.size < (w.alloc (C.obj 26)).heap.size := by simp
  clear hk0 hO hC
  go_enter Tryd.func13, Tryd.ntmps13
  go_wp2_with fail
  go_region_held3 (fun w' => w'.cell? ⟨w.heap.size, 0, none⟩ = some (.slice C.pa C.pn C.pc) ∧ w'.cell? ⟨w.heap.size, 1, none⟩ = some (.slice C.la C.ln C.lc) ∧ w'.cell? ⟨w.heap.size, 2, none⟩ = some (.slice C.sa C.sn C.sc) ∧ w'.cell? ⟨w.heap.size, 3, none⟩ = some (.int .i64 C.fin) ∧ w'.cell? ⟨w.heap.size, 4, none⟩ = some (.int .i64 C.fuel) ∧ w'.cell? ⟨w.heap.size, 5, none⟩ = some (.int .i64 C.fan) ∧ Frm [] w w')
    (first
      | exact HK0.out.frm ((Frm.refl _ _).drew)
      | exact HK1.out
      | exact HK2.out
      | exact HK3.out
      | exact HK3.out.frm ((Frm.refl _ _).alloc _))
    (first
      | (go_at_call 33; refine (within_any _ _ _ _).mono ?_; rintro e w4 ⟨rfl, rfl⟩)
      | (go_at_call 34; refine (room_any _ _ _ _).mono ?_; rintro e w4 ⟨rfl, rfl⟩)
      | (go_at_call 35; refine (written_any (HO.out.frm (HK0.out.frm ((Frm.refl _ _).drew)).f) (HC.out.frm (HK0.out.frm ((Frm.refl _ _).drew)).f).ps (HC.out.frm (HK0.out.frm ((Frm.refl _ _).drew)).f).is_).mono ?_; rintro e w1 ⟨rfl, hF⟩; have HK1 := Lib.hid ((HK0.out.frm ((Frm.refl _ _).drew)).frm hF); clear hF)
      | (go_at_call 36; refine (known_any (HC.out.frm HK1.out.f)).mono ?_; rintro e w2 ⟨rfl, hF⟩; have HK2 := Lib.hid (HK1.out.frm hF); clear hF)
      | (go_at_call 37; refine (timely_any (HC.out.frm HK2.out.f)).mono ?_; rintro e w3 ⟨rfl, hF⟩; have HK3 := Lib.hid (HK2.out.frm hF); clear hF)
      | (go_at_call 32; refine (first_any ((errs_at [withinE C.ln 1 32, withinE C.pn 1 32, withinE C.fin 1 1073741824, withinE C.fuel 1 1024, withinE C.fan 0 8, roomE C.sn, writtenE C.ps, knownE C, timelyE C] 35).2 (by unfold maxLen; simp))).mono ?_; rintro e w4 ⟨rfl, rfl⟩))
  go_wp2_with fail
  go_ret
  exact ⟨rfl, (HK3.out.frm ((Frm.refl _ _).alloc _)).f⟩
end Go.Proofs.YtbkadfdpboghiaaDoor
