/- does: Take beside the document's Take. -/
import Derived.Test.YtpfolcoijncfjaaSlabDoes0
import Derived.Test.YtpfolcoijncfjaaPhase
namespace Go.Proofs.Ytpfolcoijncfjaa
open Go.RowKit

section
variable {B : Nat} {w0 w : World} {Q : World → List Nat → Prop} {L : List (Nat × Obj)}
theorem takes_one (s : St) (c v : Int) (u : Bool) : ∃ (X T E : Int) (s' : St), s.takes c u v = (.tuple #[.agg #[.int .i64 X, .int .i64 T], .int .i64 E], s') ∧ s.rtakes c u = .tuple #[.int .i64 X, .int .i64 E] ∧
    (∀ a x t, doesH s ⟨0, c, u, v, a, x, t⟩ = (X, T)) ∧ (∀ l a x t, doesS s l ⟨0, c, u, v, a, x, t⟩ = s') ∧
    ((E ≠ 0 ∧ X = 0 ∧ T = 0 ∧ s' = s ∧ (c < 1 ∨ 4 < c ∨ s.isFull u = true)) ∨ (E = 0 ∧ X = (s.pick.1 : Int) ∧ T = s.turn ∧ s' = s.take c v ∧ 1 ≤ c ∧ c ≤ 4 ∧ s.isFull u = false)) := by
  rcases takes_both s c v u with ⟨E, h1, h2, h3, h4⟩ | ⟨h1, h2, h3⟩
  · refine ⟨0, 0, E, s, h2, h3, fun a x t => ?_, fun l a x t => ?_, .inl ⟨h1, rfl, rfl, rfl, h4⟩⟩
    · unfold doesH
      rw [if_pos rfl]
      dsimp only
      by_cases hc : c < 1 ∨ 4 < c
      · rw [if_pos hc]
      · rw [if_neg hc, if_pos]
        rcases h4 with h4 | h4 | h4
        · exact absurd (.inl h4) hc
        · exact absurd (.inr h4) hc
        · exact h4
    · unfold doesS
      rw [if_pos rfl]
      show (s.takes c u v).2 = s
      rw [h2]
  · refine ⟨_, _, 0, _, h1, h2, fun a x t => ?_, fun l a x t => ?_, .inr ⟨rfl, rfl, rfl, rfl, h3⟩⟩
    · unfold doesH
      rw [if_pos rfl]
      dsimp only
      rw [if_neg (by omega), if_neg (by rw [h3.2.2]; simp)]
    · unfold doesS
      rw [if_pos rfl]
      show (s.takes c u v).2 = _
      rw [h1]

attribute [local go_sem high] handle_eq handle_guard
set_option maxHeartbeats 8000000 in
set_option maxRecDepth 100000 in
theorem does_take (hQ : Stable Q) {P hb rb : Nat} {s : St} {l : List (Int × Int)} (h : Holds B w0 (playR P hb rb s l Q) w L) (ho : s.Ok) (ht : s.turn ≤ 1000000) (hl : l.length ≤ 1000) (cls v at_ hx hz : Int) (urg : Bool) (hL : ∀ p ∈ L, p.1 < w.heap.size) :
    Calls Try.prog 13 #[.pointer (some ⟨P, 0, none⟩), (OpV.mk 0 cls urg v at_ hx hz).val] w (Goes (.bool true) B w0 (playR P hb rb (doesS s l ⟨0, cls, urg, v, at_, hx, hz⟩) (l ++ [doesH s ⟨0, cls, urg, v, at_, hx, hz⟩]) Q) L) := by
  obtain ⟨a, c, h0⟩ := h.playOpen
  have hs := play0_stable hQ P hb rb s s l a c
  have h1 := (h0.alloc hs (OpV.mk 0 cls urg v at_ hx hz).box)
  have hPl := h0.pLt
  obtain ⟨c0, c1, c2⟩ := h0.pCells
  have hrow := h0.pRow
  have hBw := h0.le
  have H1 := Lib.hid h1
  have Ho := Lib.hid ho
  have HL := Lib.hid hL
  have Hrow := Lib.hid hrow
  clear h h0 h1 ho hL hrow
  by_cases hat0 : at_ < 0
  case' pos =>
    have g1 : decide (at_ ≥ 0) = false := by rw [decide_eq_false_iff_not]; omega
    have hh : handleAt l ⟨0, cls, urg, v, at_, hx, hz⟩ = (hx, hz) := handle_out (.inl hat0)
    have Hh := Lib.hid hh
    have h2 := H1.out.alloc hs (hBox hx hz)
    simp only [World.size_alloc] at h2
    have H2 := Lib.hid h2
    clear hh h2
    go_enter Try.func13, Try.ntmps13
    go_wp2_with fail
    go_quiet (fail)
    go_wp2_with fail
    obtain ⟨ob, hob⟩ : ∃ ob, ob = (OpV.mk 0 cls urg v at_ hx hz).box := ⟨_, rfl⟩
    have Hop : ∀ W' : World, W'.heap[w.heap.size]? = some ob → W'.cell? ⟨w.heap.size, 0, none⟩ = some (.int .i64 0) ∧ W'.cell? ⟨w.heap.size, 1, none⟩ = some (.int .i64 cls) ∧ W'.cell? ⟨w.heap.size, 2, none⟩ = some (.bool urg) ∧ W'.cell? ⟨w.heap.size, 3, none⟩ = some (.int .i64 v) := fun W' h' => by
      rw [hob] at h'
      obtain ⟨k0, k1, k2, k3, _⟩ := opCells h'
      exact ⟨k0, k1, k2, k3⟩
    obtain ⟨X, hX⟩ : ∃ X, X = hx := ⟨_, rfl⟩
    obtain ⟨T, hT⟩ : ∃ T, T = hz := ⟨_, rfl⟩
    refine wp_world (fun W => Holds B w0 (play0 P hb rb s s l a c Q) W ((w.heap.size + 1, hBox X T) :: (w.heap.size, ob) :: L)) (by subst hob hX hT; exact H2.out.drewN hs _) ?_
    intro W hW
    have Hh : Hid (handleAt l ⟨0, cls, urg, v, at_, hx, hz⟩ = (X, T)) := by subst hX hT; exact Hh
    clear hob
    clear hX hT g1 H1 H2 Hrow
  case' neg =>
    have g1 : decide (at_ ≥ 0) = true := by rw [decide_eq_true_eq]; omega
    obtain ⟨i, rfl⟩ : ∃ i : Nat, at_ = (i : Int) := ⟨at_.toNat, by omega⟩
    by_cases hlt : i < l.length
    case' pos =>
      have g2 : decide ((i : Int) < (l.length : Int)) = true := by rw [decide_eq_true_eq]; omega
      have g3 : decide (i < l.length) = true := by rw [decide_eq_true_eq]; exact hlt
      have hlt' : (i : Int) < (l.length : Int) := by omega
      obtain ⟨gr, rfl, hgr, X, T, hlx, r0, r1⟩ := row_handle Hrow.out hlt
      have hh : handleAt l ⟨0, cls, urg, v, i, hx, hz⟩ = (X, T) := handle_lt rfl hlx
      have Hh := Lib.hid hh
      have h2 := H1.out.alloc hs (hBox hx hz)
      simp only [World.size_alloc] at h2
      have H2 := Lib.hid h2
      have Hlx := Lib.hid hlx
      clear hh h2 hlx
      go_enter Try.func13, Try.ntmps13
      go_wp2_with fail
      go_quiet (fail)
      go_wp2_with fail
      refine wp_world (fun W => Holds B w0 (play0 P hb rb s s l (some ⟨gr, 0, none⟩) c Q) W ((w.heap.size + 1, hBox hx hz) :: (w.heap.size, (OpV.mk 0 cls urg v i hx hz).box) :: L)) (H2.out.drewN hs _) ?_
      intro W1 hW1
      obtain ⟨gr', hgr0, _, X', T', hlx', r0', r1'⟩ := row_handle hW1.pRow hlt
      simp only [Option.some.injEq, Addr.mk.injEq, and_true] at hgr0
      subst hgr0
      obtain ⟨rfl, rfl⟩ : X = X' ∧ T = T' := by
        have := Hlx.out.symm.trans hlx'
        simp only [Option.some.injEq, Prod.mk.injEq] at this
        exact this
      have d2 := hW1.pCells.2.2
      have dP := hW1.pLt
      obtain ⟨_, _, _, _, o4, _, _⟩ := opCells (hW1.box (k := w.heap.size) (o := (OpV.mk 0 cls urg v i hx hz).box) (by simp))
      have hbx := hW1.box (k := w.heap.size + 1) (o := hBox hx hz) (by simp)
      obtain ⟨e0, e1⟩ := cells2 hbx
      have fz : ∀ k, W1.frozen? ⟨w.heap.size + 1, k, none⟩ = false := fun k => frozen_of_obj hbx k
      have zx := lt_of_obj hbx
      have zo := lt_of_obj (hW1.box (k := w.heap.size) (o := (OpV.mk 0 cls urg v i hx hz).box) (by simp))
      have hW2 := ((hW1.put (L := []) hs (by omega) (by simp) (by
        intro p hp
        simp only [List.mem_cons] at hp
        rcases hp with rfl | hp
        · dsimp only; omega
        · have := HL.out p hp; omega) 0 (.int .i64 X)).put (L := []) hs (by omega) (by simp) (by
        intro p hp
        simp only [List.mem_cons] at hp
        rcases hp with rfl | hp
        · dsimp only; omega
        · have := HL.out p hp; omega) 1 (.int .i64 T)).drew hs
      obtain ⟨gr2, hgr2, _, X2, T2, hlx2, r02, r12⟩ := row_handle hW2.pRow hlt
      simp only [Option.some.injEq, Addr.mk.injEq, and_true] at hgr2
      subst hgr2
      obtain ⟨rfl, rfl⟩ : X = X2 ∧ T = T2 := by
        have := Hlx.out.symm.trans hlx2
        simp only [Option.some.injEq, Prod.mk.injEq] at this
        exact this
      have K1 := And.intro d2 (And.intro o4 (And.intro r0' r1'))
      have K2 := And.intro hW2.pCells.2.2 (And.intro (opCells (hW2.box (k := w.heap.size) (o := (OpV.mk 0 cls urg v i hx hz).box) (by simp))).2.2.2.2.1 (And.intro r02 r12))
      have HK2 := Lib.hid K2
      have HW2 := Lib.hid hW2
      clear hW1 hW2 K2 r02 r12 hlx' hlx2 H1 H2 Hrow Hlx hbx g1 g2 g3
      go_region_held3 (fun W' => W'.cell? ⟨P, 2, none⟩ = some (.slice (some ⟨gr, 0, none⟩) l.length c) ∧ W'.cell? ⟨w.heap.size, 4, none⟩ = some (.int .i64 (i : Int)) ∧ W'.cell? ⟨gr, i * 2, none⟩ = some (.int .i64 X) ∧ W'.cell? ⟨gr, i * 2 + 1, none⟩ = some (.int .i64 T))
        (first | exact K1 | exact HK2.out) (fail)
      rename_i hHx
      clear hHx K1 HK2 d2 o4 r0' r1' e0 e1 fz zx zo dP
      go_wp2_with fail
      obtain ⟨ob, hob⟩ : ∃ ob, ob = (OpV.mk 0 cls urg v i hx hz).box := ⟨_, rfl⟩
      have Hop : ∀ W' : World, W'.heap[w.heap.size]? = some ob → W'.cell? ⟨w.heap.size, 0, none⟩ = some (.int .i64 0) ∧ W'.cell? ⟨w.heap.size, 1, none⟩ = some (.int .i64 cls) ∧ W'.cell? ⟨w.heap.size, 2, none⟩ = some (.bool urg) ∧ W'.cell? ⟨w.heap.size, 3, none⟩ = some (.int .i64 v) := fun W' h' => by
        rw [hob] at h'
        obtain ⟨k0, k1, k2, k3, _⟩ := opCells h'
        exact ⟨k0, k1, k2, k3⟩
      refine wp_world (fun W => Holds B w0 (play0 P hb rb s s l (some ⟨gr, 0, none⟩) c Q) W ((w.heap.size + 1, hBox X T) :: (w.heap.size, ob) :: L)) (by subst hob; exact HW2.out) ?_
      intro W hW
      clear HW2 hgr r0 r1 hob
      obtain ⟨a, ha⟩ : ∃ a : Option Addr, a = some ⟨gr, 0, none⟩ := ⟨_, rfl⟩
      rw [← ha] at hW hs c2
      clear ha
    case' neg =>
      have g2 : decide ((i : Int) < (l.length : Int)) = false := by rw [decide_eq_false_iff_not]; omega
      have g3 : decide (i < l.length) = false := by rw [decide_eq_false_iff_not]; exact hlt
      have hh : handleAt l ⟨0, cls, urg, v, i, hx, hz⟩ = (hx, hz) := handle_out (.inr (by show (l.length : Int) ≤ (i : Int); omega))
      have Hh := Lib.hid hh
      have h2 := H1.out.alloc hs (hBox hx hz)
      simp only [World.size_alloc] at h2
      have H2 := Lib.hid h2
      clear hh h2
      go_enter Try.func13, Try.ntmps13
      go_wp2_with fail
      go_quiet (fail)
      go_wp2_with fail
      obtain ⟨ob, hob⟩ : ∃ ob, ob = (OpV.mk 0 cls urg v i hx hz).box := ⟨_, rfl⟩
      have Hop : ∀ W' : World, W'.heap[w.heap.size]? = some ob → W'.cell? ⟨w.heap.size, 0, none⟩ = some (.int .i64 0) ∧ W'.cell? ⟨w.heap.size, 1, none⟩ = some (.int .i64 cls) ∧ W'.cell? ⟨w.heap.size, 2, none⟩ = some (.bool urg) ∧ W'.cell? ⟨w.heap.size, 3, none⟩ = some (.int .i64 v) := fun W' h' => by
        rw [hob] at h'
        obtain ⟨k0, k1, k2, k3, _⟩ := opCells h'
        exact ⟨k0, k1, k2, k3⟩
      obtain ⟨X, hX⟩ : ∃ X, X = hx := ⟨_, rfl⟩
      obtain ⟨T, hT⟩ : ∃ T, T = hz := ⟨_, rfl⟩
      refine wp_world (fun W => Holds B w0 (play0 P hb rb s s l a c Q) W ((w.heap.size + 1, hBox X T) :: (w.heap.size, ob) :: L)) (by subst hob hX hT; exact H2.out.drewN hs _) ?_
      intro W hW
      have Hh : Hid (handleAt l ⟨0, cls, urg, v, i, hx, hz⟩ = (X, T)) := by subst hX hT; exact Hh
      clear hob
      clear hX hT g1 g2 g3 H1 H2 Hrow
  all_goals
    obtain ⟨d0, d1, d2⟩ := hW.pCells
    have dP := hW.pLt
    obtain ⟨lv, fv, hR⟩ := hW.pRef
    have hR1 := Lib.hid hR
    have hro := Ho.out.room
    obtain ⟨o0, o1, o2, o3⟩ := Hop W (hW.box (k := w.heap.size) (o := ob) (by simp))
    have zo := lt_of_obj (hW.box (k := w.heap.size) (o := ob) (by simp))
    obtain ⟨x0, x1⟩ := cells2 (hW.box (k := w.heap.size + 1) (o := hBox X T) (by simp))
    have zx := lt_of_obj (hW.box (k := w.heap.size + 1) (o := hBox X T) (by simp))
    have HW := Lib.hid hW
    clear hW hR
    go_quiet ((go_at_call 18; exact Calls.quiet_of_same ((rtells_any (hR1.out.kept ((Frm.refl [] _).drewN _) (by simp)) (by show s.full.length ≤ 10000; rw [full_len]; omega) _ _).mono fun _ _ ⟨e1, e2⟩ => ⟨e1, e2.symm⟩)))
    go_wp2_with fail
    obtain ⟨X7, T7, E7, s7, hk, hrk, hdH, hdS, hcase⟩ := takes_one s cls v urg
    have HdH := Lib.hid hdH
    have HdS := Lib.hid hdS
    have Hrk := Lib.hid hrk
    have Hcase := Lib.hid hcase
    have hsA := play0_stable hQ P hb rb s s l a c
    have hsB := play0_stable hQ P hb rb s7 s l a c
    have Hd := Lib.hid ((HW.out.drewN hsA nq).drew hsA)
    have y0 := Hd.out.pCells.1
    obtain ⟨_, y1, y2, y3⟩ := Hop _ (Hd.out.box (k := w.heap.size) (o := ob) (by simp))
    have ha : Holds B w0 (play0 P hb rb s s l a c Q) ((W.drewN (nq + 1)).alloc (hBox 0 0)) ((W.heap.size, hBox 0 0) :: (w.heap.size + 1, hBox X T) :: (w.heap.size, ob) :: L) := (HW.out.drewN hsA (nq + 1)).alloc hsA (hBox 0 0)
    have Ha := Lib.hid ha
    clear ha
    have v0 := Ha.out.pCells.1
    obtain ⟨_, v1, v2, v3⟩ := Hop _ (Ha.out.box (k := w.heap.size) (o := ob) (by simp))
    have hsT : Stable (sepR (boxR P #[.pointer (some ⟨hb, 0, none⟩), .pointer (some ⟨rb, 0, none⟩), .slice a l.length c] 35) (sepR (rowR 38 2 (.slice a l.length c) l.length (handleCells l)) (sepR (refR rb s.ref) Q))) := sepR_stable (boxR_stable _ _ _) (sepR_stable (rowR_stable _ _ _ _ _) (sepR_stable (refR_stable _ _) hQ))
    have hMb : ∀ b, w.heap.size + 1 < b → ∀ p ∈ ((w.heap.size + 1, hBox X T) :: (w.heap.size, ob) :: L), p.1 ≠ b := by
      intro b hb p hp
      simp only [List.mem_cons] at hp
      rcases hp with rfl | rfl | hp
      · dsimp only; omega
      · dsimp only; omega
      · have := HL.out p hp; omega
    clear hrk hcase hdH hdS d0 d1 d2 o0 o1 o2 o3 x0 x1
    go_region_held3 (fun w' => w'.cell? ⟨P, 0, none⟩ = some (.pointer (some ⟨hb, 0, none⟩)) ∧ w'.cell? ⟨w.heap.size, 1, none⟩ = some (.int .i64 cls) ∧ w'.cell? ⟨w.heap.size, 2, none⟩ = some (.bool urg) ∧ w'.cell? ⟨w.heap.size, 3, none⟩ = some (.int .i64 v))
      (first | exact ⟨y0, y1, y2, y3⟩ | exact ⟨v0, v1, v2, v3⟩ | exact ⟨z0, z1, z2, z3⟩ | exact ⟨q0, q1, q2, q3⟩ | exact ⟨p0, p1, p2, p3⟩ | go_keep)
      (first
        | (go_at_call 21
           refine (take_goes hsT Ha.out.pSlab Ho.out cls v urg _ s7 ht hk).mono ?_
           rintro e w3 ⟨rfl, h3⟩
           have h4 := h3.pSlab'
           have z0 := h4.pCells.1
           obtain ⟨_, z1, z2, z3⟩ := Hop _ (h4.box (k := w.heap.size) (o := ob) (by simp))
           have e7 := cells2 h4.boxHead
           have f7 : ∀ k, w3.frozen? ⟨W.heap.size, k, none⟩ = false := fun k => frozen_of_obj h4.boxHead k
           have z7 := lt_of_obj h4.boxHead
           have h5 := h4.put2 hsB (by omega) (hMb _ zx) X7 T7
           have p0 := h5.pCells.1
           obtain ⟨_, p1, p2, p3⟩ := Hop _ (h5.box (k := w.heap.size) (o := ob) (by simp))
           have H5 := Lib.hid h5
           clear h3 h4 h5)
        | (go_at_call 21
           refine (take_goes hsT Hd.out.pSlab Ho.out cls v urg _ s7 ht hk).mono ?_
           rintro e w3 ⟨rfl, h3⟩
           have h4 := h3.pSlab'
           have z0 := h4.pCells.1
           obtain ⟨_, z1, z2, z3⟩ := Hop _ (h4.box (k := w.heap.size) (o := ob) (by simp))
           have zx3 := lt_of_obj (h4.box (k := w.heap.size + 1) (o := hBox X T) (by simp))
           have h4a := h4.alloc hsB (hBox 0 0)
           have q0 := h4a.pCells.1
           obtain ⟨_, q1, q2, q3⟩ := Hop _ (h4a.box (k := w.heap.size) (o := ob) (by simp))
           have h5 := h4.alloc hsB (hBox X7 T7)
           have p0 := h5.pCells.1
           obtain ⟨_, p1, p2, p3⟩ := Hop _ (h5.box (k := w.heap.size) (o := ob) (by simp))
           have H5 := Lib.hid h5
           clear h3 h4 h4a h5))
    clear y0 y1 y2 y3 v0 v1 v2 v3
  all_goals
    first
      | (have zn := zx3
         clear z0 z1 z2 z3 q0 q1 q2 q3 p0 p1 p2 p3 zx3
         go_wp2_with fail
         refine wp_world (fun W5 => Holds B w0 (play0 P hb rb s7 s l a c Q) W5 ((w3.heap.size, hBox X7 T7) :: (w.heap.size + 1, hBox X T) :: (w.heap.size, ob) :: L)) H5.out ?_
         generalize w3.heap.size = nb at zn ⊢)
      | (have zn := zx
         clear z0 z1 z2 z3 p0 p1 p2 p3 e7 f7 z7
         go_wp2_with fail
         refine wp_world (fun W5 => Holds B w0 (play0 P hb rb s7 s l a c Q) W5 ((W.heap.size, hBox X7 T7) :: (w.heap.size + 1, hBox X T) :: (w.heap.size, ob) :: L)) H5.out ?_
         generalize W.heap.size = nb at zn ⊢)
    intro W5 hW5
    have Hk := Lib.hid hk
    clear H5 Ha Hd HW hMb hsT hR1 hk
    have d1 := hW5.pCells.2.1
    obtain ⟨_, y1, y2, y3⟩ := Hop W5 (hW5.box (k := w.heap.size) (o := ob) (by simp))
    have dP := hW5.pLt
    have zo := lt_of_obj (hW5.box (k := w.heap.size) (o := ob) (by simp))
    have Hd5 := Lib.hid (hW5.drew hsB)
    clear hW5
    have hsR : Stable (sepR (boxR P #[.pointer (some ⟨hb, 0, none⟩), .pointer (some ⟨rb, 0, none⟩), .slice a l.length c] 35) (sepR (rowR 38 2 (.slice a l.length c) l.length (handleCells l)) (sepR (slabR hb s7) Q))) := sepR_stable (boxR_stable _ _ _) (sepR_stable (rowR_stable _ _ _ _ _) (sepR_stable (slabR_stable _ _) hQ))
    go_region_held3 (fun w' => w'.cell? ⟨P, 1, none⟩ = some (.pointer (some ⟨rb, 0, none⟩)) ∧ w'.cell? ⟨w.heap.size, 1, none⟩ = some (.int .i64 cls) ∧ w'.cell? ⟨w.heap.size, 2, none⟩ = some (.bool urg) ∧ w'.cell? ⟨w.heap.size, 3, none⟩ = some (.int .i64 v))
      (first | exact ⟨d1, y1, y2, y3⟩ | exact ⟨z0, z1, z2, z3⟩ | go_keep)
      ((go_at_call 27
        refine (rtake_goes hsR Hd5.out.pRefF Ho.out cls v urg ht).mono ?_
        rintro e w6 ⟨rfl, h6⟩
        rw [Hrk.out]
        have h7 := h6.pRefF'
        rw [Hk.out] at h7
        have z0 := h7.pCells.2.1
        obtain ⟨_, z1, z2, z3⟩ := Hop _ (h7.box (k := w.heap.size) (o := ob) (by simp))
        have H7 := Lib.hid h7
        clear h6 h7))
    clear d1 y1 y2 y3 z0 z1 z2 z3
    go_wp2_with fail
    refine wp_world (fun W7 => Holds B w0 (play0 P hb rb s7 s7 l a c Q) W7 ((nb, hBox X7 T7) :: (w.heap.size + 1, hBox X T) :: (w.heap.size, ob) :: L)) H7.out ?_
    clear H7 Hd5 dP zo
    intro W7 hW7
    have hsC := play0_stable hQ P hb rb s7 s7 l a c
    obtain ⟨i1, hj0, hj1, hj2, hj3⟩ := info_parts infoHandle2
    have Hi := Lib.hid (And.intro hj0 (And.intro hj1 (And.intro hj2 hj3)))
    have hd7 := hW7.drew hsC
    have h8 := hd7.alloc hsC (hBox X7 T7)
    obtain ⟨b0, b1⟩ := cells2 hd7.boxHead
    have n0 := cells2 (h8.box (k := nb) (o := hBox X7 T7) (by simp))
    have hHeld := And.intro hd7.pCells.2.2 (And.intro b0 b1)
    have HK8 := Lib.hid (And.intro h8.pCells.2.2 n0)
    have H8 := Lib.hid h8
    have dP := hd7.pLt
    clear hW7 hd7 h8 hj0 hj1 hj2 hj3 b0 b1 n0
    refine wp_region_N (fun w' => w'.cell? ⟨P, 2, none⟩ = some (.slice a l.length c) ∧ w'.cell? ⟨nb, 0, none⟩ = some (.int .i64 X7) ∧ w'.cell? ⟨nb, 1, none⟩ = some (.int .i64 T7)) 8 (by kernel_rfl) ?_
    refine wpAnyN_take (i := 0) (oi := ⟨some 82, _, _, _, _, _⟩) (v := ?_) rfl (by kernel_rfl) (fun _ _ _ h => h) (Or.inl ⟨by rfl, ?_⟩) (by assumption) ?_
    rotate_left
    · (intro w hSw; (try dsimp only at hSw); go_simp; try with_reducible rfl)
    try simp only [Act.put, List.setIfInBounds_toArray, List.set_cons_zero, List.set_cons_succ]
    refine wpAnyN_take (i := 1) (oi := ⟨some 83, _, _, _, _, _⟩) (v := ?_) rfl (by kernel_rfl) (fun _ _ _ h => h) (Or.inl ⟨by rfl, ?_⟩) (by assumption) ?_
    rotate_left
    · (intro w hSw; (try dsimp only at hSw); go_simp; try with_reducible rfl)
    try simp only [Act.put, List.setIfInBounds_toArray, List.set_cons_zero, List.set_cons_succ]
    refine wpAnyN_take (i := 2) (oi := ⟨some 84, _, _, _, _, _⟩) (v := ?_) rfl (by kernel_rfl) (fun _ _ _ h => h) (Or.inl ⟨by rfl, ?_⟩) (by assumption) ?_
    rotate_left
    · (intro w hSw; (try dsimp only at hSw); go_simp; try with_reducible rfl)
    try simp only [Act.put, List.setIfInBounds_toArray, List.set_cons_zero, List.set_cons_succ]
    refine wpAnyN_take (i := 3) (oi := ⟨some 85, _, _, _, _, _⟩) (v := ?_) rfl (by kernel_rfl) (fun _ _ _ h => h) (Or.inl ⟨by rfl, ?_⟩) (by assumption) ?_
    rotate_left
    · (intro w hSw; (try dsimp only at hSw); go_simp; try with_reducible rfl)
    try simp only [Act.put, List.setIfInBounds_toArray, List.set_cons_zero, List.set_cons_succ]
    refine wpAnyN_take (i := 4) (oi := ⟨some 86, _, _, _, _, _⟩) (v := ?_) rfl (by kernel_rfl) (fun _ _ _ h => h) (Or.inl ⟨by rfl, ?_⟩) (by assumption) ?_
    rotate_left
    · (intro w hSw; (try dsimp only at hSw); go_simp; try with_reducible rfl)
    try simp only [Act.put, List.setIfInBounds_toArray, List.set_cons_zero, List.set_cons_succ]
    refine wpAnyN_take (i := 5) (oi := ⟨some 87, _, _, _, _, _⟩) (v := ?_) rfl (by kernel_rfl) (fun _ _ _ h => h) (Or.inl ⟨by rfl, ?_⟩) (by assumption) ?_
    rotate_left
    · (intro w hSw; (try dsimp only at hSw); go_simp; try with_reducible rfl)
    try simp only [Act.put, List.setIfInBounds_toArray, List.set_cons_zero, List.set_cons_succ]
    refine wpAnyN_one (i := 6) (o := ⟨some 88, _, _, _, _, _⟩) (by kernel_rfl) rfl (fun K hK => ?_)
    go_simp
    refine hK.out _ _ (fun _ => HK8.out) ?_
    clear hK K hHeld
    try simp only [Act.put, List.setIfInBounds_toArray, List.set_cons_zero, List.set_cons_succ]
    refine wpAnyN_one (i := 7) (o := ⟨some 89, _, _, _, _, _⟩) (by kernel_rfl) rfl (fun K hK => ?_)
    refine step_append_foot rfl (.tmp 86) (.tmp 88) 33 rfl 38 i1 (.agg #[.int .i64 0, .int .i64 0]) 2 16 Try.underlying33 Hi.out.1 Hi.out.2.1 Hi.out.2.2.1 Hi.out.2.2.2 rfl (by decide) (.slice a l.length c) l.length (handleCells l) rfl H8.out.pRow ⟨W7.heap.size, 0, none⟩ 1 1 [.int .i64 X7, .int .i64 T7] rfl rfl (cells_new _ _ _) (by simp [Value.oneCell']) (by unfold maxLen; omega) (by omega) ?_
    intro a3 c3 w9 hown hF hn3
    obtain ⟨h9, h10⟩ := H8.out.pAppended hQ hown hF hn3
    have m2 := (cells3 h9.theBox).2.2
    have mb := cells2 (h9.box (k := nb) (o := hBox X7 T7) (by simp))
    refine hK.out _ _ (fun _ => ⟨m2, mb⟩) ?_
    have fz : ∀ k, w9.frozen? ⟨P, k, none⟩ = false := fun k => frozen_of_obj h9.theBox k
    have hlt3 : P < w9.heap.size := lt_of_obj h9.theBox
    have H10 := Lib.hid h10
    clear hK K hown hF hn3 h9 h10 mb HK8 H8
    try simp only [Act.put, List.setIfInBounds_toArray, List.set_cons_zero, List.set_cons_succ]
    refine wpAnyN_one (i := 8) (o := ⟨some 90, _, _, _, _, _⟩) (by kernel_rfl) rfl (fun K hK => ?_)
    go_simp
    refine hK.out _ _ (fun h => absurd h (by decide)) ?_
    clear hK K
    try simp only [Act.put, List.setIfInBounds_toArray, List.set_cons_zero, List.set_cons_succ]
    refine wpAnyN_one (i := 9) (o := ⟨some 91, _, _, _, _, _⟩) (by kernel_rfl) rfl (fun K hK => ?_)
    go_simp
    refine hK.out _ _ (fun h => absurd h (by decide)) ?_
    clear hK K
    try simp only [Act.put, List.setIfInBounds_toArray, List.set_cons_zero, List.set_cons_succ]
    refine wpAnyN_one (i := 10) (o := ⟨none, _, _, _, _, _⟩) (by kernel_rfl) rfl (fun K hK => ?_)
    go_simp
    refine hK.out _ _ (fun h => absurd h (by decide)) ?_
    clear hK K
    try simp only [Act.put, List.setIfInBounds_toArray, List.set_cons_zero, List.set_cons_succ]
    refine wpAnyN_done (by kernel_rfl) ?_ _
    generalize w9.setCell ⟨P, 2, none⟩ (.slice a3 (l.length + 1) c3) = W11 at H10 ⊢
    clear m2 fz hlt3
    have dP := H10.out.pLt
    rcases Hcase.out with ⟨hE, rfl, rfl, h7, _⟩ | ⟨rfl, hX, hT, h7, _, _, hf⟩
    · have gE : (E7 != 0) = true := by simpa using hE
      have gE2 : (E7 == E7) = true := by simp
      obtain ⟨m0, m1⟩ := cells2 (H10.out.box (k := nb) (o := hBox 0 0) (by simp))
      clear hE Hcase Hrk Hk h7 Ho ht hl
      go_wp2_with fail
      go_ret
      refine ⟨by simp, ?_⟩
      rw [HdS.out, HdH.out]
      exact (H10.out.sub (fun p hp => by simp [hp])).playShut
    · have hsl := take_slot Ho.out cls v hf
      rw [← h7] at hsl
      obtain ⟨p, hp⟩ : ∃ p, s.pick.1 = p := ⟨_, rfl⟩
      rw [hp, ← hT] at hsl
      rw [hp] at hX
      subst hX
      obtain ⟨lv, fv, hR⟩ := H10.out.pRef
      obtain ⟨g, cap, rfl, hg, hcap, k0, k1, k2, kf⟩ := hR.slot hsl
      have hpl := (List.getElem?_eq_some_iff.1 hsl).1
      have r0 := hR.c0
      have zr := lt_of_obj hR.box
      obtain ⟨N, hN⟩ : ∃ N, s7.ref.L.length = N := ⟨_, rfl⟩
      rw [hN] at hpl hcap r0
      have d1 := H10.out.pCells.2.1
      obtain ⟨m0, m1⟩ := cells2 (H10.out.box (k := nb) (o := hBox (p : Int) T7) (by simp))
      have gi1 : decide ((p : Int) < (N : Int)) = true := by rw [decide_eq_true_eq]; omega
      have gi2 : decide (p < N) = true := by rw [decide_eq_true_eq]; omega
      have gi3 : ((p : Int) == (p : Int) && T7 == T7) = true := by simp
      clear hsl hN hR hp hT h7 Hcase Hrk Hk Ho ht hl k0 k2 kf hf
      go_wp2_with fail
      go_quiet (fail)
      go_wp2_with fail
      go_ret
      refine ⟨by simp, ?_⟩
      rw [HdS.out, HdH.out]
      exact ((H10.out.drewN (play0_stable hQ P hb rb s7 s7 _ a3 c3) _).sub (fun p hp => by simp [hp])).playShut
end
end Go.Proofs.Ytpfolcoijncfjaa
