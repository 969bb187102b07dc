/- The document's slab is turned: Take of a slot that never held a thing, Take that is refused, Free. -/
import Derived.Test.YtpfolcoijncfjaaSlabRefT
namespace Go.Proofs.Ytpfolcoijncfjaa
open Go.RowKit

def RnRel (w : World) (k : Nat) (av iv : Value) (wr : World) : Prop :=
  ((∃ j : Nat, j ≤ k ∧ av = .int .i64 (-1) ∧ iv = .int .i64 (j : Int)) ∨ (av = .int .i64 (k : Int) ∧ iv = .int .i64 ((k + 1 : Nat) : Int))) ∧ w = wr

set_option maxHeartbeats 4000000 in
theorem rtake_new {w : World} {b : Nat} {s : St} {lv fv : Value} (h : RefAt w b s.ref lv fv) (ho : s.Ok) (c v : Int) (u : Bool) (hc : 1 ≤ c) (hc' : c ≤ 4) (hfull : s.isFull u = false) (hn : 0 < s.left) (hfr : s.freed = []) :
    Calls Try.prog 27 #[.pointer (some ⟨b, 0, none⟩), .int .i64 c, .bool u, .int .i64 v] w (RDoes (.tuple #[.int .i64 (s.slots.length : Int), .int .i64 0]) w b ⟨s.full.set s.slots.length (c, 1, v), [], s.reserve⟩ (foot b lv fv)) := by
  have hroom := ho.room
  have hsl := ho.len
  obtain ⟨k, hk⟩ : ∃ k, s.slots.length = k := ⟨_, rfl⟩
  have hkr : k < s.room := by
    unfold St.left at hn
    rw [hfr] at hn
    simp only [List.length_nil] at hn
    omega
  have hlf := left_says h ho
  have hrowF := h.rowF
  rw [show s.ref.F = [] from hfr] at hrowF
  obtain ⟨af, cf, rfl⟩ := row_slice hrowF
  obtain ⟨al, cl, rfl⟩ := row_slice h.rowL
  have hold : ∀ (j : Nat), j < k → ∃ c t v, s.full[j]? = some (c, t, v) ∧ 0 < t := fun j hj => by
    rw [full_get (by omega)]
    have h1 := at_lt (s := s) (i := j) (by omega)
    have h2 := ho.cls j (s.at' j).1 (s.at' j).2.1 (s.at' j).2.2 h1
    exact ⟨_, _, _, rfl, h2.2.2.1⟩
  obtain ⟨t, ht⟩ : ∃ t : Int, t = 0 := ⟨_, rfl⟩
  have hx : s.full[k]? = some (0, t, 0) := by rw [full_get hkr, at_ge (by omega), ht]
  have gt0 : (t == 0) = true := by rw [beq_iff_eq]; exact ht
  have hw1 : IntKind.i64.wrap (t + 1) = t + 1 := IntWalk.i64_in _ (by omega)
  have h' : RefAt w b ⟨s.full, [], s.reserve⟩ (.slice al s.ref.L.length cl) (.slice af (([] : List Nat).length) cf) := by
    have e : s.ref = ⟨s.full, [], s.reserve⟩ := by unfold St.ref; rw [hfr]
    rw [e] at h
    exact h
  rw [show s.ref.L.length = s.room from full_len s] at h' ⊢
  rw [hk]
  have c0 := h'.c0
  have c1 := h'.c1
  have c2 := h'.c2
  have z0 := lt_of_obj h'.box
  have gz : (s.left == 0) = false := by rw [beq_eq_false_iff_ne]; omega
  have gfu : u = false → decide (s.left ≤ (s.reserve : Int)) = false := fun hu => by subst hu; simpa [St.isFull] using hfull
  have H1 := Lib.hid h'
  have Hlf := Lib.hid hlf
  have Hgfu := Lib.hid gfu
  have Hx := Lib.hid hx
  have Hold := Lib.hid hold
  simp only [List.length_nil] at c1
  dsimp only at c2
  have Ht := Lib.hid ht
  generalize s.left = lf at gz Hlf Hgfu hn
  clear h h' hlf hrowF hfull gfu hfr hx ho hold hk ht
  cases u
  all_goals
    have gl := Hgfu.out
    simp at gl
    go_enter Try.func27, Try.ntmps27
    go_wp2_with fail
    refine Hlf.out.mono ?_
    rintro e w' ⟨rfl, rfl⟩
    go_wp2_with fail
    go_loopw [11, 13] (fun av iv wr => RnRel w k av iv wr) (fun _ iv _ => s.room + 1 - (intOf iv).toNat)
    case atStart => exact ⟨.inl ⟨0, Nat.zero_le _, rfl, rfl⟩, rfl⟩
    case round =>
      obtain ⟨hr, rfl⟩ := hrel
      rcases hr with ⟨j, hj, rfl, rfl⟩ | ⟨rfl, rfl⟩
      · have i0 : (0 : Int) ≤ (j : Int) := by omega
        have i1 : (j : Int) < (s.room : Int) := by omega
        have i2 : decide ((j : Int) < (s.room : Int)) = true := by rw [decide_eq_true_eq]; omega
        have i3 : decide (j < s.room) = true := by rw [decide_eq_true_eq]; omega
        by_cases hjk : j < k
        · obtain ⟨cc, tt, vv, hxj, htt⟩ := Hold.out j hjk
          obtain ⟨g, cap, hlv, hg, hca, p0, p1, p2, hfz⟩ := H1.out.slot hxj
          rw [show (⟨s.full, [], s.reserve⟩ : Rs).L.length = s.room from full_len s] at hlv hca
          simp only [Value.slice.injEq, true_and] at hlv
          obtain ⟨rfl, rfl⟩ := hlv
          have gt : (tt == 0) = false := by rw [beq_eq_false_iff_ne]; omega
          clear hxj hfz
          go_wp2_with fail
          go_roundw
          case rel => exact ⟨.inl ⟨j + 1, by omega, rfl, by go_num⟩, by first | rfl | trivial⟩
          case measure => simp [intOf]; omega
        · obtain rfl : j = k := by omega
          obtain ⟨g, cap, hlv, hg, hca, p0, p1, p2, hfz⟩ := H1.out.slot Hx.out
          rw [show (⟨s.full, [], s.reserve⟩ : Rs).L.length = s.room from full_len s] at hlv hca
          simp only [Value.slice.injEq, true_and] at hlv
          obtain ⟨rfl, rfl⟩ := hlv
          clear hfz
          go_wp2_with fail
          go_roundw
          case rel => exact ⟨.inr ⟨by first | rfl | go_num, by go_num⟩, by first | rfl | trivial⟩
          case measure => simp [intOf]; omega
      · have gat : decide ((k : Int) < 0) = false := by rw [decide_eq_false_iff_not]; omega
        obtain ⟨g, cap, hlv, hg, hca, p0, p1, p2, hfz⟩ := H1.out.slot Hx.out
        rw [show (⟨s.full, [], s.reserve⟩ : Rs).L.length = s.room from full_len s] at hlv hca
        simp only [Value.slice.injEq, true_and] at hlv
        obtain ⟨rfl, rfl⟩ := hlv
        have f0 := hfz (k * 3)
        have f1 := hfz (k * 3 + 1)
        have f2 := hfz (k * 3 + 2)
        have i0 : (0 : Int) ≤ (k : Int) := by omega
        have i1 : (k : Int) < (s.room : Int) := by omega
        have hst := H1.out.store3 (by simp [full_len]) Hx.out c (t + 1) v
        have Hst := Lib.hid hst
        clear hfz hst
        have hsplit : (decide (((k + 1 : Nat) : Int) < (s.room : Int)) = true ∧ decide (k + 1 < s.room) = true ∧ decide ((k : Int) + 1 < (s.room : Int)) = true) ∨ (decide (((k + 1 : Nat) : Int) < (s.room : Int)) = false ∧ decide (k + 1 < s.room) = false ∧ decide ((k : Int) + 1 < (s.room : Int)) = false) := by
          by_cases hd : k + 1 < s.room
          · exact .inl ⟨by rw [decide_eq_true_eq]; omega, by rw [decide_eq_true_eq]; omega, by rw [decide_eq_true_eq]; omega⟩
          · exact .inr ⟨by rw [decide_eq_false_iff_not]; omega, by rw [decide_eq_false_iff_not]; omega, by rw [decide_eq_false_iff_not]; omega⟩
        rcases hsplit with ⟨d1, d2, d3⟩ | ⟨d1, d2, d3⟩
        all_goals
          go_wp2_with fail
          go_region
          all_goals
            go_wp2_with fail
            go_ret2
            have hfr := (((((Frm.refl (foot b (.slice (some ⟨g, 0, none⟩) s.room cl) (.slice af 0 cf)) w).setCell (a := ⟨g, k * 3, none⟩) (.inl (mem_foot.2 (.inr (.inl rfl)))) (.int .i64 c)).setCell (a := ⟨g, k * 3 + 1, none⟩) (.inl (mem_foot.2 (.inr (.inl rfl)))) (.int .i64 (t + 1))).setCell (a := ⟨g, k * 3 + 2, none⟩) (.inl (mem_foot.2 (.inr (.inl rfl)))) (.int .i64 v))).drew
            exact ⟨rfl, .slice (some ⟨g, 0, none⟩) s.room cl, .slice af 0 cf, by have h9 := Hst.out.drew; rw [show (c, (1 : Int), v) = (c, t + 1, v) by rw [Ht.out]; rfl]; exact h9, hfr, fun k hk => .inl hk⟩

set_option maxHeartbeats 1000000 in
theorem rtake_class {w : World} (b : Nat) (c v : Int) (u : Bool) (hc : c < 1 ∨ 4 < c) :
    Calls Try.prog 27 #[.pointer (some ⟨b, 0, none⟩), .int .i64 c, .bool u, .int .i64 v] w fun e w' => e = .returned (.tuple #[.int .i64 0, .int .i64 1]) ∧ w = w' := by
  by_cases h1 : c < 1
  · go_enter Try.func27, Try.ntmps27
    go_wp2_with fail
    go_ret2
    exact ⟨rfl, rfl⟩
  · have h2 : 4 < c := by omega
    clear hc
    go_enter Try.func27, Try.ntmps27
    go_wp2_with fail
    go_ret2
    exact ⟨rfl, rfl⟩
set_option maxHeartbeats 1000000 in
theorem rtake_full {w : World} {b : Nat} {s : St} {lv fv : Value} (h : RefAt w b s.ref lv fv) (ho : s.Ok) (c v : Int) (u : Bool) (hc : 1 ≤ c) (hc' : c ≤ 4) (hfull : s.isFull u = true) :
    Calls Try.prog 27 #[.pointer (some ⟨b, 0, none⟩), .int .i64 c, .bool u, .int .i64 v] w fun e w' => e = .returned (.tuple #[.int .i64 0, .int .i64 11]) ∧ w = w' := by
  have hlf := left_says h ho
  have c2 := h.c2
  have z0 := lt_of_obj h.box
  rw [show s.ref.res = s.reserve from rfl] at c2
  have Hlf := Lib.hid hlf
  cases u
  · have g1 : decide (s.left ≤ (s.reserve : Int)) = true := by simpa [St.isFull] using hfull
    generalize s.left = lf at g1 Hlf
    clear h hlf ho hfull
    cases hz : (lf == 0)
    all_goals
      go_enter Try.func27, Try.ntmps27
      go_wp2_with fail
      refine Hlf.out.mono ?_
      rintro e w' ⟨rfl, rfl⟩
      go_wp2_with fail
      go_ret2
      exact ⟨rfl, rfl⟩
  · have g1 : (s.left == 0) = true := by simpa [St.isFull] using hfull
    generalize s.left = lf at g1 Hlf
    clear h hlf ho hfull
    go_enter Try.func27, Try.ntmps27
    go_wp2_with fail
    refine Hlf.out.mono ?_
    rintro e w' ⟨rfl, rfl⟩
    go_wp2_with fail
    go_ret2
    exact ⟨rfl, rfl⟩
end Go.Proofs.Ytpfolcoijncfjaa
