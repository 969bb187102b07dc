/- Package vm: rest, less, reckon, value. -/
import Derived.Test.YtohdokddfjeekaaDoorVmP
namespace Go.Proofs.YtohdokddfjeekaaDoor
open Go.RowKit Go.Maps

theorem MCells.frm {S : List Nat} {w w' : World} {m : Nat} {e : Ev} {pv sv : Value} {cs : Nat → Int} {pl fan : Int} (h : MCells w m e pv cs pl sv fan) (hf : Frm S w w') (hS : m ∉ S) : MCells w' m e pv cs pl sv fan :=
  ⟨hf.cell h.at_ hS, hf.cell h.dst hS, hf.cell h.kind hS, hf.cell h.data hS, hf.cell h.prog hS, fun k hk => hf.cell (h.cell k hk) hS, hf.cell h.place hS, hf.cell h.sent hS, hf.cell h.fan hS⟩
/-- Reads alone. -/
abbrev Reads (r : Value) (w : World) (e : Ending) (w' : World) : Prop := e = .returned r ∧ w' = w

set_option maxHeartbeats 400000 in
theorem rest_any (b c : Int) (w : World) : Calls Tryd.prog 27 #[.int .i64 b, .int .i64 c] w (Reads (.int .i64 (restP b c)) w) := by
  unfold restP
  by_cases h : c = 0
  · subst h
    go_enter Tryd.func27, Tryd.ntmps27
    go_wp2
    go_ret
    exact ⟨rfl, rfl⟩
  · rw [if_neg h]
    have g : (c == 0) = false := by rw [beq_eq_false_iff_ne]; exact h
    go_enter Tryd.func27, Tryd.ntmps27
    go_wp2
    go_ret
    exact ⟨rfl, rfl⟩
set_option maxHeartbeats 400000 in
theorem less_any (b c : Int) (w : World) : Calls Tryd.prog 28 #[.int .i64 b, .int .i64 c] w (Reads (.int .i64 (lessP b c)) w) := by
  unfold lessP
  by_cases h : b < c
  · rw [if_pos h]
    have g : decide (b < c) = true := by rw [decide_eq_true_eq]; exact h
    go_enter Tryd.func28, Tryd.ntmps28
    go_wp2
    go_ret
    exact ⟨rfl, rfl⟩
  · rw [if_neg h]
    have g : decide (b < c) = false := by rw [decide_eq_false_iff_not]; exact h
    go_enter Tryd.func28, Tryd.ntmps28
    go_wp2
    go_ret
    exact ⟨rfl, rfl⟩
set_option maxHeartbeats 400000 in
theorem reckon_any (op b c : Int) (ho : 3 ≤ op ∧ op ≤ 7) (w : World) : Calls Tryd.prog 26 #[.int .i64 op, .int .i64 b, .int .i64 c] w (Reads (.int .i64 (reckonP op b c)) w) := by
  have : op = 3 ∨ op = 4 ∨ op = 5 ∨ op = 6 ∨ op = 7 := by omega
  rcases this with rfl | rfl | rfl | rfl | rfl
  · go_enter Tryd.func26, Tryd.ntmps26
    go_wp2
    go_ret
    exact ⟨rfl, rfl⟩
  · go_enter Tryd.func26, Tryd.ntmps26
    go_wp2
    go_ret
    exact ⟨rfl, rfl⟩
  · go_enter Tryd.func26, Tryd.ntmps26
    go_wp2
    go_ret
    exact ⟨rfl, rfl⟩
  · go_enter Tryd.func26, Tryd.ntmps26
    go_wp2_with fail
    refine (rest_any b c _).mono ?_
    rintro e w1 ⟨rfl, rfl⟩
    go_wp2_with fail
    go_ret
    exact ⟨rfl, rfl⟩
  · go_enter Tryd.func26, Tryd.ntmps26
    go_wp2_with fail
    refine (less_any b c _).mono ?_
    rintro e w1 ⟨rfl, rfl⟩
    go_wp2_with fail
    go_ret
    exact ⟨rfl, rfl⟩

section
variable {w : World} {m : Nat} {e : Ev} {pv sv : Value} {cs : Nat → Int} {pl fan : Int}
set_option maxHeartbeats 1000000 in
theorem value_any (hm : MCells w m e pv cs pl sv fan) (x : Ins) (many : Int) (hx : mayE x many = 0) (h8 : x.op ≠ 8 ∧ x.op ≠ 9 ∧ x.op ≠ 14 ∧ x.op ≠ 15) :
    Calls Tryd.prog 21 #[.pointer (some ⟨m, 0, none⟩), x.val] w (Tells (.int .i64 (valP e cs x)) w) := by
  have hlt : m < w.heap.size := World.block_lt_of_cell? _ _ hm.at_
  have hop := op_cases (may_inv hx).1
  have hb := may_b hx
  have hc := may_c hx
  obtain ⟨op, xa, xb, xc, xd⟩ := x
  dsimp only at hop hb hc h8
  have hcc := hm.cell
  have hat := hm.at_
  have hds := hm.dst
  have hki := hm.kind
  have hda := hm.data
  clear hm hx
  by_cases h1 : op = 1
  · subst h1
    clear hop hb hc hcc
    go_enter Tryd.func21, Tryd.ntmps21
    go_wp2
    go_ret
    exact ⟨rfl, (Frm.refl _ _).alloc _⟩
  by_cases h2 : op = 2
  · subst h2
    obtain ⟨k, hk, rfl⟩ := hb (.inl rfl)
    have c0 := hcc k hk
    clear hop hb hc hcc
    go_enter Tryd.func21, Tryd.ntmps21
    go_wp2_with fail
    go_quiet (fail)
    go_wp2_with fail
    go_ret
    exact ⟨rfl, ((Frm.refl _ _).alloc _).drewN _⟩
  by_cases h10 : op = 10
  · subst h10
    clear hop hb hc hcc
    go_enter Tryd.func21, Tryd.ntmps21
    go_wp2
    go_ret
    exact ⟨rfl, (Frm.refl _ _).alloc _⟩
  by_cases h11 : op = 11
  · subst h11
    clear hop hb hc hcc
    go_enter Tryd.func21, Tryd.ntmps21
    go_wp2
    go_ret
    exact ⟨rfl, (Frm.refl _ _).alloc _⟩
  by_cases h12 : op = 12
  · subst h12
    clear hop hb hc hcc
    go_enter Tryd.func21, Tryd.ntmps21
    go_wp2
    go_ret
    exact ⟨rfl, (Frm.refl _ _).alloc _⟩
  by_cases h13 : op = 13
  · subst h13
    clear hop hb hc hcc
    go_enter Tryd.func21, Tryd.ntmps21
    go_wp2
    go_ret
    exact ⟨rfl, (Frm.refl _ _).alloc _⟩
  have ho : 3 ≤ op ∧ op ≤ 7 := by clear hb hc hcc hat hds hki hda; omega
  obtain ⟨kb, hkb, rfl⟩ := hb (.inr (.inr ho))
  obtain ⟨kc, hkc, rfl⟩ := hc (.inr ho)
  have c1 := hcc kb hkb
  have c2 := hcc kc hkc
  have hv : valP e cs ⟨op, xa, kb, kc, xd⟩ = reckonP op (cs kb) (cs kc) := by
    unfold valP
    dsimp only
    rw [if_neg h1, if_neg h2, if_neg h10, if_neg h11, if_neg h12, if_neg h13]
    rfl
  rw [hv]
  have g1 : (op == 1) = false := by rw [beq_eq_false_iff_ne]; exact h1
  have g2 : (op == 2) = false := by rw [beq_eq_false_iff_ne]; exact h2
  have g10 : (op == 10) = false := by rw [beq_eq_false_iff_ne]; exact h10
  have g11 : (op == 11) = false := by rw [beq_eq_false_iff_ne]; exact h11
  have g12 : (op == 12) = false := by rw [beq_eq_false_iff_ne]; exact h12
  have g13 : (op == 13) = false := by rw [beq_eq_false_iff_ne]; exact h13
  have Ho := Lib.hid ho
  clear hop hb hc hcc h8 h1 h2 h10 h11 h12 h13 hv ho
  go_enter Tryd.func21, Tryd.ntmps21
  go_wp2_with fail
  go_quiet ((go_at_call 26; exact Calls.quiet_of_same (reckon_any _ _ _ Ho.out _)))
  go_wp2_with fail
  go_ret
  exact ⟨rfl, ((Frm.refl _ _).alloc _).drewN _⟩
end
end Go.Proofs.YtohdokddfjeekaaDoor
