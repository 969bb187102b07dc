/- Two parts that stand beside one another change places. -/
import Derived.Test.YtbkadfdpboghiaaDoorSortW
namespace Go.Proofs.YtbkadfdpboghiaaDoor
open Go.RowKit Go.Maps

def RotRel (B : Nat) (w0 : World) (Q : World → List Nat → Prop) (L : List (Nat × Obj)) (g n cap m b : Nat) (A C Z : List Ev) (iv jv : Value) (wr : World) : Prop :=
  ∃ (P U V S : List Ev) (i j : Nat), iv = .int .i64 (i : Int) ∧ jv = .int .i64 (j : Int) ∧ U.length = i ∧ V.length = j ∧ 0 < i ∧ 0 < j ∧ A.length + P.length + i = m ∧ m + j ≤ b ∧ P ++ V ++ U ++ S = Z ∧ Holds B w0 (sepR (evR g n cap (A ++ (P ++ U ++ V ++ S) ++ C)) Q) wr L

set_option maxHeartbeats 2000000 in
set_option maxRecDepth 100000 in
theorem rot_goes {B : Nat} {w0 w : World} {Q : World → List Nat → Prop} {L : List (Nat × Obj)} {g n cap : Nat} (hQ : Stable Q) (A X Y C : List Ev) (h : Holds B w0 (sepR (evR g n cap (A ++ (X ++ Y) ++ C)) Q) w L) {a m b : Nat} (ha : A.length = a) (hm : a + X.length = m) (hb : m + Y.length = b) (hx : 0 < X.length) (hy : 0 < Y.length)
    (hn : b ≤ n) (hn' : n ≤ 1000) (hcap : n ≤ cap) (fv : Value) :
    Calls Tryd.prog 59 #[.slice (some ⟨g, 0, none⟩) n cap, .int .i64 (a : Int), .int .i64 (m : Int), .int .i64 (b : Int), fv] w fun e w' => e = .returned (.tuple #[]) ∧ Holds B w0 (sepR (evR g n cap (A ++ (Y ++ X) ++ C)) Q) w' L := by
  obtain ⟨i0, hi0⟩ : ∃ i0, X.length = i0 := ⟨_, rfl⟩
  obtain ⟨j0, hj0⟩ : ∃ j0, Y.length = j0 := ⟨_, rfl⟩
  have hs : RotRel B w0 Q L g n cap m b A C (Y ++ X) (.int .i64 (i0 : Int)) (.int .i64 (j0 : Int)) w := ⟨[], X, Y, [], i0, j0, rfl, rfl, hi0, hj0, by omega, by omega, by simp; omega, by omega, by simp, by simpa using h⟩
  have e1 : (m : Int) - (a : Int) = (i0 : Int) := by omega
  have e2 : (b : Int) - (m : Int) = (j0 : Int) := by omega
  have e3 : IntKind.i64.wrap (i0 : Int) = (i0 : Int) := IntWalk.i64_in _ (by omega)
  have e4 : IntKind.i64.wrap (j0 : Int) = (j0 : Int) := IntWalk.i64_in _ (by omega)
  have hmn : m ≤ n := by omega
  have hmb : m ≤ b := by omega
  have Hs := Lib.hid hs
  have Ha := Lib.hid ha
  clear hs h ha hm hb hx hy hi0 hj0
  go_enter Tryd.func59, Tryd.ntmps59
  go_wp2_with fail
  clear e1 e2 e3 e4
  go_loopw [10, 11] (fun iv jv wr => RotRel B w0 Q L g n cap m b A C (Y ++ X) iv jv wr) (fun iv jv _ => (intOf iv).toNat + (intOf jv).toNat)
  case atStart => exact Hs.out
  case round =>
    obtain ⟨P, U, V, S, i, j, rfl, rfl, hU, hV, hi, hj, hp, hmj, hZ, hH⟩ := hrel
    have HH := Lib.hid hH
    have HU := Lib.hid hU
    have HV := Lib.hid hV
    have HZ := Lib.hid hZ
    have HP := Lib.hid hp
    obtain ⟨p, hpp⟩ : ∃ p, A.length + P.length = p := ⟨_, rfl⟩
    have HPP := Lib.hid hpp
    have hpi : p + i = m := by omega
    have hq1 : (m : Int) - (i : Int) = (p : Int) := by omega
    have hq2 : IntKind.i64.wrap (p : Int) = (p : Int) := IntWalk.i64_in _ (by omega)
    have HPi := Lib.hid hpi
    clear hH hU hV hZ hp hpp hpi Hs
    by_cases hij : i = j
    · subst hij
      have g1 : ((i : Int) != (i : Int)) = false := by simp
      have g2 : (i != i) = false := by simp
      go_wp2_with fail
      have h5 : Holds B w0 (sepR (evR g n cap ((A ++ P) ++ U ++ [] ++ V ++ (S ++ C))) Q) wr L := by have := HH.out; simpa [List.append_assoc] using this
      refine (swap_goes hQ (A ++ P) U [] V (S ++ C) h5 (a := p) (b := m) (c := i) (by rw [List.length_append]; exact HPP.out) (by have := HPi.out; have := HU.out; simp; omega) HU.out HV.out (by omega) hn' hcap _).mono ?_
      rintro e w1 ⟨rfl, h6⟩
      have H6 := Lib.hid h6
      clear h6 h5
      go_wp2_with fail
      go_end0
      refine ⟨rfl, ?_⟩
      have h7 := H6.out
      have h8 := HZ.out
      rw [← h8]
      simpa [List.append_assoc] using h7
    · by_cases hlt : j < i
      · obtain ⟨d, hd⟩ : ∃ d, i - j = d := ⟨_, rfl⟩
        have g1 : ((i : Int) != (j : Int)) = true := by rw [bne_iff_ne]; omega
        have g2 : (i != j) = true := by rw [bne_iff_ne]; omega
        have g3 : decide ((j : Int) < (i : Int)) = true := decide_eq_true (by omega)
        have g4 : (i : Int) - (j : Int) = (d : Int) := by omega
        have g5 : IntKind.i64.wrap (d : Int) = (d : Int) := IntWalk.i64_in _ (by omega)
        have hd0 : 0 < d := by omega
        have hdi : d + j = i := by omega
        have Hdi := Lib.hid hdi
        clear hd hij hdi
        go_wp2_with fail
        have h5 : Holds B w0 (sepR (evR g n cap ((A ++ P) ++ U.take j ++ U.drop j ++ V ++ (S ++ C))) Q) wr L := by
          have h4 := HH.out
          rw [← List.take_append_drop j U] at h4
          simpa [List.append_assoc] using h4
        refine (swap_goes hQ (A ++ P) (U.take j) (U.drop j) V (S ++ C) h5 (a := p) (b := m) (c := j) (by rw [List.length_append]; exact HPP.out) (by have := HPi.out; have := HU.out; have := Hdi.out; rw [List.length_take, List.length_drop]; omega) (by have := HU.out; have := Hdi.out; rw [List.length_take]; omega) HV.out (by omega) hn' hcap _).mono ?_
        rintro e w1 ⟨rfl, h6⟩
        have H6 := Lib.hid h6
        clear h6 h5
        go_wp2_with fail
        go_roundw
        case rel =>
          refine ⟨P ++ V, U.drop j, U.take j, S, d, j, rfl, rfl, ?_, ?_, hd0, hj, ?_, hmj, ?_, ?_⟩
          · have := HU.out; have := Hdi.out; rw [List.length_drop]; omega
          · have := HU.out; have := Hdi.out; rw [List.length_take]; omega
          · have := HPP.out; have := HPi.out; have := Hdi.out; have := HV.out; rw [List.length_append]; omega
          · rw [← HZ.out]
            conv => rhs; rw [← List.take_append_drop j U]
            simp [List.append_assoc]
          · have h7 := H6.out
            simpa [List.append_assoc] using h7
        case measure => simp [intOf]; have := Hdi.out; omega
      · obtain ⟨d, hd⟩ : ∃ d, j - i = d := ⟨_, rfl⟩
        have g1 : ((i : Int) != (j : Int)) = true := by rw [bne_iff_ne]; omega
        have g2 : (i != j) = true := by rw [bne_iff_ne]; omega
        have g3 : decide ((j : Int) < (i : Int)) = false := decide_eq_false (by omega)
        have g4 : (j : Int) - (i : Int) = (d : Int) := by omega
        have g5 : IntKind.i64.wrap (d : Int) = (d : Int) := IntWalk.i64_in _ (by omega)
        obtain ⟨s, hs⟩ : ∃ s, m + d = s := ⟨_, rfl⟩
        have g6 : (m : Int) + (j : Int) - (i : Int) = (s : Int) := by omega
        have g7 : IntKind.i64.wrap (s : Int) = (s : Int) := IntWalk.i64_in _ (by omega)
        have hd0 : 0 < d := by omega
        have hdi : d + i = j := by omega
        have Hdi := Lib.hid hdi
        have Hms := Lib.hid hs
        clear hd hij hdi hs
        go_wp2_with fail
        have h5 : Holds B w0 (sepR (evR g n cap ((A ++ P) ++ U ++ V.take d ++ V.drop d ++ (S ++ C))) Q) wr L := by
          have h4 := HH.out
          rw [← List.take_append_drop d V] at h4
          simpa [List.append_assoc] using h4
        refine (swap_goes hQ (A ++ P) U (V.take d) (V.drop d) (S ++ C) h5 (a := p) (b := s) (c := i) (by rw [List.length_append]; exact HPP.out) (by have := HPi.out; have := HU.out; have := HV.out; have := Hdi.out; have := Hms.out; rw [List.length_take]; omega) HU.out (by have := HV.out; have := Hdi.out; rw [List.length_drop]; omega) (by have := Hdi.out; have := Hms.out; omega) hn' hcap _).mono ?_
        rintro e w1 ⟨rfl, h6⟩
        have H6 := Lib.hid h6
        clear h6 h5
        go_wp2_with fail
        go_roundw
        case rel =>
          refine ⟨P, V.drop d, V.take d, U ++ S, i, d, rfl, rfl, ?_, ?_, hi, hd0, ?_, ?_, ?_, ?_⟩
          · have := HV.out; have := Hdi.out; rw [List.length_drop]; omega
          · have := HV.out; have := Hdi.out; rw [List.length_take]; omega
          · exact HP.out
          · have := Hdi.out; omega
          · rw [← HZ.out]
            conv => rhs; rw [← List.take_append_drop d V]
            simp [List.append_assoc]
          · have h7 := H6.out
            simpa [List.append_assoc] using h7
        case measure => simp [intOf]; have := Hdi.out; omega
end Go.Proofs.YtbkadfdpboghiaaDoor
