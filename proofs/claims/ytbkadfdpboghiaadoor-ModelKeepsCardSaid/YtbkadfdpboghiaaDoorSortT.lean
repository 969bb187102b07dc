/- Events are sorted: a copy of them, in order, those of one key as they stood. -/
import Derived.Test.YtbkadfdpboghiaaDoorSortG
namespace Go.Proofs.YtbkadfdpboghiaaDoor
open Go.RowKit Go.Maps

theorem sym_goes : ∀ N, SymAt N := by
  intro N
  induction N with
  | zero =>
    intro B w0 w Q L g n cap hQ A X Y C hN h a m b ha hm hb hx hy
    omega
  | succ N ih =>
    have IH := @Lib.hid (SymAt N) @ih
    intro B w0 w Q L g n cap hQ A X Y C hN h a m b ha hm hb hx hy hn hn' hcap hXa hYa
    by_cases h1 : X.length = 1
    · match X, h1 with
      | [x], _ => exact sym_one hQ A x Y C h ha (by simpa using hm) hb hy hn hn' hcap hYa
    · by_cases h2 : Y.length = 1
      · match Y, h2 with
        | [y], _ => exact sym_last hQ A X y C h ha hm (by simpa using hb) (by omega) hn hn' hcap hXa
      · exact sym_step N @IH hQ A X Y C hN h ha hm hb (by omega) (by omega) hn hn' hcap hXa hYa

/-- Blocks of so many, each of them sorted. -/
inductive Full (s : Nat) : List Ev → Prop where
  | nil : Full s []
  | cons (X D : List Ev) : X.length = s → Asc X → Full s D → Full s (X ++ D)
theorem Full.snoc {s : Nat} {D X : List Ev} (h : Full s D) (hX : X.length = s) (ha : Asc X) : Full s (D ++ X) := by
  induction h with
  | nil => have := Full.cons X [] hX ha .nil; simpa using this
  | cons Y D hY hYa _ ih => rw [List.append_assoc]; exact .cons Y _ hY hYa ih
theorem Full.split {s : Nat} {D : List Ev} (h : Full s D) (_ : 0 < s) (hD : 0 < D.length) : ∃ X D1, D = X ++ D1 ∧ X.length = s ∧ Asc X ∧ Full s D1 := by
  cases h with
  | nil => simp at hD
  | cons X D h1 h2 h3 => exact ⟨X, D, rfl, h1, h2, h3⟩
theorem Full.one {s : Nat} {D : List Ev} (h : Full s D) (_ : 0 < s) (hD : D.length < 2 * s) : D = [] ∨ (D.length = s ∧ Asc D) := by
  cases h with
  | nil => exact .inl rfl
  | cons X D h1 h2 h3 =>
    cases h3 with
    | nil => rw [List.append_nil]; exact .inr ⟨h1, h2⟩
    | cons Y D h4 h5 h6 => simp at hD; omega

def StA (B : Nat) (w0 : World) (Q : World → List Nat → Prop) (L : List (Nat × Obj)) (g n cap : Nat) (l : List Ev) (av bv : Value) (wr : World) : Prop :=
  ∃ (D R : List Ev) (a b : Nat), av = .int .i64 (a : Int) ∧ bv = .int .i64 (b : Int) ∧ a + 20 = b ∧ D.length = a ∧ D.length + R.length = n ∧ Full 20 D ∧ Alike l (D ++ R) ∧ Holds B w0 (sepR (evR g n cap (D ++ R)) Q) wr L
def StB (B : Nat) (w0 : World) (Q : World → List Nat → Prop) (L : List (Nat × Obj)) (g n cap : Nat) (l : List Ev) (sv : Value) (wr : World) : Prop :=
  ∃ (s : Nat) (D T : List Ev), sv = .int .i64 (s : Int) ∧ 20 ≤ s ∧ s ≤ 2 * n + 20 ∧ T.length < s ∧ D.length + T.length = n ∧ Full s D ∧ Asc T ∧ Alike l (D ++ T) ∧ Holds B w0 (sepR (evR g n cap (D ++ T)) Q) wr L
def StC (B : Nat) (w0 : World) (Q : World → List Nat → Prop) (L : List (Nat × Obj)) (g n cap s : Nat) (T l : List Ev) (av bv : Value) (wr : World) : Prop :=
  ∃ (E D : List Ev) (a b : Nat), av = .int .i64 (a : Int) ∧ bv = .int .i64 (b : Int) ∧ a + 2 * s = b ∧ E.length = a ∧ E.length + D.length + T.length = n ∧ Full (2 * s) E ∧ Full s D ∧ Alike l (E ++ D ++ T) ∧ Holds B w0 (sepR (evR g n cap (E ++ D ++ T)) Q) wr L

set_option maxHeartbeats 2000000 in
set_option maxRecDepth 100000 in
theorem stable_goes {B : Nat} {w0 w : World} {Q : World → List Nat → Prop} {L : List (Nat × Obj)} {g n cap : Nat} (hQ : Stable Q) (l : List Ev) (h : Holds B w0 (sepR (evR g n cap l) Q) w L) (hl : l.length = n) (hn' : n ≤ 400) (hcap : n ≤ cap) :
    Calls Tryd.prog 52 #[.slice (some ⟨g, 0, none⟩) n cap, .int .i64 (n : Int), .func (.func 46) #[] #[]] w fun e w' => e = .returned (.tuple #[]) ∧ ∃ r, Asc r ∧ Alike l r ∧ r.length = n ∧ Holds B w0 (sepR (evR g n cap r) Q) w' L := by
  have hs : StA B w0 Q L g n cap l (.int .i64 0) (.int .i64 20) w := ⟨[], l, 0, 20, rfl, rfl, rfl, rfl, by simpa using hl, .nil, by simpa using Alike.refl l, by simpa using h⟩
  have Hs := Lib.hid hs
  clear hs h hl
  go_enter Tryd.func52, Tryd.ntmps52
  go_wp2_with fail
  go_loopw [7, 8] (fun av bv wr => StA B w0 Q L g n cap l av bv wr) (fun av _ _ => n + 20 - (intOf av).toNat)
  case atStart => exact Hs.out
  case round =>
    obtain ⟨D, R, a, b, rfl, rfl, hab, hDa, hDR, hF, hAl, hH⟩ := hrel
    have HH := Lib.hid hH
    have HF := Lib.hid hF
    have HAl := Lib.hid hAl
    have Hab := Lib.hid hab
    have HDa := Lib.hid hDa
    have HDR := Lib.hid hDR
    have hba : a < b := by omega
    have han : a ≤ n := by omega
    clear hH hF hAl Hs hab hDa hDR
    by_cases hlt : b ≤ n
    · have hb20 : (b : Int) + 20 = ((b + 20 : Nat) : Int) := by omega
      have hRt := List.take_append_drop 20 R
      have h5 : Holds B w0 (sepR (evR g n cap (D ++ R.take 20 ++ R.drop 20)) Q) wr L := by rw [List.append_assoc, hRt]; exact HH.out
      have hR20 : (R.take 20).length = 20 := by rw [List.length_take]; have := HDR.out; have := HDa.out; have := Hab.out; omega
      have HRt := Lib.hid hRt
      have HR20 := Lib.hid hR20
      have H5 := Lib.hid h5
      clear h5 hRt hR20 hb20
      go_wp2_with fail
      refine (ins_goes hQ D (R.take 20) (R.drop 20) H5.out HDa.out (by rw [HR20.out]; exact Hab.out) (by rw [List.append_assoc, HRt.out, List.length_append]; exact HDR.out) (by omega) hcap).mono ?_
      rintro e w1 ⟨rfl, M, m1, m2, m3, h6⟩
      have M1 := Lib.hid m1
      have M2 := Lib.hid m2
      have M3 := Lib.hid m3
      have H6 := Lib.hid h6
      clear m1 m2 m3 h6
      go_wp2_with fail
      go_roundw
      case rel =>
        refine ⟨D ++ M, R.drop 20, b, b + 20, rfl, by go_num, rfl, ?_, ?_, HF.out.snoc (by rw [M3.out, HR20.out]) M1.out, ?_, H6.out⟩
        · rw [List.length_append, M3.out, HR20.out, HDa.out]; exact Hab.out
        · rw [List.length_append, M3.out, HR20.out, List.length_drop]; have := HDR.out; have := HDa.out; have := Hab.out; omega
        · refine HAl.out.trans ?_
          have h7 := ((Alike.refl D).append M2.out).append (Alike.refl (R.drop 20))
          rw [List.append_assoc, HRt.out] at h7
          exact h7
      case measure => simp [intOf]; omega
    · have h5 : Holds B w0 (sepR (evR g n cap (D ++ R ++ [])) Q) wr L := by rw [List.append_nil]; exact HH.out
      have H5 := Lib.hid h5
      clear h5 HH
      go_wp2_with fail
      refine (ins_goes hQ D R [] H5.out HDa.out (by have := HDR.out; have := HDa.out; omega) (by rw [List.append_nil, List.length_append]; exact HDR.out) (by omega) hcap).mono ?_
      rintro e w1 ⟨rfl, T, m1, m2, m3, h6⟩
      rw [List.append_nil] at h6
      have hstart : StB B w0 Q L g n cap l (.int .i64 20) w1 := ⟨20, D, T, rfl, by omega, by omega, by have := HDR.out; have := HDa.out; have := Hab.out; omega, by rw [m3]; exact HDR.out, HF.out, m1, HAl.out.trans ((Alike.refl D).append m2), h6⟩
      have Hst := Lib.hid hstart
      clear hstart m1 m2 m3 h6 H5 HF HAl HDR HDa Hab
      go_wp2_with fail
      go_loopw [6] (fun sv wr => StB B w0 Q L g n cap l sv wr) (fun sv _ => 3 * n + 60 - (intOf sv).toNat)
      case atStart => exact Hst.out
      case round =>
        obtain ⟨s, D, T, rfl, hs20, hs2n, hTs, hDT, hF, hTa, hAl, hH⟩ := hrel
        have HH := Lib.hid hH
        have HF := Lib.hid hF
        have HAl := Lib.hid hAl
        have HTa := Lib.hid hTa
        have HDT := Lib.hid hDT
        clear hH hF hAl hTa hDT Hst
        by_cases hlt2 : s < n
        · obtain ⟨s2, hs2⟩ : ∃ s2, 2 * s = s2 := ⟨_, rfl⟩
          have e1 : (2 : Int) * (s : Int) = (s2 : Int) := by omega
          have e1' : (s : Int) * 2 = (s2 : Int) := by omega
          have e2 := wrap_nat (a := s2) (by omega)
          have hstart : StC B w0 Q L g n cap s T l (.int .i64 0) (.int .i64 (s2 : Int)) wr := ⟨[], D, 0, s2, rfl, rfl, by omega, rfl, by simpa using HDT.out, .nil, HF.out, by simpa using HAl.out, by simpa using HH.out⟩
          have Hst := Lib.hid hstart
          have Hs2 := Lib.hid hs2
          clear hstart HF HAl HH HDT hs2
          go_wp2_with fail
          go_loopw [7, 8] (fun av bv wr => StC B w0 Q L g n cap s T l av bv wr) (fun av _ _ => n + 2 * s - (intOf av).toNat)
          case atStart => exact Hst.out
          case round =>
            obtain ⟨E, D, a, b, rfl, rfl, hab, hEa, hEDT, hFE, hFD, hAl, hH⟩ := hrel
            have HI := Lib.hid hH
            have HFE := Lib.hid hFE
            have HFD := Lib.hid hFD
            have HAl := Lib.hid hAl
            have Hab := Lib.hid hab
            have HEa := Lib.hid hEa
            have HEDT := Lib.hid hEDT
            have hab' : a + s ≤ b := by omega
            have han : a ≤ n := by omega
            have hbs2 : b ≤ n + s2 := by have := Hs2.out; omega
            clear hH hFE hFD hAl hab hEa hEDT Hst
            obtain ⟨ms, hms⟩ : ∃ ms, a + s = ms := ⟨_, rfl⟩
            have e3 : (a : Int) + (s : Int) = (ms : Int) := by omega
            have e4 := wrap_nat (a := ms) (by omega)
            by_cases hlt3 : b ≤ n
            · obtain ⟨X, D1, hX, hXl, hXa, hF1⟩ := HFD.out.split (by omega) (by have := HEDT.out; have := Hab.out; have := HEa.out; omega)
              subst hX
              obtain ⟨Y, D2, hY, hYl, hYa, hF2⟩ := hF1.split (by omega) (by have h1 := HEDT.out; have := Hab.out; have := HEa.out; simp only [List.length_append] at h1; omega)
              subst hY
              have h5 : Holds B w0 (sepR (evR g n cap (E ++ (X ++ Y) ++ (D2 ++ T))) Q) wr L := by have := HI.out; simpa only [List.append_assoc] using this
              have H5 := Lib.hid h5
              have HXa := Lib.hid hXa
              have HYa := Lib.hid hYa
              have HF2 := Lib.hid hF2
              have HXl := Lib.hid hXl
              have HYl := Lib.hid hYl
              have Hms := Lib.hid hms
              obtain ⟨b2, hb2⟩ : ∃ b2, b + s2 = b2 := ⟨_, rfl⟩
              have e5 : (b : Int) + (s2 : Int) = (b2 : Int) := by omega
              have e6 := wrap_nat (a := b2) (by omega)
              have Hb2 := Lib.hid hb2
              clear h5 hXa hYa hF2 hXl hYl hF1 HI HFD hms hb2
              go_wp2_with fail
              refine (sym_goes _ hQ E X Y (D2 ++ T) (Nat.le_refl _) H5.out HEa.out (by rw [HXl.out]; exact Hms.out) (by rw [HYl.out]; have := Hms.out; have := Hab.out; omega) (by rw [HXl.out]; omega) (by rw [HYl.out]; omega) hlt3 (by omega) hcap HXa.out HYa.out).mono ?_
              rintro e w2 ⟨rfl, M, m1, m2, m3, h6⟩
              have M1 := Lib.hid m1
              have M2 := Lib.hid m2
              have M3 := Lib.hid m3
              have H6 := Lib.hid h6
              clear m1 m2 m3 h6
              go_wp2_with fail
              go_roundw
              case rel =>
                refine ⟨E ++ M, D2, b, b2, rfl, rfl, by have := Hb2.out; have := Hs2.out; omega, ?_, ?_, HFE.out.snoc (by rw [M3.out, HXl.out, HYl.out]; omega) M1.out, HF2.out, ?_, ?_⟩
                · rw [List.length_append, M3.out, HXl.out, HYl.out, HEa.out]; have := Hab.out; omega
                · have := HEDT.out; rw [List.length_append, M3.out]; simp only [List.length_append] at this; omega
                · refine HAl.out.trans ?_
                  have h7 := ((Alike.refl E).append M2.out).append (Alike.refl (D2 ++ T))
                  simpa only [List.append_assoc] using h7
                · have := H6.out; simpa only [List.append_assoc] using this
              case measure => simp [intOf]; have := Hab.out; omega
            · have hD2 : D.length < 2 * s := by have := HEDT.out; have := HEa.out; have := Hab.out; omega
              have hone := HFD.out.one (by omega) hD2
              have Hone := Lib.hid hone
              clear hone HFD
              by_cases hm : ms < n
              · have hDs : D.length = s ∧ Asc D := by
                  rcases Hone.out with h | h
                  · exfalso; subst h; have h1 := HEDT.out; have h2 := HEa.out; simp only [List.length_nil] at h1; omega
                  · exact h
                have hT0 : 0 < T.length := by have := HEDT.out; have := HEa.out; omega
                have h5 : Holds B w0 (sepR (evR g n cap (E ++ (D ++ T) ++ [])) Q) wr L := by have := HI.out; simpa only [List.append_assoc, List.append_nil] using this
                have H5 := Lib.hid h5
                have HDs := Lib.hid hDs
                have Hms := Lib.hid hms
                clear h5 HI Hone hDs hms
                go_wp2_with fail
                refine (sym_goes _ hQ E D T [] (Nat.le_refl _) H5.out HEa.out (by rw [HDs.out.1]; exact Hms.out) (by have := HEDT.out; have := HEa.out; have := Hms.out; have := HDs.out.1; omega) (by rw [HDs.out.1]; omega) hT0 (Nat.le_refl _) (by omega) hcap HDs.out.2 HTa.out).mono ?_
                rintro e w2 ⟨rfl, M, m1, m2, m3, h6⟩
                have M1 := Lib.hid m1
                have M2 := Lib.hid m2
                have M3 := Lib.hid m3
                have H6 := Lib.hid h6
                clear m1 m2 m3 h6
                go_wp2_with fail
                go_roundw
                case rel =>
                  refine ⟨s2, E, M, rfl, by omega, by have := Hs2.out; omega, by rw [M3.out, HDs.out.1]; have := Hs2.out; omega, by have := HEDT.out; rw [M3.out]; omega, by have := HFE.out; rw [Hs2.out] at this; exact this, M1.out, ?_, ?_⟩
                  · refine HAl.out.trans ?_
                    have h7 := (Alike.refl E).append M2.out
                    simpa only [List.append_assoc] using h7
                  · have := H6.out; simpa only [List.append_nil] using this
                case measure => simp [intOf]; have := Hs2.out; omega
              · have Hms := Lib.hid hms
                clear hms
                go_wp2_with fail
                go_roundw
                case rel =>
                  have hDT : Asc (D ++ T) := by
                    rcases Hone.out with h | h
                    · subst h; exact HTa.out
                    · have hT : T = [] := List.eq_nil_of_length_eq_zero (by have := HEDT.out; have := HEa.out; have := Hms.out; omega)
                      rw [hT, List.append_nil]; exact h.2
                  refine ⟨s2, E, D ++ T, rfl, by omega, by have := Hs2.out; omega, ?_, by have := HEDT.out; rw [List.length_append]; omega, by have := HFE.out; rw [Hs2.out] at this; exact this, hDT, by rw [← List.append_assoc]; exact HAl.out, by rw [← List.append_assoc]; exact HI.out⟩
                  rw [List.length_append]
                  have := Hs2.out; have := HEDT.out; have := HEa.out; have := Hab.out; omega
                case measure => simp [intOf]; have := Hs2.out; omega
        · have hone := HF.out.one (by omega) (by have := HDT.out; omega)
          have hDT2 : Asc (D ++ T) := by
            rcases hone with h | h
            · subst h; exact HTa.out
            · have hT : T = [] := List.eq_nil_of_length_eq_zero (by have := HDT.out; omega)
              rw [hT, List.append_nil]; exact h.2
          have Hr := Lib.hid hDT2
          clear hone hDT2
          go_wp2_with fail
          go_end0
          exact ⟨rfl, D ++ T, Hr.out, HAl.out, by rw [List.length_append]; exact HDT.out, HH.out⟩
end Go.Proofs.YtbkadfdpboghiaaDoor
