/- Two sorted parts that stand beside one another are merged: one event comes from the right. -/
import Derived.Test.YtbkadfdpboghiaaDoorSortS
namespace Go.Proofs.YtbkadfdpboghiaaDoor
open Go.RowKit Go.Maps

def pr (X : List Ev) (y : Ev) (a h : Nat) : Bool := match X[h - a]? with | some x => !y.k.lt x.k | none => false
theorem pr_eq {X : List Ev} {x y : Ev} {a h : Nat} (hx : X[h - a]? = some x) : pr X y a h = !y.k.lt x.k := by unfold pr; rw [hx]
theorem pr_down {X : List Ev} {y : Ev} {a h h' : Nat} (hX : Asc X) (hh : h - a < X.length) (hle : h' ≤ h) (hp : pr X y a h = true) : pr X y a h' = true := by
  have e1 := List.getElem?_eq_getElem hh
  have e2 := List.getElem?_eq_getElem (show h' - a < X.length by omega)
  rw [pr_eq e1] at hp
  rw [pr_eq e2]
  simp only [Bool.not_eq_true'] at hp ⊢
  exact le_trans' (asc_get hX e2 e1 (by omega)) hp
theorem pr_up {X : List Ev} {y : Ev} {a h h' : Nat} (hX : Asc X) (hh : h' - a < X.length) (hle : h ≤ h') (hp : pr X y a h = false) : pr X y a h' = false := by
  cases hq : pr X y a h'
  · rfl
  · rw [pr_down hX hh hle hq] at hp; cases hp
/-- The event moves leftwards: t events stand behind it that it has passed. -/
def MlRel (B : Nat) (w0 : World) (Q : World → List Nat → Prop) (L : List (Nat × Obj)) (g n cap a r : Nat) (A : List Ev) (y : Ev) (X C : List Ev) (kv : Value) (wr : World) : Prop :=
  ∃ t k : Nat, kv = .int .i64 (k : Int) ∧ a + t = k ∧ r ≤ t ∧ t ≤ X.length ∧ Holds B w0 (sepR (evR g n cap (A ++ (X.take t ++ y :: X.drop t) ++ C)) Q) wr L

attribute [local go_sem ↓] Go.wp_at_zero Go.wp_at_succ in
set_option maxHeartbeats 2000000 in
set_option maxRecDepth 100000 in
theorem sym_last {B : Nat} {w0 w : World} {Q : World → List Nat → Prop} {L : List (Nat × Obj)} {g n cap : Nat} (hQ : Stable Q) (A : List Ev) (X : List Ev) (y : Ev) (C : List Ev) (h : Holds B w0 (sepR (evR g n cap (A ++ (X ++ [y]) ++ C)) Q) w L) {a m b : Nat} (ha : A.length = a) (hm : a + X.length = m) (hb : m + 1 = b) (hx : 1 < X.length)
    (hn : b ≤ n) (hn' : n ≤ 1000) (_hcap : n ≤ cap) (hXa : Asc X) :
    Calls Tryd.prog 58 #[.slice (some ⟨g, 0, none⟩) n cap, .int .i64 (a : Int), .int .i64 (m : Int), .int .i64 (b : Int), .func (.func 46) #[] #[]] w (SymDone B w0 Q L g n cap A X [y] C) := by
  have hQ' := sepR_stable (evR_stable g n cap (A ++ (X ++ [y]) ++ C)) hQ
  have gy : (A ++ (X ++ [y]) ++ C)[m]? = some y := by
    rw [← hm, ← ha, List.append_assoc, List.append_assoc, List.getElem?_append_right (by omega), Nat.add_sub_cancel_left, List.getElem?_append_right (by omega), Nat.sub_self]; rfl
  have gx : ∀ (h : Nat) (x : Ev), X[h]? = some x → (A ++ (X ++ [y]) ++ C)[a + h]? = some x := fun h x hx => by
    have hl := (List.getElem?_eq_some_iff.1 hx).1
    rw [← ha, List.append_assoc, List.append_assoc, List.getElem?_append_right (by omega), Nat.add_sub_cancel_left, List.getElem?_append_left hl]
    exact hx
  have hs : BsRel B w0 (sepR (evR g n cap (A ++ (X ++ [y]) ++ C)) Q) L a m (pr X y a) (.int .i64 (a : Int)) (.int .i64 (m : Int)) w :=
    ⟨a, m, rfl, rfl, Nat.le_refl _, by omega, Nat.le_refl _, fun _ _ _ => by omega, fun _ _ _ => by omega, h⟩
  obtain ⟨xl, hxl⟩ : ∃ xl, X.length = xl := ⟨_, rfl⟩
  have Hs := Lib.hid hs
  have Ha := Lib.hid ha
  have Hm := Lib.hid hm
  have Hb := Lib.hid hb
  have Gx := Lib.hid gx
  have Gy := Lib.hid gy
  have Hxl := Lib.hid hxl
  have e1 : (m : Int) - (a : Int) = (xl : Int) := by omega
  have e2 := wrap_nat (a := xl) (by omega)
  have e3 : ((xl : Int) == 1) = false := by rw [beq_eq_false_iff_ne]; omega
  have e3' : (xl == 1) = false := by rw [beq_eq_false_iff_ne]; omega
  have e4 : (b : Int) - (m : Int) = 1 := by omega
  have e5 : IntKind.i64.wrap (1 : Int) = 1 := IntWalk.i64_in _ (by omega)
  have hmb : m < b := by omega
  have ham : a < m := by omega
  clear hs h ha hm hb hx gx gy hxl
  go_enter Tryd.func58, Tryd.ntmps58
  go_wp2_with fail
  clear e1 e2 e3 e3' e4 e5
  go_loopw [14, 15] (fun iv jv wr => BsRel B w0 (sepR (evR g n cap (A ++ (X ++ [y]) ++ C)) Q) L a m (pr X y a) iv jv wr) (fun iv jv _ => (intOf jv).toNat - (intOf iv).toNat)
  case atStart => exact Hs.out
  case round =>
    obtain ⟨i, j, rfl, rfl, hmi, hij, hjb, hlo, hhi, hH⟩ := hrel
    have HH := Lib.hid hH
    have Hlo := Lib.hid hlo
    have Hhi := Lib.hid hhi
    clear hH hlo hhi Hs
    by_cases hlt : i < j
    · obtain ⟨h, hh⟩ : ∃ h, (i + j) / 2 = h := ⟨_, rfl⟩
      have h1 : ((i : Int) + (j : Int)) / 2 = (h : Int) := by omega
      have h2 : i ≤ h := by omega
      have h3 : h < j := by omega
      obtain ⟨x, hx⟩ : ∃ x, X[h - a]? = some x := ⟨_, List.getElem?_eq_getElem (by have := Hm.out; omega)⟩
      have gx := Gx.out _ _ hx
      rw [show a + (h - a) = h by omega] at gx
      obtain ⟨p0, p1, p2, p3, p4, p5, p6⟩ := HH.out.evAt Gy.out
      obtain ⟨r0, r1, r2, r3, r4, r5, r6⟩ := HH.out.evAt gx
      have hpe := pr_eq (y := y) hx
      have hc := cmp_any y x
      have hh0 : (0 : Int) ≤ (h : Int) := by omega
      have hh1 : (h : Int) < (n : Int) := by omega
      have hh2 : h < n := by omega
      have ha0 : (0 : Int) ≤ (m : Int) := by omega
      have ha1 : (m : Int) < (n : Int) := by omega
      have ha2 : m < n := by omega
      have hw := wrap_nat (a := h) (by omega)
      have hhX : h - a < X.length := (List.getElem?_eq_some_iff.1 hx).1
      have Hpe := Lib.hid hpe
      clear hh gx hx hpe
      cases hyx : y.k.lt x.k
      · have h0 : 0 ≤ y.k.cmp x.k := by
          rcases cmp_cases y.k x.k with ⟨_, hl⟩ | ⟨e, _⟩ | ⟨e, _⟩
          · rw [hl] at hyx; cases hyx
          · omega
          · omega
        generalize y.k.cmp x.k = cv at hc h0
        have hcd : decide (cv < 0) = false := decide_eq_false (by omega)
        have Hc := Lib.hid hc
        have Hyx := Lib.hid hyx
        clear hc hyx h0
        go_wp2_with fail
        go_region_held3 (fun w' => w'.cell? ⟨g, m * 7, none⟩ = some (.int .i64 y.k.at_) ∧ w'.cell? ⟨g, m * 7 + 1, none⟩ = some (.int .i64 y.k.src) ∧ w'.cell? ⟨g, m * 7 + 2, none⟩ = some (.int .i64 y.k.sent) ∧ w'.cell? ⟨g, m * 7 + 3, none⟩ = some (.int .i64 y.k.no) ∧ w'.cell? ⟨g, m * 7 + 4, none⟩ = some (.int .i64 y.dst) ∧ w'.cell? ⟨g, m * 7 + 5, none⟩ = some (.int .i64 y.kind) ∧ w'.cell? ⟨g, m * 7 + 6, none⟩ = some (.int .i64 y.data) ∧ w'.cell? ⟨g, h * 7, none⟩ = some (.int .i64 x.k.at_) ∧ w'.cell? ⟨g, h * 7 + 1, none⟩ = some (.int .i64 x.k.src) ∧ w'.cell? ⟨g, h * 7 + 2, none⟩ = some (.int .i64 x.k.sent) ∧ w'.cell? ⟨g, h * 7 + 3, none⟩ = some (.int .i64 x.k.no) ∧ w'.cell? ⟨g, h * 7 + 4, none⟩ = some (.int .i64 x.dst) ∧ w'.cell? ⟨g, h * 7 + 5, none⟩ = some (.int .i64 x.kind) ∧ w'.cell? ⟨g, h * 7 + 6, none⟩ = some (.int .i64 x.data))
          (first | go_keep | exact ⟨hf.cell p0 (by simp), hf.cell p1 (by simp), hf.cell p2 (by simp), hf.cell p3 (by simp), hf.cell p4 (by simp), hf.cell p5 (by simp), hf.cell p6 (by simp), hf.cell r0 (by simp), hf.cell r1 (by simp), hf.cell r2 (by simp), hf.cell r3 (by simp), hf.cell r4 (by simp), hf.cell r5 (by simp), hf.cell r6 (by simp)⟩)
          ((go_at_call 46; refine (Hc.out _).mono ?_; rintro e w6 ⟨rfl, hf⟩))
        have h4 := (show Holds B w0 _ w6 L from by first | exact HH.out.made hQ' hf | exact (HH.out.drew hQ').made hQ' hf)
        have HF := Lib.hid h4
        clear h4 hf
        go_wp2_with fail
        go_roundw
        case rel => exact ⟨h + 1, j, by go_num, rfl, by omega, by omega, hjb, fun h' hh' hb' => pr_down hXa hhX (by omega) (by rw [Hpe.out, Hyx.out]; rfl), Hhi.out, HF.out⟩
        case measure => simp [intOf]; omega
      · rw [cmp_lt hyx] at hc
        have Hc := Lib.hid hc
        have Hyx := Lib.hid hyx
        clear hc hyx
        go_wp2_with fail
        go_region_held3 (fun w' => w'.cell? ⟨g, m * 7, none⟩ = some (.int .i64 y.k.at_) ∧ w'.cell? ⟨g, m * 7 + 1, none⟩ = some (.int .i64 y.k.src) ∧ w'.cell? ⟨g, m * 7 + 2, none⟩ = some (.int .i64 y.k.sent) ∧ w'.cell? ⟨g, m * 7 + 3, none⟩ = some (.int .i64 y.k.no) ∧ w'.cell? ⟨g, m * 7 + 4, none⟩ = some (.int .i64 y.dst) ∧ w'.cell? ⟨g, m * 7 + 5, none⟩ = some (.int .i64 y.kind) ∧ w'.cell? ⟨g, m * 7 + 6, none⟩ = some (.int .i64 y.data) ∧ w'.cell? ⟨g, h * 7, none⟩ = some (.int .i64 x.k.at_) ∧ w'.cell? ⟨g, h * 7 + 1, none⟩ = some (.int .i64 x.k.src) ∧ w'.cell? ⟨g, h * 7 + 2, none⟩ = some (.int .i64 x.k.sent) ∧ w'.cell? ⟨g, h * 7 + 3, none⟩ = some (.int .i64 x.k.no) ∧ w'.cell? ⟨g, h * 7 + 4, none⟩ = some (.int .i64 x.dst) ∧ w'.cell? ⟨g, h * 7 + 5, none⟩ = some (.int .i64 x.kind) ∧ w'.cell? ⟨g, h * 7 + 6, none⟩ = some (.int .i64 x.data))
          (first | go_keep | exact ⟨hf.cell p0 (by simp), hf.cell p1 (by simp), hf.cell p2 (by simp), hf.cell p3 (by simp), hf.cell p4 (by simp), hf.cell p5 (by simp), hf.cell p6 (by simp), hf.cell r0 (by simp), hf.cell r1 (by simp), hf.cell r2 (by simp), hf.cell r3 (by simp), hf.cell r4 (by simp), hf.cell r5 (by simp), hf.cell r6 (by simp)⟩)
          ((go_at_call 46; refine (Hc.out _).mono ?_; rintro e w6 ⟨rfl, hf⟩))
        have h4 := (show Holds B w0 _ w6 L from by first | exact HH.out.made hQ' hf | exact (HH.out.drew hQ').made hQ' hf)
        have HF := Lib.hid h4
        clear h4 hf
        go_wp2_with fail
        go_roundw
        case rel => exact ⟨i, h, rfl, rfl, hmi, h2, by omega, Hlo.out, fun h' hh' hb' => pr_up hXa (by have := Hm.out; omega) hh' (by rw [Hpe.out, Hyx.out]; rfl), HF.out⟩
        case measure => simp [intOf]; omega
    · obtain rfl : i = j := by omega
      obtain ⟨r, hr⟩ : ∃ r, i - a = r := ⟨_, rfl⟩
      have hput := put_right (y := y) hXa (r := r) (fun h x hlt hx => by
          have h1 := Hlo.out (a + h) (by omega) (by omega)
          rw [pr_eq (x := x) (by rw [Nat.add_sub_cancel_left]; exact hx)] at h1
          simpa using h1) (fun h x hle hx => by
          have hl := (List.getElem?_eq_some_iff.1 hx).1
          have h1 := Hhi.out (a + h) (by omega) (by have := Hm.out; omega)
          rw [pr_eq (x := x) (by rw [Nat.add_sub_cancel_left]; exact hx)] at h1
          simpa using h1)
      have har : a + r = i := by omega
      have hrX : r ≤ X.length := by have := Hm.out; omega
      have hmv : MlRel B w0 Q L g n cap a r A y X C (.int .i64 (m : Int)) wr := ⟨X.length, m, rfl, Hm.out, hrX, Nat.le_refl _, by have := HH.out; simpa [List.append_assoc] using this⟩
      have Hput := Lib.hid hput
      have Hmv := Lib.hid hmv
      have Har := Lib.hid har
      clear hput hmv hr har HH
      go_wp2_with fail
      go_loopw [17] (fun kv wr => MlRel B w0 Q L g n cap a r A y X C kv wr) (fun kv _ => (intOf kv).toNat)
      case atStart => exact Hmv.out
      case round =>
        obtain ⟨t, k, rfl, htk, hrt, htX, hH⟩ := hrel
        have HK := Lib.hid hH
        have Htk := Lib.hid htk
        clear hH htk Hmv
        by_cases hlt2 : i < k
        · have htr : r < t := by have := Htk.out; have := Har.out; omega
          obtain ⟨u, rfl⟩ : ∃ u, t = u + 1 := ⟨t - 1, by omega⟩
          obtain ⟨x, hx⟩ : ∃ x, X[u]? = some x := ⟨_, List.getElem?_eq_getElem (by omega)⟩
          obtain ⟨k1, hk1⟩ : ∃ k1, k1 + 1 = k := ⟨k - 1, by omega⟩
          have hdr := drop_cons' hx
          have htk1 := take_snoc' hx
          have hX : (A ++ X.take u).length = k1 := by rw [List.length_append, List.length_take, Ha.out]; have := Htk.out; omega
          have hform : A ++ (X.take (u + 1) ++ y :: X.drop (u + 1)) ++ C = (A ++ X.take u) ++ x :: y :: (X.drop (u + 1) ++ C) := by rw [htk1]; simp [List.append_assoc]
          have s1 : (A ++ (X.take (u + 1) ++ y :: X.drop (u + 1)) ++ C)[k1]? = some x := by rw [hform, List.getElem?_append_right (by omega), hX, Nat.sub_self]; rfl
          have s2 : (A ++ (X.take (u + 1) ++ y :: X.drop (u + 1)) ++ C)[k]? = some y := by rw [hform, List.getElem?_append_right (by omega), hX, show k - k1 = 0 + 1 by omega]; rfl
          have s3 : ((A ++ (X.take (u + 1) ++ y :: X.drop (u + 1)) ++ C).set k x).set k1 y = A ++ (X.take u ++ y :: X.drop u) ++ C := by
            have h := adj_set (A ++ X.take u) (X.drop (u + 1) ++ C) y x
            rw [hX, hk1] at h
            rw [hform, h, hdr]
            simp [List.append_assoc]
          have hkb : k ≤ m := by have := Htk.out; have := Hm.out; omega
          have hkk : (k : Int) - 1 = (k1 : Int) := by omega
          have hk2 := wrap_nat (a := k1) (by omega)
          have hk3 := wrap_nat (a := k) (by omega)
          have hkn : k < n := by omega
          have hk1n : k1 < n := by omega
          have hkn' : (k : Int) < (n : Int) := by omega
          have hk1n' : (k1 : Int) < (n : Int) := by omega
          have hk0 : (0 : Int) ≤ (k : Int) := by omega
          have hk10 : (0 : Int) ≤ (k1 : Int) := by omega
          obtain ⟨p0, p1, p2, p3, p4, p5, p6⟩ := HK.out.evAt s1
          obtain ⟨r0, r1, r2, r3, r4, r5, r6⟩ := HK.out.evAt s2
          have hll : (A ++ (X.take (u + 1) ++ y :: X.drop (u + 1)) ++ C).length = n := by have := HK.out.row.1; rw [evCells_length] at this; omega
          have fz : ∀ j, wr.frozen? ⟨g, j, none⟩ = false := fun j => HK.out.row.frozenAt j
          have S3 := Lib.hid s3
          have Hll := Lib.hid hll
          have Hk1 := Lib.hid hk1
          clear s1 s2 s3 hform hX hdr htk1 hx hll hk1
          go_wp2_with fail
          go_big_region
          go_wp2_with fail
          go_roundw
          case rel =>
            have h5 := (HK.out.putEv hQ (i := k) (by rw [Hll.out]; exact hkn) x).putEv hQ (i := k1) (by rw [List.length_set, Hll.out]; exact hk1n) y
            rw [S3.out] at h5
            exact ⟨u, k1, rfl, by have := Htk.out; have := Hk1.out; omega, by omega, by omega, h5.drew (sepR_stable (evR_stable _ _ _ _) hQ)⟩
          case measure => simp [intOf]; have := Hk1.out; omega
        · obtain rfl : t = r := by have := Htk.out; have := Har.out; omega
          go_wp2_with fail
          go_end0
          exact ⟨rfl, _, Hput.out.1, Hput.out.2, by simp; omega, HK.out⟩
end Go.Proofs.YtbkadfdpboghiaaDoor
