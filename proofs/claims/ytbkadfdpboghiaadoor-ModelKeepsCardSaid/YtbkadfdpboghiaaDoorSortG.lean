/- Two sorted parts that stand beside one another are merged. -/
import Derived.Test.YtbkadfdpboghiaaDoorSortL
namespace Go.Proofs.YtbkadfdpboghiaaDoor
open Go.RowKit Go.Maps

theorem sym_pure {X1 X2 Y1 Y2 M1 M2 : List Ev} (hX : Asc (X1 ++ X2)) (hY : Asc (Y1 ++ Y2)) (h1 : ∀ y ∈ Y1, ∀ x ∈ X2, y.k.lt x.k = true) (h2 : ∀ x ∈ X1, ∀ y ∈ Y2, y.k.lt x.k = false)
    (a1 : Asc M1) (a2 : Asc M2) (k1 : Alike (X1 ++ Y1) M1) (k2 : Alike (X2 ++ Y2) M2) : Asc (M1 ++ M2) ∧ Alike ((X1 ++ X2) ++ (Y1 ++ Y2)) (M1 ++ M2) := by
  have hX' := asc_append.1 hX
  have hY' := asc_append.1 hY
  refine ⟨asc_append.2 ⟨a1, a2, fun a ha b hb => ?_⟩, ?_⟩
  · rcases List.mem_append.1 (k1.mem.2 ha) with ha | ha <;> rcases List.mem_append.1 (k2.mem.2 hb) with hb | hb
    · exact hX'.2.2 a ha b hb
    · exact h2 a ha b hb
    · exact lt_asymm (h1 a ha b hb)
    · exact hY'.2.2 a ha b hb
  · have h3 : Alike (X2 ++ Y1) (Y1 ++ X2) := Alike.swap fun a ha b hb => lt_asc_ne (h1 b hb a ha)
    have h4 := (((Alike.refl X1).append h3).append (Alike.refl Y2))
    have h5 := k1.append k2
    have e1 : (X1 ++ X2) ++ (Y1 ++ Y2) = X1 ++ (X2 ++ Y1) ++ Y2 := by simp [List.append_assoc]
    have e2 : X1 ++ (Y1 ++ X2) ++ Y2 = X1 ++ Y1 ++ (X2 ++ Y2) := by simp [List.append_assoc]
    rw [e1]
    rw [e2] at h4
    exact h4.trans h5
theorem bound_lt {X Y : List Ev} (hX : Asc X) (hY : Asc Y) {s e : Nat} (h : ∀ x y, X[s]? = some x → 0 < e → Y[e - 1]? = some y → y.k.lt x.k = true) (he : e ≤ Y.length) : ∀ y ∈ Y.take e, ∀ x ∈ X.drop s, y.k.lt x.k = true := by
  intro y hy x hx
  obtain ⟨i, hi⟩ := List.mem_iff_getElem?.1 hy
  obtain ⟨j, hj⟩ := List.mem_iff_getElem?.1 hx
  rw [List.getElem?_take] at hi
  split at hi
  · rename_i hie
    rw [List.getElem?_drop] at hj
    have hjl := (List.getElem?_eq_some_iff.1 hj).1
    have e1 := List.getElem?_eq_getElem (show s < X.length by omega)
    have e2 := List.getElem?_eq_getElem (show e - 1 < Y.length by omega)
    have h3 := h _ _ e1 (by omega) e2
    exact le_lt_trans (asc_get hY hi e2 (by omega)) (lt_le_trans h3 (asc_get hX e1 hj (by omega)))
  · cases hi
theorem bound_le {X Y : List Ev} (hX : Asc X) (hY : Asc Y) {s e : Nat} (h : ∀ x y, 0 < s → X[s - 1]? = some x → Y[e]? = some y → y.k.lt x.k = false) (hs : s ≤ X.length) : ∀ x ∈ X.take s, ∀ y ∈ Y.drop e, y.k.lt x.k = false := by
  intro x hx y hy
  obtain ⟨i, hi⟩ := List.mem_iff_getElem?.1 hx
  obtain ⟨j, hj⟩ := List.mem_iff_getElem?.1 hy
  rw [List.getElem?_take] at hi
  split at hi
  · rename_i hie
    rw [List.getElem?_drop] at hj
    have hjl := (List.getElem?_eq_some_iff.1 hj).1
    have e1 := List.getElem?_eq_getElem (show s - 1 < X.length by omega)
    have e2 := List.getElem?_eq_getElem (show e < Y.length by omega)
    have h3 := h _ _ (by omega) e1 e2
    exact le_trans' (asc_get hX hi e1 (by omega)) (le_trans' h3 (asc_get hY e2 hj (by omega)))
  · cases hi
/-- The search's question: is what stands at c no greater than what stands across? -/
def pm (X Y : List Ev) (a m p c : Nat) : Bool := match X[c - a]?, Y[p - c - m]? with | some x, some y => !y.k.lt x.k | _, _ => false
theorem pm_eq {X Y : List Ev} {a m p c : Nat} {x y : Ev} (hx : X[c - a]? = some x) (hy : Y[p - c - m]? = some y) : pm X Y a m p c = !y.k.lt x.k := by unfold pm; rw [hx, hy]
theorem pm_down {X Y : List Ev} {a m p c c' : Nat} (hX : Asc X) (hY : Asc Y) (h1 : c - a < X.length) (h2 : p - c' - m < Y.length) (hle : c' ≤ c) (hp : pm X Y a m p c = true) : pm X Y a m p c' = true := by
  have e1 := List.getElem?_eq_getElem h1
  have e2 := List.getElem?_eq_getElem (show c' - a < X.length by omega)
  have e3 := List.getElem?_eq_getElem (show p - c - m < Y.length by omega)
  have e4 := List.getElem?_eq_getElem h2
  rw [pm_eq e1 e3] at hp
  rw [pm_eq e2 e4]
  simp only [Bool.not_eq_true'] at hp ⊢
  exact le_trans' (asc_get hX e2 e1 (by omega)) (le_trans' hp (asc_get hY e3 e4 (by omega)))
theorem pm_up {X Y : List Ev} {a m p c c' : Nat} (hX : Asc X) (hY : Asc Y) (h1 : c' - a < X.length) (h2 : p - c - m < Y.length) (hle : c ≤ c') (hp : pm X Y a m p c = false) : pm X Y a m p c' = false := by
  cases hq : pm X Y a m p c'
  · rfl
  · rw [pm_down hX hY h1 h2 hle hq] at hp; cases hp
def SymAt (N : Nat) : Prop := ∀ {B : Nat} {w0 w : World} {Q : World → List Nat → Prop} {L : List (Nat × Obj)} {g n cap : Nat}, Stable Q → ∀ (A X Y C : List Ev), X.length + Y.length ≤ N → Holds B w0 (sepR (evR g n cap (A ++ (X ++ Y) ++ C)) Q) w L → ∀ {a m b : Nat}, A.length = a → a + X.length = m → m + Y.length = b → 0 < X.length → 0 < Y.length →
    b ≤ n → n ≤ 1000 → n ≤ cap → Asc X → Asc Y → Calls Tryd.prog 58 #[.slice (some ⟨g, 0, none⟩) n cap, .int .i64 (a : Int), .int .i64 (m : Int), .int .i64 (b : Int), .func (.func 46) #[] #[]] w (SymDone B w0 Q L g n cap A X Y C)

attribute [local go_sem ↓] Go.wp_at_zero Go.wp_at_succ in
set_option maxHeartbeats 4000000 in
set_option maxRecDepth 100000 in
theorem sym_step (N : Nat) (IH : Hid (SymAt N)) {B : Nat} {w0 w : World} {Q : World → List Nat → Prop} {L : List (Nat × Obj)} {g n cap : Nat} (hQ : Stable Q) (A X Y C : List Ev) (hN : X.length + Y.length ≤ N + 1) (h : Holds B w0 (sepR (evR g n cap (A ++ (X ++ Y) ++ C)) Q) w L) {a m b : Nat} (ha : A.length = a) (hm : a + X.length = m) (hb : m + Y.length = b) (hx : 1 < X.length) (hy : 1 < Y.length)
    (hn : b ≤ n) (hn' : n ≤ 1000) (hcap : n ≤ cap) (hXa : Asc X) (hYa : Asc Y) :
    Calls Tryd.prog 58 #[.slice (some ⟨g, 0, none⟩) n cap, .int .i64 (a : Int), .int .i64 (m : Int), .int .i64 (b : Int), .func (.func 46) #[] #[]] w (SymDone B w0 Q L g n cap A X Y C) := by
  have hQ' := sepR_stable (evR_stable g n cap (A ++ (X ++ Y) ++ C)) hQ
  have gx : ∀ (h : Nat) (x : Ev), X[h]? = some x → (A ++ (X ++ Y) ++ C)[a + h]? = some x := fun h x hx => by
    have hl := (List.getElem?_eq_some_iff.1 hx).1
    rw [← ha, List.append_assoc, List.append_assoc, List.getElem?_append_right (by omega), Nat.add_sub_cancel_left, List.getElem?_append_left hl]
    exact hx
  have gy : ∀ (h : Nat) (y : Ev), Y[h]? = some y → (A ++ (X ++ Y) ++ C)[m + h]? = some y := fun h y hy => by
    have hl := (List.getElem?_eq_some_iff.1 hy).1
    rw [← hm, ← ha, List.append_assoc, List.append_assoc, List.getElem?_append_right (by omega), show A.length + X.length + h - A.length = X.length + h by omega, List.getElem?_append_right (by omega), Nat.add_sub_cancel_left, List.getElem?_append_left hl]
    exact hy
  obtain ⟨xl, hxl⟩ : ∃ xl, X.length = xl := ⟨_, rfl⟩
  obtain ⟨yl, hyl⟩ : ∃ yl, Y.length = yl := ⟨_, rfl⟩
  obtain ⟨mid, hmid⟩ : ∃ mid, (a + b) / 2 = mid := ⟨_, rfl⟩
  obtain ⟨nn, hnn⟩ : ∃ nn, mid + m = nn := ⟨_, rfl⟩
  obtain ⟨p, hp⟩ : ∃ p, p + 1 = nn := ⟨nn - 1, by omega⟩
  have Hs := Lib.hid h
  have Ha := Lib.hid ha
  have Hm := Lib.hid hm
  have Hb := Lib.hid hb
  have Gx := Lib.hid gx
  have Gy := Lib.hid gy
  have HN := Lib.hid hN
  have hamid : a < mid := by omega
  have hmidb : mid < b := by omega
  have hmb : m + 1 < b := by omega
  have ham : a + 1 < m := by omega
  have e1 : (m : Int) - (a : Int) = (xl : Int) := by omega
  have e2 := wrap_nat (a := xl) (by omega)
  have e3 : ((xl : Int) == 1) = false := by rw [beq_eq_false_iff_ne]; omega
  have e3' : (xl == 1) = false := by rw [beq_eq_false_iff_ne]; omega
  have e4 : (b : Int) - (m : Int) = (yl : Int) := by omega
  have e5 := wrap_nat (a := yl) (by omega)
  have e6 : ((yl : Int) == 1) = false := by rw [beq_eq_false_iff_ne]; omega
  have e6' : (yl == 1) = false := by rw [beq_eq_false_iff_ne]; omega
  have e7 : ((a : Int) + (b : Int)) / 2 = (mid : Int) := by omega
  have e8 : (mid : Int) + (m : Int) = (nn : Int) := by omega
  have e9 := wrap_nat (a := nn) (by omega)
  have e10 : (nn : Int) - 1 = (p : Int) := by omega
  have e11 := wrap_nat (a := p) (by omega)
  have hXl : X.length = m - a := by omega
  have hYl : Y.length = b - m := by omega
  have HXl := Lib.hid hXl
  have HYl := Lib.hid hYl
  obtain ⟨s0, r0, hs0a, hs0n, hr0m, hr0d, hsr, he0, her, hcase⟩ : ∃ s0 r0 : Nat, a ≤ s0 ∧ nn ≤ s0 + b ∧ r0 ≤ m ∧ r0 ≤ mid ∧ s0 ≤ r0 ∧ (s0 = a ∨ s0 + b = nn) ∧ (r0 = m ∨ r0 = mid) ∧ ((mid < m ∧ (nn : Int) - (b : Int) = (s0 : Int) ∧ r0 = mid) ∨ (m ≤ mid ∧ s0 = a ∧ r0 = m)) := by
    by_cases hmm : mid < m
    · exact ⟨nn - b, mid, by omega, by omega, by omega, Nat.le_refl _, by omega, .inr (by omega), .inr rfl, .inl ⟨hmm, by omega, rfl⟩⟩
    · exact ⟨a, m, Nat.le_refl _, by omega, Nat.le_refl _, by omega, by omega, .inl rfl, .inl rfl, .inr ⟨by omega, rfl, rfl⟩⟩
  have hs : BsRel B w0 (sepR (evR g n cap (A ++ (X ++ Y) ++ C)) Q) L s0 r0 (pm X Y a m p) (.int .i64 (s0 : Int)) (.int .i64 (r0 : Int)) w :=
    ⟨s0, r0, rfl, rfl, Nat.le_refl _, hsr, Nat.le_refl _, fun _ _ _ => by omega, fun _ _ _ => by omega, h⟩
  have e12 := wrap_nat (a := s0) (by omega)
  have Hs := Lib.hid hs
  have He0 := Lib.hid he0
  have Her := Lib.hid her
  have Hnn := Lib.hid hnn
  have Hp := Lib.hid hp
  have hpn : p < 3000 := by omega
  clear hs h ha hm hb hx hy gx gy hxl hyl hmid he0 her hXl hYl hN hnn hp
  have main : Calls Tryd.prog 58 #[.slice (some ⟨g, 0, none⟩) n cap, .int .i64 (a : Int), .int .i64 (m : Int), .int .i64 (b : Int), .func (.func 46) #[] #[]] w (SymDone B w0 Q L g n cap A X Y C) := by
    have hc2 : (mid < m ∧ (nn : Int) - (b : Int) = (s0 : Int) ∧ Hid ((mid : Int) = (r0 : Int))) ∨ (m ≤ mid ∧ decide (mid < m) = false ∧ Hid ((a : Int) = (s0 : Int) ∧ (m : Int) = (r0 : Int))) := by
      rcases hcase with ⟨h1, h2, h3⟩ | ⟨h1, h2, h3⟩
      · exact .inl ⟨h1, h2, Lib.hid (by omega)⟩
      · exact .inr ⟨h1, decide_eq_false (by omega), Lib.hid (by constructor <;> omega)⟩
    clear hcase
    rcases hc2 with ⟨hmm, e13, Hr⟩ | ⟨hmm, e13, Hr⟩
    all_goals
      go_enter Tryd.func58, Tryd.ntmps58
      go_wp2_with fail
      clear e1 e2 e3 e3' e4 e5 e6 e6' e7 e8 e9 e10 e11 e12 e13 hmm
      go_loopw [20, 21] (fun iv jv wr => BsRel B w0 (sepR (evR g n cap (A ++ (X ++ Y) ++ C)) Q) L s0 r0 (pm X Y a m p) iv jv wr) (fun iv jv _ => (intOf jv).toNat - (intOf iv).toNat)
      case atStart =>
        first
          | exact Hs.out
          | (rw [Hr.out]; exact Hs.out)
          | (rw [Hr.out.1, Hr.out.2]; exact Hs.out)
      case round =>
        obtain ⟨i, j, rfl, rfl, hmi, hij, hjb, hlo, hhi, hH⟩ := hrel
        have HH := Lib.hid hH
        have Hlo := Lib.hid hlo
        have Hhi := Lib.hid hhi
        clear hH hlo hhi Hs Hr
        by_cases hlt : i < j
        ·
          obtain ⟨h, hh⟩ : ∃ h, (i + j) / 2 = h := ⟨_, rfl⟩
          have h1 : ((i : Int) + (j : Int)) / 2 = (h : Int) := by omega
          have h2 : i ≤ h := by omega
          have h3 : h < j := by omega
          obtain ⟨pc, hpc⟩ : ∃ pc, p - h = pc := ⟨_, rfl⟩
          have hpl : m ≤ pc ∧ pc < b := by have := Hp.out; have := Hnn.out; omega
          obtain ⟨hpl1, hpl2⟩ := hpl
          have hpi : (p : Int) - (h : Int) = (pc : Int) := by omega
          have hhX : h - a < X.length := by have := HXl.out; omega
          have hhY : p - h - m < Y.length := by have := HYl.out; omega
          obtain ⟨x, hx⟩ : ∃ x, X[h - a]? = some x := ⟨_, List.getElem?_eq_getElem hhX⟩
          obtain ⟨y, hy⟩ : ∃ y, Y[p - h - m]? = some y := ⟨_, List.getElem?_eq_getElem hhY⟩
          have gx := Gx.out _ _ hx
          rw [show a + (h - a) = h by omega] at gx
          have gy := Gy.out _ _ hy
          rw [show m + (p - h - m) = pc by omega] at gy
          obtain ⟨p0, p1, p2, p3, p4, p5, p6⟩ := HH.out.evAt gy
          obtain ⟨r0', r1, r2, r3, r4, r5, r6⟩ := HH.out.evAt gx
          have hpe := pm_eq hx hy
          have hc := cmp_any y x
          have hh0 : (0 : Int) ≤ (h : Int) := by omega
          have hh1 : (h : Int) < (n : Int) := by omega
          have hh2 : h < n := by omega
          have hq0 : (0 : Int) ≤ (pc : Int) := by omega
          have hq1 : (pc : Int) < (n : Int) := by omega
          have hq2 : pc < n := by omega
          have hw := wrap_nat (a := h) (by omega)
          have hw2 := wrap_nat (a := pc) (by omega)
          have Hpe := Lib.hid hpe
          have Hpc := Lib.hid hpc
          clear hh gx gy hx hy hpe hpc
          cases hyx : y.k.lt x.k
          · have h0 : 0 ≤ y.k.cmp x.k := by
              rcases cmp_cases y.k x.k with ⟨_, hl⟩ | ⟨e, _⟩ | ⟨e, _⟩
              · rw [hl] at hyx; cases hyx
              · omega
              · omega
            generalize y.k.cmp x.k = cv at hc h0
            have hcd : decide (cv < 0) = false := decide_eq_false (by omega)
            have Hc := Lib.hid hc
            have Hyx := Lib.hid hyx
            clear hc hyx h0
            go_wp2_with fail
            go_region_held3 (fun w' => w'.cell? ⟨g, pc * 7, none⟩ = some (.int .i64 y.k.at_) ∧ w'.cell? ⟨g, pc * 7 + 1, none⟩ = some (.int .i64 y.k.src) ∧ w'.cell? ⟨g, pc * 7 + 2, none⟩ = some (.int .i64 y.k.sent) ∧ w'.cell? ⟨g, pc * 7 + 3, none⟩ = some (.int .i64 y.k.no) ∧ w'.cell? ⟨g, pc * 7 + 4, none⟩ = some (.int .i64 y.dst) ∧ w'.cell? ⟨g, pc * 7 + 5, none⟩ = some (.int .i64 y.kind) ∧ w'.cell? ⟨g, pc * 7 + 6, none⟩ = some (.int .i64 y.data) ∧ w'.cell? ⟨g, h * 7, none⟩ = some (.int .i64 x.k.at_) ∧ w'.cell? ⟨g, h * 7 + 1, none⟩ = some (.int .i64 x.k.src) ∧ w'.cell? ⟨g, h * 7 + 2, none⟩ = some (.int .i64 x.k.sent) ∧ w'.cell? ⟨g, h * 7 + 3, none⟩ = some (.int .i64 x.k.no) ∧ w'.cell? ⟨g, h * 7 + 4, none⟩ = some (.int .i64 x.dst) ∧ w'.cell? ⟨g, h * 7 + 5, none⟩ = some (.int .i64 x.kind) ∧ w'.cell? ⟨g, h * 7 + 6, none⟩ = some (.int .i64 x.data))
              (first | go_keep | exact ⟨hf.cell p0 (by simp), hf.cell p1 (by simp), hf.cell p2 (by simp), hf.cell p3 (by simp), hf.cell p4 (by simp), hf.cell p5 (by simp), hf.cell p6 (by simp), hf.cell r0' (by simp), hf.cell r1 (by simp), hf.cell r2 (by simp), hf.cell r3 (by simp), hf.cell r4 (by simp), hf.cell r5 (by simp), hf.cell r6 (by simp)⟩)
              ((go_at_call 46; refine (Hc.out _).mono ?_; rintro e w6 ⟨rfl, hf⟩))
            have h4 := (show Holds B w0 _ w6 L from by first | exact HH.out.made hQ' hf | exact (HH.out.drew hQ').made hQ' hf)
            have HF := Lib.hid h4
            clear h4 hf
            go_wp2_with fail
            go_roundw
            case rel => exact ⟨h + 1, j, by go_num, rfl, by omega, by omega, hjb, fun h' hh' hb' => pm_down hXa hYa hhX (by have := HYl.out; have := Hp.out; have := Hnn.out; omega) (by omega) (by rw [Hpe.out, Hyx.out]; rfl), Hhi.out, HF.out⟩
            case measure => simp [intOf]; omega
          · rw [cmp_lt hyx] at hc
            have Hc := Lib.hid hc
            have Hyx := Lib.hid hyx
            clear hc hyx
            go_wp2_with fail
            go_region_held3 (fun w' => w'.cell? ⟨g, pc * 7, none⟩ = some (.int .i64 y.k.at_) ∧ w'.cell? ⟨g, pc * 7 + 1, none⟩ = some (.int .i64 y.k.src) ∧ w'.cell? ⟨g, pc * 7 + 2, none⟩ = some (.int .i64 y.k.sent) ∧ w'.cell? ⟨g, pc * 7 + 3, none⟩ = some (.int .i64 y.k.no) ∧ w'.cell? ⟨g, pc * 7 + 4, none⟩ = some (.int .i64 y.dst) ∧ w'.cell? ⟨g, pc * 7 + 5, none⟩ = some (.int .i64 y.kind) ∧ w'.cell? ⟨g, pc * 7 + 6, none⟩ = some (.int .i64 y.data) ∧ w'.cell? ⟨g, h * 7, none⟩ = some (.int .i64 x.k.at_) ∧ w'.cell? ⟨g, h * 7 + 1, none⟩ = some (.int .i64 x.k.src) ∧ w'.cell? ⟨g, h * 7 + 2, none⟩ = some (.int .i64 x.k.sent) ∧ w'.cell? ⟨g, h * 7 + 3, none⟩ = some (.int .i64 x.k.no) ∧ w'.cell? ⟨g, h * 7 + 4, none⟩ = some (.int .i64 x.dst) ∧ w'.cell? ⟨g, h * 7 + 5, none⟩ = some (.int .i64 x.kind) ∧ w'.cell? ⟨g, h * 7 + 6, none⟩ = some (.int .i64 x.data))
              (first | go_keep | exact ⟨hf.cell p0 (by simp), hf.cell p1 (by simp), hf.cell p2 (by simp), hf.cell p3 (by simp), hf.cell p4 (by simp), hf.cell p5 (by simp), hf.cell p6 (by simp), hf.cell r0' (by simp), hf.cell r1 (by simp), hf.cell r2 (by simp), hf.cell r3 (by simp), hf.cell r4 (by simp), hf.cell r5 (by simp), hf.cell r6 (by simp)⟩)
              ((go_at_call 46; refine (Hc.out _).mono ?_; rintro e w6 ⟨rfl, hf⟩))
            have h4 := (show Holds B w0 _ w6 L from by first | exact HH.out.made hQ' hf | exact (HH.out.drew hQ').made hQ' hf)
            have HF := Lib.hid h4
            clear h4 hf
            go_wp2_with fail
            go_roundw
            case rel => exact ⟨i, h, rfl, rfl, hmi, h2, by omega, Hlo.out, fun h' hh' hb' => pm_up hXa hYa (by have := HXl.out; omega) hhY hh' (by rw [Hpe.out, Hyx.out]; rfl), HF.out⟩
            case measure => simp [intOf]; omega
        · obtain rfl : i = j := by omega
          obtain ⟨en, hen⟩ : ∃ en, nn - i = en := ⟨_, rfl⟩
          have hmid2 : mid + m = i + en := by have := Hnn.out; omega
          have hien : (nn : Int) - (i : Int) = (en : Int) := by have := Hnn.out; omega
          have hwen := wrap_nat (a := en) (by omega)
          have hai : a ≤ i := by omega
          have him : i ≤ m := by omega
          have himid : i ≤ mid := by omega
          have hmen : m ≤ en := by omega
          have henb : en ≤ b := by have := Hnn.out; omega
          obtain ⟨sx, hsx⟩ : ∃ sx, i - a = sx := ⟨_, rfl⟩
          obtain ⟨ey, hey⟩ : ∃ ey, en - m = ey := ⟨_, rfl⟩
          have hXt := List.take_append_drop sx X
          have hYt := List.take_append_drop ey Y
          have lX1 : (X.take sx).length = i - a := by have := HXl.out; rw [List.length_take]; omega
          have lX2 : (X.drop sx).length = m - i := by have := HXl.out; rw [List.length_drop]; omega
          have lY1 : (Y.take ey).length = en - m := by have := HYl.out; rw [List.length_take]; omega
          have lY2 : (Y.drop ey).length = b - en := by have := HYl.out; rw [List.length_drop]; omega
          have hP1 := bound_lt (s := sx) (e := ey) hXa hYa (fun x y hx he hy => by
            have h1 := (List.getElem?_eq_some_iff.1 hx).1
            have h2 := HXl.out
            have hir : i < r0 := by have := Her.out; omega
            have h3 := Hhi.out i (Nat.le_refl _) hir
            rw [pm_eq (x := x) (y := y) (by rw [hsx]; exact hx) (by rw [show p - i - m = ey - 1 by have := Hp.out; have := Hnn.out; omega]; exact hy)] at h3
            simpa using h3) (by have := HYl.out; omega)
          have hP2 := bound_le (s := sx) (e := ey) hXa hYa (fun x y hs hx hy => by
            have h1 := (List.getElem?_eq_some_iff.1 hy).1
            have h2 := HYl.out
            have his : s0 < i := by have := He0.out; have := Hnn.out; omega
            have h3 := Hlo.out (i - 1) (by omega) (by omega)
            rw [pm_eq (x := x) (y := y) (by rw [show i - 1 - a = sx - 1 by omega]; exact hx) (by rw [show p - (i - 1) - m = ey by have := Hp.out; have := Hnn.out; omega]; exact hy)] at h3
            simpa using h3) (by have := HXl.out; omega)
          have hZ : A ++ (X ++ Y) ++ C = (A ++ X.take sx) ++ (X.drop sx ++ Y.take ey) ++ (Y.drop ey ++ C) := by
            conv => lhs; rw [← hXt, ← hYt]
            simp only [List.append_assoc]
          have hX1a : Asc (X.take sx) := (asc_append.1 (by rw [hXt]; exact hXa)).1
          have hX2a : Asc (X.drop sx) := (asc_append.1 (by rw [hXt]; exact hXa)).2.1
          have hY1a : Asc (Y.take ey) := (asc_append.1 (by rw [hYt]; exact hYa)).1
          have hY2a : Asc (Y.drop ey) := (asc_append.1 (by rw [hYt]; exact hYa)).2.1
          have fin : ∀ (w' : World) (M1 M2 : List Ev), Asc M1 → Asc M2 → Alike (X.take sx ++ Y.take ey) M1 → Alike (X.drop sx ++ Y.drop ey) M2 → M1.length = (X.take sx).length + (Y.take ey).length → M2.length = (X.drop sx).length + (Y.drop ey).length → Holds B w0 (sepR (evR g n cap (A ++ (M1 ++ M2) ++ C)) Q) w' L → SymDone B w0 Q L g n cap A X Y C (.returned (.tuple #[])) w' := fun w' M1 M2 a1 a2 k1 k2 l1 l2 hH => by
            have h1 := sym_pure (by rw [hXt]; exact hXa) (by rw [hYt]; exact hYa) hP1 hP2 a1 a2 k1 k2
            rw [hXt, hYt] at h1
            exact ⟨rfl, M1 ++ M2, h1.1, h1.2, by rw [List.length_append, l1, l2, lX1, lX2, lY1, lY2]; have := HXl.out; have := HYl.out; omega, hH⟩
          have hH2 := HH.out
          rw [hZ] at hH2
          have lA : (A ++ X.take sx).length = i := by rw [List.length_append, Ha.out, lX1]; omega
          have Fin := Lib.hid fin
          have HH2 := Lib.hid hH2
          have LX1 := Lib.hid lX1
          have LX2 := Lib.hid lX2
          have LY1 := Lib.hid lY1
          have LY2 := Lib.hid lY2
          have LA := Lib.hid lA
          have Hmid2 := Lib.hid hmid2
          have HX1a := Lib.hid hX1a
          have HX2a := Lib.hid hX2a
          have HY1a := Lib.hid hY1a
          have HY2a := Lib.hid hY2a
          clear fin hH2 hZ lX1 lX2 lY1 lY2 lA hXt hYt hP1 hP2 hX1a hX2a hY1a hY2a hmid2 hsx hey hen HH
          have hsym1 : a < i → m < en → ∀ w', Holds B w0 (sepR (evR g n cap (A ++ (X.take sx ++ Y.take ey) ++ (X.drop sx ++ Y.drop ey ++ C))) Q) w' L → Calls Tryd.prog 58 #[.slice (some ⟨g, 0, none⟩) n cap, .int .i64 (a : Int), .int .i64 (i : Int), .int .i64 (mid : Int), .func (.func 46) #[] #[]] w' (SymDone B w0 Q L g n cap A (X.take sx) (Y.take ey) (X.drop sx ++ Y.drop ey ++ C)) := fun h1 h2 w' hH =>
            IH.out hQ A (X.take sx) (Y.take ey) (X.drop sx ++ Y.drop ey ++ C) (by rw [LX1.out, LY1.out]; have := HN.out; have := HXl.out; have := HYl.out; have := Hmid2.out; omega) hH Ha.out (by rw [LX1.out]; omega) (by rw [LY1.out]; have := Hmid2.out; omega) (by rw [LX1.out]; omega) (by rw [LY1.out]; omega) (by omega) hn' hcap HX1a.out HY1a.out
          have hsym2 : i < m → en < b → ∀ w' (M1 : List Ev), M1.length = (X.take sx).length + (Y.take ey).length → Holds B w0 (sepR (evR g n cap ((A ++ M1) ++ (X.drop sx ++ Y.drop ey) ++ C)) Q) w' L → Calls Tryd.prog 58 #[.slice (some ⟨g, 0, none⟩) n cap, .int .i64 (mid : Int), .int .i64 (en : Int), .int .i64 (b : Int), .func (.func 46) #[] #[]] w' (SymDone B w0 Q L g n cap (A ++ M1) (X.drop sx) (Y.drop ey) C) := fun h1 h2 w' M1 hl hH =>
            IH.out hQ (A ++ M1) (X.drop sx) (Y.drop ey) C (by rw [LX2.out, LY2.out]; have := HN.out; have := HXl.out; have := HYl.out; have := Hmid2.out; omega) hH (by rw [List.length_append, Ha.out, hl, LX1.out, LY1.out]; have := Hmid2.out; omega) (by rw [LX2.out]; have := Hmid2.out; omega) (by rw [LY2.out]; omega) (by rw [LX2.out]; omega) (by rw [LY2.out]; omega) hn hn' hcap HX2a.out HY2a.out
          have hrot : i < m → m < en → Calls Tryd.prog 59 #[.slice (some ⟨g, 0, none⟩) n cap, .int .i64 (i : Int), .int .i64 (m : Int), .int .i64 (en : Int), .func (.func 46) #[] #[]] wr fun e w' => e = .returned (.tuple #[]) ∧ Holds B w0 (sepR (evR g n cap ((A ++ X.take sx) ++ (Y.take ey ++ X.drop sx) ++ (Y.drop ey ++ C))) Q) w' L := fun h1 h2 =>
            rot_goes hQ (A ++ X.take sx) (X.drop sx) (Y.take ey) (Y.drop ey ++ C) HH2.out LA.out (by rw [LX2.out]; omega) (by rw [LY1.out]; omega) (by rw [LX2.out]; omega) (by rw [LY1.out]; omega) (by omega) hn' hcap _
          have Hsym1 := Lib.hid hsym1
          have Hsym2 := Lib.hid hsym2
          have Hrot := Lib.hid hrot
          clear hsym1 hsym2 hrot IH
          by_cases hP : i < m
          · have hmidn : mid < en := by have := Hmid2.out; omega
            by_cases hQc : m < en
            · have himd : i < mid := by have := Hmid2.out; omega
              go_wp2_with fail
              refine (Hrot.out hP hQc).mono ?_
              rintro e w1 ⟨rfl, h1⟩
              have HA1 : Holds B w0 (sepR (evR g n cap (A ++ (X.take sx ++ Y.take ey) ++ (X.drop sx ++ Y.drop ey ++ C))) Q) w1 L := by simpa only [List.append_assoc] using h1
              have H1 := Lib.hid HA1
              clear h1 HA1
              by_cases hR1 : a < i
              · go_wp2_with fail
                refine (Hsym1.out hR1 hQc _ H1.out).mono ?_
                rintro e w2 ⟨rfl, M1, m1, m2, m3, h2⟩
                have HA2 : Holds B w0 (sepR (evR g n cap ((A ++ M1) ++ (X.drop sx ++ Y.drop ey) ++ C)) Q) w2 L := by simpa only [List.append_assoc] using h2
                have H2 := Lib.hid HA2
                have M1a := Lib.hid m1
                have M1k := Lib.hid m2
                have M1l := Lib.hid m3
                clear h2 HA2 m1 m2 m3
                by_cases hR2 : en < b
                · go_wp2_with fail
                  refine (Hsym2.out hP hR2 _ M1 M1l.out H2.out).mono ?_
                  rintro e w3 ⟨rfl, M2, n1, n2, n3, h3⟩
                  go_wp2_with fail
                  go_end0
                  exact Fin.out _ M1 M2 M1a.out n1 M1k.out n2 M1l.out n3 (by simpa only [List.append_assoc] using h3)
                · have hY0 : Y.drop ey = [] := List.eq_nil_of_length_eq_zero (by rw [LY2.out]; omega)
                  have HY0 := Lib.hid hY0
                  clear hY0
                  go_wp2_with fail
                  go_end0
                  exact Fin.out _ M1 (X.drop sx ++ Y.drop ey) M1a.out (by rw [HY0.out, List.append_nil]; exact HX2a.out) M1k.out (Alike.refl _) M1l.out (List.length_append) (by have := H2.out; simpa only [List.append_assoc] using this)
              · have hX0 : X.take sx = [] := List.eq_nil_of_length_eq_zero (by rw [LX1.out]; omega)
                have HX0 := Lib.hid hX0
                clear hX0
                have HA2 : Holds B w0 (sepR (evR g n cap ((A ++ (X.take sx ++ Y.take ey)) ++ (X.drop sx ++ Y.drop ey) ++ C)) Q) w1 L := by have := H1.out; simpa only [List.append_assoc] using this
                have H2 := Lib.hid HA2
                clear HA2
                by_cases hR2 : en < b
                · go_wp2_with fail
                  refine (Hsym2.out hP hR2 _ (X.take sx ++ Y.take ey) List.length_append H2.out).mono ?_
                  rintro e w3 ⟨rfl, M2, n1, n2, n3, h3⟩
                  go_wp2_with fail
                  go_end0
                  exact Fin.out _ (X.take sx ++ Y.take ey) M2 (by rw [HX0.out, List.nil_append]; exact HY1a.out) n1 (Alike.refl _) n2 List.length_append n3 (by simpa only [List.append_assoc] using h3)
                · have hY0 : Y.drop ey = [] := List.eq_nil_of_length_eq_zero (by rw [LY2.out]; omega)
                  have HY0 := Lib.hid hY0
                  clear hY0
                  go_wp2_with fail
                  go_end0
                  exact Fin.out _ (X.take sx ++ Y.take ey) (X.drop sx ++ Y.drop ey) (by rw [HX0.out, List.nil_append]; exact HY1a.out) (by rw [HY0.out, List.append_nil]; exact HX2a.out) (Alike.refl _) (Alike.refl _) List.length_append List.length_append (by have := H2.out; simpa only [List.append_assoc] using this)
            · have hY10 : Y.take ey = [] := List.eq_nil_of_length_eq_zero (by rw [LY1.out]; omega)
              have HY10 := Lib.hid hY10
              have himd : mid ≤ i := by have := Hmid2.out; omega
              have hR1 : a < i := by omega
              have hR2 : en < b := by omega
              have HA2 : Holds B w0 (sepR (evR g n cap ((A ++ (X.take sx ++ Y.take ey)) ++ (X.drop sx ++ Y.drop ey) ++ C)) Q) wr L := by have h1 := HH2.out; rw [hY10] at h1 ⊢; simpa only [List.append_assoc, List.append_nil, List.nil_append] using h1
              have H2 := Lib.hid HA2
              clear HA2 hY10
              go_wp2_with fail
              refine (Hsym2.out hP hR2 _ (X.take sx ++ Y.take ey) List.length_append H2.out).mono ?_
              rintro e w3 ⟨rfl, M2, n1, n2, n3, h3⟩
              go_wp2_with fail
              go_end0
              exact Fin.out _ (X.take sx ++ Y.take ey) M2 (by rw [HY10.out, List.append_nil]; exact HX1a.out) n1 (Alike.refl _) n2 List.length_append n3 (by simpa only [List.append_assoc] using h3)
          · have hX20 : X.drop sx = [] := List.eq_nil_of_length_eq_zero (by rw [LX2.out]; omega)
            have HX20 := Lib.hid hX20
            have hmidn : en ≤ mid := by have := Hmid2.out; omega
            have hR1 : a < i := by omega
            have HA1 : Holds B w0 (sepR (evR g n cap (A ++ (X.take sx ++ Y.take ey) ++ (X.drop sx ++ Y.drop ey ++ C))) Q) wr L := by have h1 := HH2.out; rw [hX20] at h1 ⊢; simpa only [List.append_assoc, List.append_nil, List.nil_append] using h1
            have H1 := Lib.hid HA1
            clear HA1 hX20
            by_cases hQc : m < en
            · have himd : i < mid := by have := Hmid2.out; omega
              go_wp2_with fail
              refine (Hsym1.out hR1 hQc _ H1.out).mono ?_
              rintro e w2 ⟨rfl, M1, m1, m2, m3, h2⟩
              have M1a := Lib.hid m1
              have M1k := Lib.hid m2
              have M1l := Lib.hid m3
              have H2 := Lib.hid h2
              clear h2 m1 m2 m3
              go_wp2_with fail
              go_end0
              exact Fin.out _ M1 (X.drop sx ++ Y.drop ey) M1a.out (by rw [HX20.out, List.nil_append]; exact HY2a.out) M1k.out (Alike.refl _) M1l.out List.length_append (by have := H2.out; simpa only [List.append_assoc] using this)
            · have hY10 : Y.take ey = [] := List.eq_nil_of_length_eq_zero (by rw [LY1.out]; omega)
              have HY10 := Lib.hid hY10
              have himd : mid ≤ i := by have := Hmid2.out; omega
              clear hY10
              go_wp2_with fail
              go_end0
              exact Fin.out _ (X.take sx ++ Y.take ey) (X.drop sx ++ Y.drop ey) (by rw [HY10.out, List.append_nil]; exact HX1a.out) (by rw [HX20.out, List.nil_append]; exact HY2a.out) (Alike.refl _) (Alike.refl _) List.length_append List.length_append (by have := H1.out; simpa only [List.append_assoc] using this)
  exact main
end Go.Proofs.YtbkadfdpboghiaaDoor
