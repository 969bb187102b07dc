/- Two sorted parts that stand beside one another are merged. -/
import Derived.Test.YtbkadfdpboghiaaDoorSortR
namespace Go.Proofs.YtbkadfdpboghiaaDoor
open Go.RowKit Go.Maps

/-- A search by halves: what is below is so, what is above is not. -/
def BsRel (B : Nat) (w0 : World) (R : World → List Nat → Prop) (L : List (Nat × Obj)) (lo hi : Nat) (p : Nat → Bool) (iv jv : Value) (wr : World) : Prop :=
  ∃ i j : Nat, iv = .int .i64 (i : Int) ∧ jv = .int .i64 (j : Int) ∧ lo ≤ i ∧ i ≤ j ∧ j ≤ hi ∧ (∀ h, lo ≤ h → h < i → p h = true) ∧ (∀ h, j ≤ h → h < hi → p h = false) ∧ Holds B w0 R wr L
def SymDone (B : Nat) (w0 : World) (Q : World → List Nat → Prop) (L : List (Nat × Obj)) (g n cap : Nat) (A X Y C : List Ev) (e : Ending) (w' : World) : Prop :=
  e = .returned (.tuple #[]) ∧ ∃ M, Asc M ∧ Alike (X ++ Y) M ∧ M.length = X.length + Y.length ∧ Holds B w0 (sepR (evR g n cap (A ++ M ++ C)) Q) w' L

/-- One event is put into a sorted part from the left. -/
theorem put_left {x : Ev} {Y : List Ev} (hY : Asc Y) {r : Nat} (h1 : ∀ (h : Nat) (y : Ev), h < r → Y[h]? = some y → y.k.lt x.k = true) (h2 : ∀ (h : Nat) (y : Ev), r ≤ h → Y[h]? = some y → y.k.lt x.k = false) :
    Asc (Y.take r ++ x :: Y.drop r) ∧ Alike (x :: Y) (Y.take r ++ x :: Y.drop r) := by
  have ha := asc_append.1 (by rw [List.take_append_drop]; exact hY : Asc (Y.take r ++ Y.drop r))
  have hl : ∀ y ∈ Y.take r, y.k.lt x.k = true := fun y hy => by
    obtain ⟨i, hi⟩ := List.mem_iff_getElem?.1 hy
    rw [List.getElem?_take] at hi
    split at hi
    · rename_i hir; exact h1 i y hir hi
    · cases hi
  have hr : ∀ y ∈ Y.drop r, y.k.lt x.k = false := fun y hy => by
    obtain ⟨i, hi⟩ := List.mem_iff_getElem?.1 hy
    rw [List.getElem?_drop] at hi
    exact h2 (r + i) y (by omega) hi
  refine ⟨asc_append.2 ⟨ha.1, asc_cons.2 ⟨hr, ha.2.1⟩, fun a ha1 b hb => ?_⟩, ?_⟩
  · rcases List.mem_cons.1 hb with rfl | hb
    · exact lt_asymm (hl a ha1)
    · exact ha.2.2 a ha1 b hb
  · have h3 : Alike ([x] ++ Y.take r) (Y.take r ++ [x]) := Alike.swap fun a ha b hb => by
      simp at ha
      subst ha
      exact lt_asc_ne (hl b hb)
    have h4 := h3.append (Alike.refl (Y.drop r))
    simpa [List.append_assoc] using h4
/-- From the right. -/
theorem put_right {y : Ev} {X : List Ev} (hX : Asc X) {r : Nat} (h1 : ∀ (h : Nat) (x : Ev), h < r → X[h]? = some x → y.k.lt x.k = false) (h2 : ∀ (h : Nat) (x : Ev), r ≤ h → X[h]? = some x → y.k.lt x.k = true) :
    Asc (X.take r ++ y :: X.drop r) ∧ Alike (X ++ [y]) (X.take r ++ y :: X.drop r) := by
  have ha := asc_append.1 (by rw [List.take_append_drop]; exact hX : Asc (X.take r ++ X.drop r))
  have hl : ∀ x ∈ X.take r, y.k.lt x.k = false := fun x hx => by
    obtain ⟨i, hi⟩ := List.mem_iff_getElem?.1 hx
    rw [List.getElem?_take] at hi
    split at hi
    · rename_i hir; exact h1 i x hir hi
    · cases hi
  have hr : ∀ x ∈ X.drop r, y.k.lt x.k = true := fun x hx => by
    obtain ⟨i, hi⟩ := List.mem_iff_getElem?.1 hx
    rw [List.getElem?_drop] at hi
    exact h2 (r + i) x (by omega) hi
  refine ⟨asc_append.2 ⟨ha.1, asc_cons.2 ⟨fun b hb => lt_asymm (hr b hb), ha.2.1⟩, fun a ha1 b hb => ?_⟩, ?_⟩
  · rcases List.mem_cons.1 hb with rfl | hb
    · exact hl a ha1
    · exact ha.2.2 a ha1 b hb
  · have h3 : Alike (X.drop r ++ [y]) ([y] ++ X.drop r) := Alike.swap fun a ha b hb => by
      simp at hb
      subst hb
      exact lt_asc_ne (hr a ha)
    have h4 := (Alike.refl (X.take r)).append h3
    rw [← List.append_assoc, List.take_append_drop] at h4
    simpa [List.append_assoc] using h4

theorem asc_get {l : List Ev} (h : Asc l) {p q : Nat} {a b : Ev} (hp : l[p]? = some a) (hq : l[q]? = some b) (hpq : p ≤ q) : b.k.lt a.k = false := by
  by_cases he : p = q
  · subst he
    rw [hp] at hq
    cases hq
    exact lt_irrefl _
  · unfold Asc at h
    rw [List.pairwise_iff_getElem] at h
    have h1 := List.getElem?_eq_some_iff.1 hp
    have h2 := List.getElem?_eq_some_iff.1 hq
    obtain ⟨h1, rfl⟩ := h1
    obtain ⟨h2, rfl⟩ := h2
    exact h p q h1 h2 (by omega)
def pl (Y : List Ev) (x : Ev) (m h : Nat) : Bool := match Y[h - m]? with | some y => y.k.lt x.k | none => false
theorem pl_eq {Y : List Ev} {x y : Ev} {m h : Nat} (hy : Y[h - m]? = some y) : pl Y x m h = y.k.lt x.k := by unfold pl; rw [hy]
theorem pl_down {Y : List Ev} {x : Ev} {m h h' : Nat} (hY : Asc Y) (hh : h - m < Y.length) (hle : h' ≤ h) (hp : pl Y x m h = true) : pl Y x m h' = true := by
  have e1 := List.getElem?_eq_getElem hh
  have e2 := List.getElem?_eq_getElem (show h' - m < Y.length by omega)
  rw [pl_eq e1] at hp
  rw [pl_eq e2]
  exact le_lt_trans (asc_get hY e2 e1 (by omega)) hp
theorem pl_up {Y : List Ev} {x : Ev} {m h h' : Nat} (hY : Asc Y) (hh : h' - m < Y.length) (hle : h ≤ h') (hp : pl Y x m h = false) : pl Y x m h' = false := by
  cases hq : pl Y x m h'
  · rfl
  · rw [pl_down hY hh hle hq] at hp; cases hp
theorem adj_set' (X Z : List Ev) (x y : Ev) : ((X ++ x :: y :: Z).set X.length y).set (X.length + 1) x = X ++ y :: x :: Z := by
  induction X with
  | nil => simp
  | cons a X ih => simp
def MvRel (B : Nat) (w0 : World) (Q : World → List Nat → Prop) (L : List (Nat × Obj)) (g n cap a r : Nat) (A : List Ev) (x : Ev) (Y C : List Ev) (kv : Value) (wr : World) : Prop :=
  ∃ t k : Nat, kv = .int .i64 (k : Int) ∧ a + t = k ∧ t ≤ r ∧ Holds B w0 (sepR (evR g n cap (A ++ (Y.take t ++ x :: Y.drop t) ++ C)) Q) wr L
theorem wrap_nat {a : Nat} (h : a ≤ 100000) : IntKind.i64.wrap (a : Int) = (a : Int) := IntWalk.i64_in _ (by omega)

attribute [local go_sem ↓] Go.wp_at_zero Go.wp_at_succ in
set_option maxHeartbeats 2000000 in
set_option maxRecDepth 100000 in
theorem sym_one {B : Nat} {w0 w : World} {Q : World → List Nat → Prop} {L : List (Nat × Obj)} {g n cap : Nat} (hQ : Stable Q) (A : List Ev) (x : Ev) (Y C : List Ev) (h : Holds B w0 (sepR (evR g n cap (A ++ (x :: Y) ++ C)) Q) w L) {a m b : Nat} (ha : A.length = a) (hm : a + 1 = m) (hb : m + Y.length = b) (hy : 0 < Y.length)
    (hn : b ≤ n) (hn' : n ≤ 1000) (_hcap : n ≤ cap) (hYa : Asc Y) :
    Calls Tryd.prog 58 #[.slice (some ⟨g, 0, none⟩) n cap, .int .i64 (a : Int), .int .i64 (m : Int), .int .i64 (b : Int), .func (.func 46) #[] #[]] w (SymDone B w0 Q L g n cap A [x] Y C) := by
  have hQ' := sepR_stable (evR_stable g n cap (A ++ (x :: Y) ++ C)) hQ
  have gx : (A ++ (x :: Y) ++ C)[a]? = some x := by rw [← ha, List.append_assoc, List.getElem?_append_right (Nat.le_refl _), Nat.sub_self]; rfl
  have gy : ∀ (h : Nat) (y : Ev), Y[h]? = some y → (A ++ (x :: Y) ++ C)[m + h]? = some y := fun h y hy => by
    have hl := (List.getElem?_eq_some_iff.1 hy).1
    rw [← hm, ← ha, List.append_assoc, List.getElem?_append_right (by omega), show A.length + 1 + h - A.length = h + 1 by omega, List.cons_append, List.getElem?_cons_succ, List.getElem?_append_left hl]
    exact hy
  have hs : BsRel B w0 (sepR (evR g n cap (A ++ (x :: Y) ++ C)) Q) L m b (pl Y x m) (.int .i64 (m : Int)) (.int .i64 (b : Int)) w :=
    ⟨m, b, rfl, rfl, Nat.le_refl _, by omega, Nat.le_refl _, fun _ _ _ => by omega, fun _ _ _ => by omega, h⟩
  have Hs := Lib.hid hs
  have Ha := Lib.hid ha
  have Hm := Lib.hid hm
  have Hb := Lib.hid hb
  have Gx := Lib.hid gx
  have Gy := Lib.hid gy
  have e1 : (m : Int) - (a : Int) = 1 := by omega
  have e2 : IntKind.i64.wrap (1 : Int) = 1 := IntWalk.i64_in _ (by omega)
  have hmb : m ≤ b := by omega
  have ham : a < m := by omega
  clear hs h ha hm hb hy gx gy
  go_enter Tryd.func58, Tryd.ntmps58
  go_wp2_with fail
  clear e1 e2
  go_loopw [10, 11] (fun iv jv wr => BsRel B w0 (sepR (evR g n cap (A ++ (x :: Y) ++ C)) Q) L m b (pl Y x m) iv jv wr) (fun iv jv _ => (intOf jv).toNat - (intOf iv).toNat)
  case atStart => exact Hs.out
  case round =>
    obtain ⟨i, j, rfl, rfl, hmi, hij, hjb, hlo, hhi, hH⟩ := hrel
    have HH := Lib.hid hH
    have Hlo := Lib.hid hlo
    have Hhi := Lib.hid hhi
    clear hH hlo hhi Hs
    by_cases hlt : i < j
    · obtain ⟨h, hh⟩ : ∃ h, (i + j) / 2 = h := ⟨_, rfl⟩
      have h1 : ((i : Int) + (j : Int)) / 2 = (h : Int) := by omega
      have h2 : i ≤ h := by omega
      have h3 : h < j := by omega
      obtain ⟨y, hy⟩ : ∃ y, Y[h - m]? = some y := ⟨_, List.getElem?_eq_getElem (by have := Hb.out; omega)⟩
      have gy := Gy.out _ _ hy
      rw [show m + (h - m) = h by omega] at gy
      obtain ⟨p0, p1, p2, p3, p4, p5, p6⟩ := HH.out.evAt gy
      obtain ⟨r0, r1, r2, r3, r4, r5, r6⟩ := HH.out.evAt Gx.out
      have hpe := pl_eq (x := x) hy
      have hc := cmp_any y x
      have hh0 : (0 : Int) ≤ (h : Int) := by omega
      have hh1 : (h : Int) < (n : Int) := by omega
      have hh2 : h < n := by omega
      have ha0 : (0 : Int) ≤ (a : Int) := by omega
      have ha1 : (a : Int) < (n : Int) := by omega
      have ha2 : a < n := by omega
      have hw := wrap_nat (a := h) (by omega)
      have hhY : h - m < Y.length := (List.getElem?_eq_some_iff.1 hy).1
      have Hpe := Lib.hid hpe
      clear hh gy hy hpe
      cases hyx : y.k.lt x.k
      · have h0 : 0 ≤ y.k.cmp x.k := by
          rcases cmp_cases y.k x.k with ⟨_, hl⟩ | ⟨e, _⟩ | ⟨e, _⟩
          · rw [hl] at hyx; cases hyx
          · omega
          · omega
        generalize y.k.cmp x.k = cv at hc h0
        have hcd : decide (cv < 0) = false := decide_eq_false (by omega)
        have Hc := Lib.hid hc
        have Hyx := Lib.hid hyx
        clear hc hyx h0
        go_wp2_with fail
        go_region_held3 (fun w' => w'.cell? ⟨g, h * 7, none⟩ = some (.int .i64 y.k.at_) ∧ w'.cell? ⟨g, h * 7 + 1, none⟩ = some (.int .i64 y.k.src) ∧ w'.cell? ⟨g, h * 7 + 2, none⟩ = some (.int .i64 y.k.sent) ∧ w'.cell? ⟨g, h * 7 + 3, none⟩ = some (.int .i64 y.k.no) ∧ w'.cell? ⟨g, h * 7 + 4, none⟩ = some (.int .i64 y.dst) ∧ w'.cell? ⟨g, h * 7 + 5, none⟩ = some (.int .i64 y.kind) ∧ w'.cell? ⟨g, h * 7 + 6, none⟩ = some (.int .i64 y.data) ∧ w'.cell? ⟨g, a * 7, none⟩ = some (.int .i64 x.k.at_) ∧ w'.cell? ⟨g, a * 7 + 1, none⟩ = some (.int .i64 x.k.src) ∧ w'.cell? ⟨g, a * 7 + 2, none⟩ = some (.int .i64 x.k.sent) ∧ w'.cell? ⟨g, a * 7 + 3, none⟩ = some (.int .i64 x.k.no) ∧ w'.cell? ⟨g, a * 7 + 4, none⟩ = some (.int .i64 x.dst) ∧ w'.cell? ⟨g, a * 7 + 5, none⟩ = some (.int .i64 x.kind) ∧ w'.cell? ⟨g, a * 7 + 6, none⟩ = some (.int .i64 x.data))
          (first | go_keep | exact ⟨hf.cell p0 (by simp), hf.cell p1 (by simp), hf.cell p2 (by simp), hf.cell p3 (by simp), hf.cell p4 (by simp), hf.cell p5 (by simp), hf.cell p6 (by simp), hf.cell r0 (by simp), hf.cell r1 (by simp), hf.cell r2 (by simp), hf.cell r3 (by simp), hf.cell r4 (by simp), hf.cell r5 (by simp), hf.cell r6 (by simp)⟩)
          ((go_at_call 46; refine (Hc.out _).mono ?_; rintro e w6 ⟨rfl, hf⟩))
        have h4 := (show Holds B w0 _ w6 L from by first | exact HH.out.made hQ' hf | exact (HH.out.drew hQ').made hQ' hf)
        have HF := Lib.hid h4
        clear h4 hf
        go_wp2_with fail
        go_roundw
        case rel => exact ⟨i, h, rfl, rfl, hmi, h2, by omega, Hlo.out, fun h' hh' hb' => pl_up hYa (by have := Hb.out; omega) hh' (by rw [Hpe.out]; exact Hyx.out), HF.out⟩
        case measure => simp [intOf]; omega
      · rw [cmp_lt hyx] at hc
        have Hc := Lib.hid hc
        have Hyx := Lib.hid hyx
        clear hc hyx
        go_wp2_with fail
        go_region_held3 (fun w' => w'.cell? ⟨g, h * 7, none⟩ = some (.int .i64 y.k.at_) ∧ w'.cell? ⟨g, h * 7 + 1, none⟩ = some (.int .i64 y.k.src) ∧ w'.cell? ⟨g, h * 7 + 2, none⟩ = some (.int .i64 y.k.sent) ∧ w'.cell? ⟨g, h * 7 + 3, none⟩ = some (.int .i64 y.k.no) ∧ w'.cell? ⟨g, h * 7 + 4, none⟩ = some (.int .i64 y.dst) ∧ w'.cell? ⟨g, h * 7 + 5, none⟩ = some (.int .i64 y.kind) ∧ w'.cell? ⟨g, h * 7 + 6, none⟩ = some (.int .i64 y.data) ∧ w'.cell? ⟨g, a * 7, none⟩ = some (.int .i64 x.k.at_) ∧ w'.cell? ⟨g, a * 7 + 1, none⟩ = some (.int .i64 x.k.src) ∧ w'.cell? ⟨g, a * 7 + 2, none⟩ = some (.int .i64 x.k.sent) ∧ w'.cell? ⟨g, a * 7 + 3, none⟩ = some (.int .i64 x.k.no) ∧ w'.cell? ⟨g, a * 7 + 4, none⟩ = some (.int .i64 x.dst) ∧ w'.cell? ⟨g, a * 7 + 5, none⟩ = some (.int .i64 x.kind) ∧ w'.cell? ⟨g, a * 7 + 6, none⟩ = some (.int .i64 x.data))
          (first | go_keep | exact ⟨hf.cell p0 (by simp), hf.cell p1 (by simp), hf.cell p2 (by simp), hf.cell p3 (by simp), hf.cell p4 (by simp), hf.cell p5 (by simp), hf.cell p6 (by simp), hf.cell r0 (by simp), hf.cell r1 (by simp), hf.cell r2 (by simp), hf.cell r3 (by simp), hf.cell r4 (by simp), hf.cell r5 (by simp), hf.cell r6 (by simp)⟩)
          ((go_at_call 46; refine (Hc.out _).mono ?_; rintro e w6 ⟨rfl, hf⟩))
        have h4 := (show Holds B w0 _ w6 L from by first | exact HH.out.made hQ' hf | exact (HH.out.drew hQ').made hQ' hf)
        have HF := Lib.hid h4
        clear h4 hf
        go_wp2_with fail
        go_roundw
        case rel => exact ⟨h + 1, j, by go_num, rfl, by omega, by omega, hjb, fun h' hh' hb' => pl_down hYa hhY (by omega) (by rw [Hpe.out]; exact Hyx.out), Hhi.out, HF.out⟩
        case measure => simp [intOf]; omega
    · obtain rfl : i = j := by omega
      obtain ⟨r, hr⟩ : ∃ r, i - m = r := ⟨_, rfl⟩
      have hput := put_left (x := x) hYa (r := r) (fun h y hlt hy => by
          have h1 := Hlo.out (m + h) (by omega) (by omega)
          rw [pl_eq (y := y) (by rw [Nat.add_sub_cancel_left]; exact hy)] at h1
          exact h1) (fun h y hle hy => by
          have hl := (List.getElem?_eq_some_iff.1 hy).1
          have h1 := Hhi.out (m + h) (by omega) (by have := Hb.out; omega)
          rw [pl_eq (y := y) (by rw [Nat.add_sub_cancel_left]; exact hy)] at h1
          exact h1)
      obtain ⟨ar, har⟩ : ∃ ar, a + r = ar := ⟨_, rfl⟩
      have hi1 : (i : Int) - 1 = (ar : Int) := by have := Hm.out; omega
      have hi2 := wrap_nat (a := ar) (by have := Hm.out; omega)
      have hrY : r ≤ Y.length := by have := Hb.out; omega
      have hmv : MvRel B w0 Q L g n cap a r A x Y C (.int .i64 (a : Int)) wr := ⟨0, a, rfl, by omega, Nat.zero_le _, by have := HH.out; simpa using this⟩
      have Hput := Lib.hid hput
      have Hmv := Lib.hid hmv
      have Har := Lib.hid har
      have hib : ar < b := by have := Hm.out; omega
      clear hput hmv hr har HH
      go_wp2_with fail
      go_loopw [13] (fun kv wr => MvRel B w0 Q L g n cap a r A x Y C kv wr) (fun kv _ => n - (intOf kv).toNat)
      case atStart => exact Hmv.out
      case round =>
        obtain ⟨t, k, rfl, htk, htr, hH⟩ := hrel
        have HK := Lib.hid hH
        have Htk := Lib.hid htk
        clear hH htk Hmv
        by_cases hlt2 : k < ar
        · have htY : t < Y.length := by have := Htk.out; have := Har.out; omega
          obtain ⟨y, hy⟩ : ∃ y, Y[t]? = some y := ⟨_, List.getElem?_eq_getElem htY⟩
          obtain ⟨k1, hk1⟩ : ∃ k1, k + 1 = k1 := ⟨_, rfl⟩
          have hdr := drop_cons' hy
          have htk1 := take_snoc' hy
          have hX : (A ++ Y.take t).length = k := by rw [List.length_append, List.length_take, Ha.out]; have := Htk.out; omega
          have hform : A ++ (Y.take t ++ x :: Y.drop t) ++ C = (A ++ Y.take t) ++ x :: y :: (Y.drop (t + 1) ++ C) := by rw [hdr]; simp [List.append_assoc]
          have s1 : (A ++ (Y.take t ++ x :: Y.drop t) ++ C)[k]? = some x := by rw [hform, List.getElem?_append_right (by omega), hX, Nat.sub_self]; rfl
          have s2 : (A ++ (Y.take t ++ x :: Y.drop t) ++ C)[k1]? = some y := by rw [hform, List.getElem?_append_right (by omega), hX, show k1 - k = 0 + 1 by omega]; rfl
          have s3 : ((A ++ (Y.take t ++ x :: Y.drop t) ++ C).set k y).set k1 x = A ++ (Y.take (t + 1) ++ x :: Y.drop (t + 1)) ++ C := by
            have h := adj_set' (A ++ Y.take t) (Y.drop (t + 1) ++ C) x y
            rw [hX, hk1] at h
            rw [hform, h, htk1]
            simp [List.append_assoc]
          have hkk : (k : Int) + 1 = (k1 : Int) := by omega
          have hk2 := wrap_nat (a := k1) (by omega)
          have hk3 := wrap_nat (a := k) (by omega)
          have hkn : k < n := by omega
          have hk1n : k1 < n := by omega
          have hkn' : (k : Int) < (n : Int) := by omega
          have hk1n' : (k1 : Int) < (n : Int) := by omega
          have hk0 : (0 : Int) ≤ (k : Int) := by omega
          have hk10 : (0 : Int) ≤ (k1 : Int) := by omega
          obtain ⟨p0, p1, p2, p3, p4, p5, p6⟩ := HK.out.evAt s1
          obtain ⟨r0, r1, r2, r3, r4, r5, r6⟩ := HK.out.evAt s2
          have hll : (A ++ (Y.take t ++ x :: Y.drop t) ++ C).length = n := by have := HK.out.row.1; rw [evCells_length] at this; omega
          have fz : ∀ j, wr.frozen? ⟨g, j, none⟩ = false := fun j => HK.out.row.frozenAt j
          have S3 := Lib.hid s3
          have Hll := Lib.hid hll
          have Hk1 := Lib.hid hk1
          clear s1 s2 s3 hform hX hdr htk1 hy hll hk1
          go_wp2_with fail
          go_big_region
          go_wp2_with fail
          go_roundw
          case rel =>
            have h5 := (HK.out.putEv hQ (i := k) (by rw [Hll.out]; exact hkn) y).putEv hQ (i := k1) (by rw [List.length_set, Hll.out]; exact hk1n) x
            rw [S3.out] at h5
            exact ⟨t + 1, k1, rfl, by have := Htk.out; have := Hk1.out; omega, by have := Htk.out; have := Har.out; omega, h5.drew (sepR_stable (evR_stable _ _ _ _) hQ)⟩
          case measure => simp [intOf]; have := Hk1.out; omega
        · obtain rfl : t = r := by have := Htk.out; have := Har.out; omega
          go_wp2_with fail
          go_end0
          exact ⟨rfl, _, Hput.out.1, by simpa using Hput.out.2, by simp; omega, HK.out⟩
end Go.Proofs.YtbkadfdpboghiaaDoor
