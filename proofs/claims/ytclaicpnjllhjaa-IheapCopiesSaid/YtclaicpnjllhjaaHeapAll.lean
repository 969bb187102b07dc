/- A heap's calls: All. -/
import Derived.Test.YtclaicpnjllhjaaHeapD
import Derived.Test.YtclaicpnjllhjaaApp
import Derived.Test.YtclaicpnjllhjaaSortK
import Derived.Test.YtclaicpnjllhjaaLay
namespace Go.Proofs.Ytclaicpnjllhjaa
open Go.RowKit

set_option maxHeartbeats 400000 in
theorem before_gr (a b : Kv) (w : World) : Calls Try.prog 38 #[.agg #[.int .i64 a.at_, .int .i64 a.src, .int .i64 a.sent, .int .i64 a.no], .agg #[.int .i64 b.at_, .int .i64 b.src, .int .i64 b.sent, .int .i64 b.no]] w (Grows (.bool (a.lt b)) w) := by
  obtain ⟨x0, x1, x2, x3⟩ := a
  obtain ⟨y0, y1, y2, y3⟩ := b
  by_cases h0 : x0 = y0
  · by_cases h1 : x1 = y1
    · by_cases h2 : x2 = y2
      · have hv : Kv.lt ⟨x0, x1, x2, x3⟩ ⟨y0, y1, y2, y3⟩ = decide (x3 < y3) := by simp [Kv.lt, h0, h1, h2]
        rw [hv]
        clear hv
        subst h0 h1 h2
        go_enter Try.func38, Try.ntmps38
        go_wp2
        go_ret
        exact ⟨rfl, gr_alloc (gr_alloc (gr_refl _) _) _⟩
      · have hv : Kv.lt ⟨x0, x1, x2, x3⟩ ⟨y0, y1, y2, y3⟩ = decide (x2 < y2) := by simp [Kv.lt, h0, h1, h2]
        rw [hv]
        clear hv
        subst h0 h1
        have g2 : (x2 != y2) = true := by simpa using h2
        go_enter Try.func38, Try.ntmps38
        go_wp2
        go_ret
        exact ⟨rfl, gr_alloc (gr_alloc (gr_refl _) _) _⟩
    · have hv : Kv.lt ⟨x0, x1, x2, x3⟩ ⟨y0, y1, y2, y3⟩ = decide (x1 < y1) := by simp [Kv.lt, h0, h1]
      rw [hv]
      clear hv
      subst h0
      have g1 : (x1 != y1) = true := by simpa using h1
      go_enter Try.func38, Try.ntmps38
      go_wp2
      go_ret
      exact ⟨rfl, gr_alloc (gr_alloc (gr_refl _) _) _⟩
  · have hv : Kv.lt ⟨x0, x1, x2, x3⟩ ⟨y0, y1, y2, y3⟩ = decide (x0 < y0) := by simp [Kv.lt, h0]
    rw [hv]
    clear hv
    have g0 : (x0 != y0) = true := by simpa using h0
    go_enter Try.func38, Try.ntmps38
    go_wp2
    go_ret
    exact ⟨rfl, gr_alloc (gr_alloc (gr_refl _) _) _⟩

set_option maxHeartbeats 400000 in
theorem compare_gr (a b : Kv) (w : World) : Calls Try.prog 19 #[.agg #[.int .i64 a.at_, .int .i64 a.src, .int .i64 a.sent, .int .i64 a.no], .agg #[.int .i64 b.at_, .int .i64 b.src, .int .i64 b.sent, .int .i64 b.no]] w (Grows (.int .i64 (a.cmp b)) w) := by
  have hst := ((Holds.start w).alloc noneR_stable (.cells #[.int .i64 a.at_, .int .i64 a.src, .int .i64 a.sent, .int .i64 a.no] 33)).alloc noneR_stable (.cells #[.int .i64 b.at_, .int .i64 b.src, .int .i64 b.sent, .int .i64 b.no] 33)
  have hF : ∃ os, ((w.alloc (.cells #[.int .i64 a.at_, .int .i64 a.src, .int .i64 a.sent, .int .i64 a.no] 33)).alloc (.cells #[.int .i64 b.at_, .int .i64 b.src, .int .i64 b.sent, .int .i64 b.no] 33)) = Go.Sort.grow w os := gr_alloc (gr_alloc (gr_refl _) _) _
  have H0 := Lib.hid hst
  have HF := Lib.hid hF
  clear hst hF
  by_cases h1 : a.lt b = true
  · have hv : a.cmp b = -1 := by simp [Kv.cmp, h1]
    rw [hv]
    have hc := before_gr a b
    rw [h1] at hc
    have Hc := Lib.hid hc
    clear hc hv
    go_enter Try.func19, Try.ntmps19
    go_wp2_with fail
    refine (Hc.out _).mono ?_
    rintro e w1 ⟨rfl, hf⟩
    have Hf := Lib.hid hf
    clear hf
    go_wp2
    go_ret
    exact ⟨rfl, gr_trans HF.out Hf.out⟩
  · have h1' : a.lt b = false := by simpa using h1
    have hc := before_gr a b
    rw [h1'] at hc
    have Hc := Lib.hid hc
    clear hc
    by_cases h2 : b.lt a = true
    · have hv : a.cmp b = 1 := by simp [Kv.cmp, h1', h2]
      rw [hv]
      have hd := before_gr b a
      rw [h2] at hd
      have Hd := Lib.hid hd
      clear hd hv h1 h1' h2
      go_enter Try.func19, Try.ntmps19
      go_wp2_with fail
      refine (Hc.out _).mono ?_
      rintro e w1 ⟨rfl, hf⟩
      have H1 := Lib.hid (H0.out.made noneR_stable (gr_frm hf))
      have Hf := Lib.hid hf
      clear hf
      have hbx := H1.out.box (k := w.heap.size) (o := .cells #[.int .i64 a.at_, .int .i64 a.src, .int .i64 a.sent, .int .i64 a.no] 33) (by simp)
      have hby := H1.out.box (k := w.heap.size + 1) (o := .cells #[.int .i64 b.at_, .int .i64 b.src, .int .i64 b.sent, .int .i64 b.no] 33) (by simp)
      obtain ⟨p0, p1, p2, p3⟩ := cells4 hbx
      obtain ⟨q0, q1, q2, q3⟩ := cells4 hby
      clear hbx hby
      go_wp2_with fail
      refine (Hd.out _).mono ?_
      rintro e w2 ⟨rfl, hf⟩
      have Hg := Lib.hid hf
      clear hf p0 p1 p2 p3 q0 q1 q2 q3
      go_wp2
      go_ret
      exact ⟨rfl, gr_trans (gr_trans HF.out Hf.out) Hg.out⟩
    · have h2' : b.lt a = false := by simpa using h2
      have hv : a.cmp b = 0 := by simp [Kv.cmp, h1', h2']
      rw [hv]
      have hd := before_gr b a
      rw [h2'] at hd
      have Hd := Lib.hid hd
      clear hd hv h1 h1' h2 h2'
      go_enter Try.func19, Try.ntmps19
      go_wp2_with fail
      refine (Hc.out _).mono ?_
      rintro e w1 ⟨rfl, hf⟩
      have H1 := Lib.hid (H0.out.made noneR_stable (gr_frm hf))
      have Hf := Lib.hid hf
      clear hf
      have hbx := H1.out.box (k := w.heap.size) (o := .cells #[.int .i64 a.at_, .int .i64 a.src, .int .i64 a.sent, .int .i64 a.no] 33) (by simp)
      have hby := H1.out.box (k := w.heap.size + 1) (o := .cells #[.int .i64 b.at_, .int .i64 b.src, .int .i64 b.sent, .int .i64 b.no] 33) (by simp)
      obtain ⟨p0, p1, p2, p3⟩ := cells4 hbx
      obtain ⟨q0, q1, q2, q3⟩ := cells4 hby
      clear hbx hby
      go_wp2_with fail
      refine (Hd.out _).mono ?_
      rintro e w2 ⟨rfl, hf⟩
      have Hg := Lib.hid hf
      clear hf p0 p1 p2 p3 q0 q1 q2 q3
      go_wp2
      go_ret
      exact ⟨rfl, gr_trans (gr_trans HF.out Hf.out) Hg.out⟩


instance : Inhabited Ent := ⟨zeroEnt⟩
def entCf (a b : Ent) : Int := a.k.cmp b.k
theorem ltOf_ent (a b : Ent) : ltOf entCf a b = a.k.lt b.k := cmp_neg a.k b.k
theorem swo_ent : Go.Sort.SWO (ltOf entCf) where
  irrefl x := by rw [ltOf_ent]; exact lt_irrefl _
  trans x y z h1 h2 := by rw [ltOf_ent] at *; exact lt_trans h1 h2
  ntrans x y z h1 h2 := by rw [ltOf_ent] at *; exact le_trans' h2 h1
set_option maxHeartbeats 400000 in
theorem cmp_gr (a b : Ent) (w : World) : Calls Try.prog 34 #[a.val, b.val] w (Grows (.int .i64 (entCf a b)) w) := by
  have hc := compare_gr a.k b.k
  unfold entCf
  generalize a.k.cmp b.k = c at hc
  have Hc := Lib.hid hc
  have HF := Lib.hid (gr_alloc (gr_alloc (gr_refl w) (.cells #[.int .i64 a.k.at_, .int .i64 a.k.src, .int .i64 a.k.sent, .int .i64 a.k.no, .int .i64 a.v] 68)) (.cells #[.int .i64 b.k.at_, .int .i64 b.k.src, .int .i64 b.k.sent, .int .i64 b.k.no, .int .i64 b.v] 68))
  clear hc
  go_enter Try.func34, Try.ntmps34
  go_wp2_with fail
  refine (Hc.out _).mono ?_
  rintro e w1 ⟨rfl, hf⟩
  have Hf := Lib.hid hf
  clear hf
  go_wp2_with fail
  go_ret
  exact ⟨rfl, gr_trans HF.out Hf.out⟩
theorem cmp_lays (blk off size : Nat) (w : World) : CmpLays Try.prog 34 #[] Ent.cells 5 entCf blk off size w := fun _ _ _ _ x y =>
  (cmp_gr x y _).mono fun _ _ ⟨he, os', hw⟩ => ⟨he, 0, os', hw⟩
section
variable {B : Nat} {w0 w : World} {Q R : World → List Nat → Prop} {L : List (Nat × Obj)}
/-- The row is sorted. -/
theorem sort_goes (hQ : Stable Q) {g n cap : Nat} {l S : List Ent} (h : Holds B w0 (sepR (rowR 68 5 (.slice (some ⟨g, 0, none⟩) n cap) n (flat Ent.cells l)) Q) w L) (hl : l.length = n) (hn : n ≤ 1000) (hp : l.Perm S) (hS : Srt S) :
    Calls Try.prog 33 #[.slice (some ⟨g, 0, none⟩) n cap, .func (.func 34) #[] #[]] w (Goes (.tuple #[]) B w0 (sepR (rowR 68 5 (.slice (some ⟨g, 0, none⟩) n cap) n (flat Ent.cells S)) Q) L) := by
  have hg : g < w.heap.size := by
    obtain ⟨_, _, hv, hg, _⟩ | h0 := (row_nil_or h.row).symm
    · simp only [Value.slice.injEq, Option.some.injEq, Addr.mk.injEq, and_true, true_and] at hv; omega
    · simp at h0
  have hrow : w.ownsRow 0 68 5 (.slice (some ⟨g, 0, none⟩) n cap) n (flat Ent.cells l.toArray.toList) := h.row
  have eg : ∀ args w, (callFunc 34 args).run Try.prog w = .ok (.enter 34 args) w := enters_of Try.func34 (by kernel_rfl) rfl
  have hcon := AnyQ.slices_SortFunc Try.sortEnt 5 Try.isAgg68 Try.sizeOf68 Ent.cells ent_len ent_one entCf swo_ent 34 #[] g 0 cap l.toArray w eg (cmp_lays g 0 _ w) (row_holdsK ent_len hrow (by simpa using hl)) hg (by simp; omega)
  rw [show l.toArray.size = n by simpa using hl] at hcon
  refine Calls.mono hcon ?_
  rintro e w' ⟨rfl, d', m, os, hpm, hso, rfl⟩
  obtain ⟨hd1, hd2⟩ := perm_list hpm (by simpa using hl)
  have hpair := sorted_list hso hd1
  have hds : d'.toList = S := by
    have hperm : d'.toList.Perm S := hd2.trans hp
    refine srt_unique ?_ hS hperm
    have hnd : (d'.toList.map Ent.k).Nodup := ((hperm.map Ent.k).nodup_iff).2 (srt_nodup hS)
    unfold Srt
    have hnd' : d'.toList.Pairwise fun a b => a.k ≠ b.k := by
      unfold List.Nodup at hnd
      rw [List.pairwise_map] at hnd
      exact hnd
    refine List.Pairwise.imp₂ (fun a b h1 h2 => ?_) hpair hnd'
    rw [ltOf_ent] at h1
    cases hlt : a.k.lt b.k
    · exact absurd (lt_total hlt h1) h2
    · rfl
  obtain ⟨F1, ⟨_, rfl⟩, _, _, hk⟩ := h.split hQ
  obtain ⟨r1, r2⟩ := sorted_row (m := m) (os := os) ent_len h.row hd1
  rw [hds] at r1
  exact ⟨rfl, hk _ _ _ ⟨r1, rfl⟩ r2 (fun k hk => .inl hk) (fun k hk => row_lt r1 k (by simpa using hk))⟩
set_option maxHeartbeats 1000000 in
theorem clone_goes (hR : Stable R) (h : Holds B w0 R w L) {a : Option Addr} {n cap : Nat} {l : List Ent} (hl : SlAt Ent.cells 5 w a n cap l) (hnil : a = none → n = 0 ∧ cap = 0) (hn : n ≤ 1000) :
    Calls Try.prog 30 #[.slice a n cap] w fun e w' => ∃ (a' : Option Addr) (c' : Nat), e = .returned (.slice a' n c') ∧ Holds B w0 (sepR (rowR 68 5 (.slice a' n c') n (flat Ent.cells l)) R) w' L := by
  have hl1 := hl.1
  have qT : ∀ (w : World) (a : Option Addr) (n c n' c' : Nat), (binOp .eql 62 (.slice a n c) (.slice none n' c')).run Try.prog w = .ok (.bool a.isNone) w := fun w a n c n' c' => Lib.run_eql_slice_nil w _ _ a n c n' c' Try.underlying62
  cases a with
  | none =>
    obtain ⟨rfl, rfl⟩ := hnil rfl
    have hle : l = [] := List.eq_nil_of_length_eq_zero hl1
    subst hle
    have H0 := Lib.hid (h.nilRow 68 5)
    clear hl hl1 hnil h
    go_enter Try.func30, Try.ntmps30
    go_wp2_with fail
    go_ret
    exact ⟨none, 0, rfl, H0.out⟩
  | some ad =>
    have Hl := Lib.hid (hl.frm ((Frm.refl [] w).alloc (.cells #[] 68)))
    have hf0 := h.empty
    have h0 : Holds B w0 (sepR (rowR 68 5 (.slice (some ⟨w.heap.size, 0, none⟩) 0 0) 0 []) R) (w.alloc (.cells #[] 68)) L := by
      obtain ⟨F1, _, _, _, hk⟩ := hf0.split hR
      refine hk _ _ [w.heap.size] ⟨⟨by simp, .inr ⟨w.heap.size, 0, #[], rfl, Nat.zero_le _, obj_new w _, Nat.le_refl _, Nat.zero_le _, by simp, by simp⟩⟩, rfl⟩ ((Frm.refl _ _).alloc _) (fun k hk => .inr ?_) (fun k hk => ?_)
      · simp at hk; omega
      · simp at hk; subst hk; simp
    have H0 := Lib.hid h0
    have Hnil := Lib.hid hnil
    clear hl hl1 hnil h hf0 h0
    go_enter Try.func30, Try.ntmps30
    go_wp2_with (at_builtin; refine Stop.of ?_)
    refine Stop.go ?_
    obtain ⟨i1, hj0, hj1, hj2, hj3⟩ := info_parts infoEntry
    refine wpList_append_sl _ rfl _ _ 62 rfl 68 i1 (.agg #[.int .i64 0, .int .i64 0, .int .i64 0, .int .i64 0, .int .i64 0]) 5 40 Try.underlying62 hj0 hj1 hj2 hj3 rfl (by decide) (.slice (some ⟨w.heap.size, 0, none⟩) 0 0) 0 [] rfl H0.out.row (some ad) n cap l rfl Hl.out Hnil.out ent_len ent_one (by unfold maxLen; omega) (by omega) ?_
    intro a3 c3 w3 hown hF hnew
    have hs1 := H0.out.appended hR hown hF hnew
    simp only [Nat.zero_add, List.nil_append] at hs1
    have HS1 := Lib.hid hs1
    clear hown hF hnew hs1 hj0 hj1 hj2 hj3
    go_wp2_with fail
    go_ret
    exact ⟨a3, c3, by first | rfl | simp, HS1.out⟩

/-- What All answers: a function that has a box with the things in order. -/
def AllDoes (B : Nat) (w0 : World) (Q : World → List Nat → Prop) (L : List (Nat × Obj)) (b : Nat) (S : List Ent) (e : Ending) (w' : World) : Prop :=
  ∃ (bx : Nat) (a : Option Addr) (c : Nat), e = .returned (.func (.func 35) #[] #[.pointer (some ⟨bx, 0, none⟩)]) ∧
    Holds B w0 (sepR (boxR bx #[.slice a S.length c] 62) (sepR (rowR 68 5 (.slice a S.length c) S.length (flat Ent.cells S)) (sepR (heapR b S) Q))) w' L

theorem sort_none (w : World) (fv : Value) : Calls Try.prog 33 #[.slice none 0 0, fv] w fun e w' => e = .returned (.tuple #[]) ∧ w' = w :=
  AnyF.slices_SortFunc_none (P := Try.prog) (ρ := Try.sortEnt_ren) { Try.sortEnt with } none 0 fv w

set_option maxHeartbeats 2000000 in
theorem all_goes (hQ : Stable Q) {b : Nat} {S : List Ent} (h : Holds B w0 (sepR (heapR b S) Q) w L) (hn : S.length ≤ 200) :
    Calls Try.prog 15 #[.pointer (some ⟨b, 0, none⟩)] w (AllDoes B w0 Q L b S) := by
  have hs := sepR_stable (heapR_stable b S) hQ
  obtain ⟨l, hfit, h0⟩ := h.heapOpen
  obtain ⟨ev, M, D, hp, h1⟩ := h0.rawOpen
  obtain ⟨c0, c1, f0, hb⟩ := h1.hCell0
  have hrow := h1.hRow.row
  obtain ⟨a0, cap0, rfl⟩ := row_slice hrow
  have hlen := hfit.len
  have hnil : a0 = none → l.length = 0 ∧ cap0 = 0 := fun ha => by
    rcases row_nil_or hrow with ⟨h2, h3⟩ | ⟨g, cap, h2, _⟩
    · simp only [Value.slice.injEq] at h2; exact ⟨h3, h2.2.2⟩
    · simp only [Value.slice.injEq] at h2; rw [ha] at h2; exact absurd h2.1 (by simp)
  have hcl := clone_goes hs h (SlAt.of_row ent_len hrow rfl) hnil (by omega)
  have Hcl := Lib.hid hcl
  have Hfit := Lib.hid hfit
  have Hlen := Lib.hid hlen
  have hln : l.length ≤ 200 := by omega
  clear h h0 h1 hp hrow hnil hcl hfit c1 f0 hlen
  go_enter Try.func15, Try.ntmps15
  go_wp2_with fail
  refine Hcl.out.mono ?_
  rintro e w1 ⟨a1, c1, rfl, h2⟩
  have hs2 : Stable (sepR (rowR 68 5 (.slice a1 l.length c1) l.length (flat Ent.cells l)) (sepR (heapR b S) Q)) := sepR_stable (rowR_stable _ _ _ _ _) hs
  have h3 := h2.newBox hs2 #[.slice a1 l.length c1] 62
  have hbx := cells1 h3.theBox
  have z0 := lt_of_obj h3.theBox
  rcases row_nil_or h2.row with ⟨hv, h0⟩ | ⟨g, cc, hv, _, hnc, _⟩
  · simp only [Value.slice.injEq] at hv
    obtain ⟨rfl, _, rfl⟩ := hv
    have hle : l = [] := List.eq_nil_of_length_eq_zero h0
    subst hle
    have hSe : S = [] := List.eq_nil_of_length_eq_zero (by rw [← Hlen.out]; rfl)
    subst hSe
    have H3 := Lib.hid h3
    clear h2 h3 Hcl h0
    simp only [List.length_nil] at hbx ⊢
    go_wp2_with fail
    refine (sort_none _ _).mono ?_
    rintro e w2 ⟨rfl, rfl⟩
    go_wp2_with fail
    go_ret
    exact ⟨_, none, 0, rfl, H3.out⟩
  · simp only [Value.slice.injEq] at hv
    obtain ⟨rfl, _, rfl⟩ := hv
    have hso := sort_goes (sepR_stable (boxR_stable _ _ _) hs) (h3.conv Conv.exch) rfl (by omega) Hfit.out.perm Hfit.out.srt
    have Hso := Lib.hid hso
    clear h2 h3 Hcl hso
    go_wp2_with fail
    refine Hso.out.mono ?_
    rintro e w2 ⟨rfl, h4⟩
    have H4 := Lib.hid (h4.conv Conv.exch)
    clear h4 Hso
    go_wp2_with fail
    go_ret
    have h5 := H4.out
    rw [Hlen.out] at h5
    exact ⟨_, _, _, rfl, h5⟩
end
end Go.Proofs.Ytclaicpnjllhjaa
