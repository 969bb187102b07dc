/- KeysLeast, walked. -/
import Derived.Test.YtagldjlaagphlaaKeysAwake
namespace Go.Proofs.Ytagldjlaagphlaa
open Go.RowKit Go.Maps

theorem mn_le_left (x y : Int) : mn x y ≤ x := by unfold mn; split <;> omega
theorem mn_le_right (x y : Int) : mn x y ≤ y := by unfold mn; split <;> omega
theorem mn_or (x y : Int) : mn x y = x ∨ mn x y = y := by unfold mn; split <;> simp
theorem foldBy_le (f : Mv → Int) : ∀ (l : List Mv) (a : Int), foldBy f a l ≤ a ∧ ∀ x ∈ l, foldBy f a l ≤ f x
  | [], a => ⟨Int.le_refl _, by simp⟩
  | m :: l, a => by
    have h := foldBy_le f l (mn a (f m))
    have h1 := mn_le_left a (f m)
    have h2 := mn_le_right a (f m)
    have he : foldBy f a (m :: l) = foldBy f (mn a (f m)) l := rfl
    rw [he]
    refine ⟨by omega, fun x hx => ?_⟩
    rcases List.mem_cons.1 hx with rfl | hx
    · omega
    · exact h.2 x hx
theorem foldBy_mem (f : Mv → Int) : ∀ (l : List Mv) (a : Int), foldBy f a l = a ∨ ∃ x ∈ l, foldBy f a l = f x
  | [], a => .inl rfl
  | m :: l, a => by
    have he : foldBy f a (m :: l) = foldBy f (mn a (f m)) l := rfl
    rw [he]
    rcases foldBy_mem f l (mn a (f m)) with h | ⟨x, hx, h⟩
    · rcases mn_or a (f m) with h1 | h1
      · exact .inl (h.trans h1)
      · exact .inr ⟨m, by simp, h.trans h1⟩
    · exact .inr ⟨x, by simp [hx], h⟩
theorem leastBy_le {f : Mv → Int} {l : List Mv} {x : Mv} (h : x ∈ l) : leastBy f l ≤ f x := by
  cases l with
  | nil => simp at h
  | cons m l =>
    have h1 := foldBy_le f l (f m)
    rcases List.mem_cons.1 h with rfl | h
    · exact h1.1
    · exact h1.2 x h
theorem leastBy_mem {f : Mv → Int} {l : List Mv} (h : 0 < l.length) : ∃ x ∈ l, leastBy f l = f x := by
  cases l with
  | nil => simp at h
  | cons m l =>
    rcases foldBy_mem f l (f m) with h1 | ⟨x, hx, h1⟩
    · exact ⟨m, by simp, h1⟩
    · exact ⟨x, by simp [hx], h1⟩
theorem leastBy_append (f : Mv → Int) {l m : List Mv} (hl : 0 < l.length) (hm : 0 < m.length) : leastBy f (l ++ m) = mn (leastBy f l) (leastBy f m) := by
  obtain ⟨x, hx, ex⟩ := leastBy_mem (f := f) hl
  obtain ⟨y, hy, ey⟩ := leastBy_mem (f := f) hm
  obtain ⟨z, hz, ez⟩ := leastBy_mem (f := f) (l := l ++ m) (by simp; omega)
  have h1 := leastBy_le (f := f) (l := l ++ m) (x := x) (by simp [hx])
  have h2 := leastBy_le (f := f) (l := l ++ m) (x := y) (by simp [hy])
  unfold mn
  rcases List.mem_append.1 hz with hz | hz
  · have h3 := leastBy_le (f := f) hz
    split <;> omega
  · have h3 := leastBy_le (f := f) hz
    split <;> omega
theorem leastBy_sub (f : Mv → Int) {l s : List Mv} (hs : ∀ x ∈ s, x ∈ l) (h0 : 0 < s.length) : leastBy f l ≤ leastBy f s := by
  obtain ⟨x, hx, ex⟩ := leastBy_mem (f := f) h0
  rw [ex]
  exact leastBy_le (hs x hx)
theorem leftOf_mem {l : List Mv} : ∀ x ∈ leftOf l, x ∈ l := fun _ h => (List.mem_filter.1 h).1
theorem settled_mem {l : List Mv} : ∀ x ∈ settled l, x ∈ l := fun x h => by
  unfold settled at h
  split at h
  · simp at h
  · exact leftOf_mem x h
theorem settled_len (l : List Mv) : (settled l).length ≤ l.length := by
  unfold settled
  split
  · simp
  · exact List.length_filter_le _ _

def LawTrue (w : World) (e : Ending) (w' : World) : Prop := e = .returned (.bool true) ∧ Below w.heap.size w w'

set_option maxHeartbeats 1000000 in
theorem kleast_out (w : World) (a1 : Option Addr) (n1 c1 : Nat) (a2 : Option Addr) (n2 c2 : Nat) (h : 30 < n1 ∨ 30 < n2 ∨ n1 = 0 ∨ n2 = 0) : Calls Try.prog 9 #[.slice a1 n1 c1, .slice a2 n2 c2] w (LawTrue w) := by
  by_cases h1 : 30 < n1
  · go_enter Try.func9, Try.ntmps9
    go_wp2_with fail
    refine (awake_any _).mono ?_
    rintro e w1 ⟨rfl, hf⟩
    go_wp2_with fail
    go_ret
    exact ⟨rfl, hf.below (Nat.le_refl _) (by simp)⟩
  by_cases h2 : 30 < n2
  · go_enter Try.func9, Try.ntmps9
    go_wp2_with fail
    refine (awake_any _).mono ?_
    rintro e w1 ⟨rfl, hf⟩
    go_wp2_with fail
    go_ret
    exact ⟨rfl, hf.below (Nat.le_refl _) (by simp)⟩
  by_cases h3 : n1 = 0
  · subst h3
    clear h
    go_enter Try.func9, Try.ntmps9
    go_wp2_with fail
    refine (awake_any _).mono ?_
    rintro e w1 ⟨rfl, hf⟩
    go_wp2_with fail
    go_ret
    exact ⟨rfl, hf.below (Nat.le_refl _) (by simp)⟩
  obtain rfl : n2 = 0 := by omega
  have h3' : (n1 == 0) = false := by simpa using h3
  have h3'' : ((n1 : Int) == 0) = false := by simp; omega
  clear h h3
  go_enter Try.func9, Try.ntmps9
  go_wp2_with fail
  refine (awake_any _).mono ?_
  rintro e w1 ⟨rfl, hf⟩
  go_wp2_with fail
  go_ret
  exact ⟨rfl, hf.below (Nat.le_refl _) (by simp)⟩

attribute [local go_sem high] run_mn in
set_option maxHeartbeats 2000000 in
set_option maxRecDepth 100000 in
theorem kleast_in (w : World) (a1 : Option Addr) (n1 c1 : Nat) (l : List Mv) (a2 : Option Addr) (n2 c2 : Nat) (m : List Mv) (hl : MsgsAt w a1 n1 c1 l) (hm : MsgsAt w a2 n2 c2 m) (h1 : 0 < n1) (h2 : n1 ≤ 30) (h3 : 0 < n2) (h4 : n2 ≤ 30) :
    Calls Try.prog 9 #[.slice a1 n1 c1, .slice a2 n2 c2] w (LawTrue w) := by
  obtain ⟨b1, o1, _, rfl, hb1, _⟩ := hl.at_ h1
  obtain ⟨b2, o2, _, rfl, hb2, _⟩ := hm.at_ h3
  have hl1 := hl.1
  have hm1 := hm.1
  have Hl := Lib.hid hl
  have Hm := Lib.hid hm
  have Hl1 := Lib.hid hl1
  have Hm1 := Lib.hid hm1
  have g1 : (n1 == 0) = false := by simp; omega
  have g1' : ((n1 : Int) == 0) = false := by simp; omega
  have g2 : (n2 == 0) = false := by simp; omega
  have g2' : ((n2 : Int) == 0) = false := by simp; omega
  have gc1 := hl.2.1
  have gc2 := hm.2.1
  clear hl hm hl1 hm1
  go_enter Try.func9, Try.ntmps9
  go_wp2_with (at_builtin; refine Stop.of ?_)
  refine Stop.go ?_
  obtain ⟨i1, hj0, hj1, hj2, hj3⟩ := info_parts infoMessage
  have hs0 := (Holds.start w).nilRow 51 8
  refine wpList_append_foot _ rfl _ _ 43 rfl 51 i1 (.agg #[.int .i64 0, .int .i64 0, .int .i64 0, .int .i64 0, .int .i64 0, .int .i64 0, .int .i64 0, .bool false]) 8 64 Try.underlying43 hj0 hj1 hj2 hj3 rfl (by decide) (.slice none 0 0) 0 [] rfl hs0.row ⟨b1, o1, none⟩ n1 c1 (msgCells l) rfl (by rw [msgCells_length, Hl1.out]) Hl.out.news (msgCells_one l) (by unfold maxLen; omega) (by omega) ?_
  intro a3 c3 w3 hown hF hnew
  have hs1 := hs0.appended noneR_stable hown hF hnew
  simp only [Nat.zero_add, List.nil_append] at hs1
  have HS1 := Lib.hid hs1
  clear hown hF hnew hs0 hs1
  go_wp2_with (at_builtin; refine Stop.of ?_)
  refine Stop.go ?_
  have hs1 := HS1.out
  have hm2 := Hm.out.frm (Frm.of_below HS1.out.below (Nat.le_refl _))
  refine wpList_append_foot _ rfl _ _ 43 rfl 51 i1 (.agg #[.int .i64 0, .int .i64 0, .int .i64 0, .int .i64 0, .int .i64 0, .int .i64 0, .int .i64 0, .bool false]) 8 64 Try.underlying43 hj0 hj1 hj2 hj3 rfl (by decide) (.slice a3 n1 c3) n1 (msgCells l) rfl hs1.row ⟨b2, o2, none⟩ n2 c2 (msgCells m) rfl (by rw [msgCells_length, Hm1.out]) hm2.news (msgCells_one m) (by unfold maxLen; omega) (by omega) ?_
  intro a4 c4 w4 hown hF hnew
  have hs2 := hs1.appended noneR_stable hown hF hnew
  rw [← msgCells_append] at hs2
  obtain ⟨g4, cc4, hv4, _, hn4, hcc4⟩ := row_some hs2.row (by omega)
  simp only [Value.slice.injEq] at hv4
  obtain ⟨rfl, _, rfl⟩ := hv4
  have HS2 := Lib.hid hs2
  clear hown hF hnew hs1 hs2 hm2 hj0 hj1 hj2 hj3
  have hst : Stable (sepR (rowR 51 8 (.slice (some ⟨g4, 0, none⟩) (n1 + n2) c4) (n1 + n2) (msgCells (l ++ m))) noneR) := sepR_stable (rowR_stable _ _ _ _ _) noneR_stable
  have hwf : ∀ x ∈ l ++ m, x.Wf := fun x hx => by
    rcases List.mem_append.1 hx with h | h
    · exact Hl.out.2.2.2.1 x h
    · exact Hm.out.2.2.2.1 x h
  have hlm : (l ++ m).length = n1 + n2 := by rw [List.length_append, Hl1.out, Hm1.out]
  have hx := leastBy_append Mv.at' (l := l) (m := m) (by rw [Hl1.out]; exact h1) (by rw [Hm1.out]; exact h3)
  have hy := leastBy_append Mv.sent' (l := l) (m := m) (by rw [Hl1.out]; exact h1) (by rw [Hm1.out]; exact h3)
  have c1' := fun w' (h : MsgsAt w' _ n1 c1 l) => least_any w' b1 o1 n1 c1 l h h1 (by omega)
  have c2' := fun w' (h : MsgsAt w' _ n2 c2 m) => least_any w' b2 o2 n2 c2 m h h3 (by omega)
  have c3' := fun w' (h : MsgsAt w' _ (n1 + n2) c4 (l ++ m)) => least_any w' g4 0 (n1 + n2) c4 (l ++ m) h (by omega) (by omega)
  rw [hx, hy] at c3'
  generalize hA : leastBy Mv.at' l = A at c1' c3' hx
  generalize hB : leastBy Mv.sent' l = B at c1' c3' hy
  generalize hC : leastBy Mv.at' m = C at c2' c3' hx
  generalize hD : leastBy Mv.sent' m = D at c2' c3' hy
  have C1 := Lib.hid c1'
  have C2 := Lib.hid c2'
  have C3 := Lib.hid c3'
  have Hx := Lib.hid hx
  have Hy := Lib.hid hy
  have Hwf := Lib.hid hwf
  have Hlm := Lib.hid hlm
  clear c1' c2' c3' hx hy hwf hlm hA hB hC hD
  go_wp2_with fail
  refine (C1.out _ (Hl.out.frm (Frm.of_below HS2.out.below (Nat.le_refl _)))).mono ?_
  rintro e w5 ⟨rfl, hf⟩
  have HS5 := Lib.hid (HS2.out.made hst hf)
  clear hf
  go_wp2_with fail
  refine (C2.out _ (Hm.out.frm (Frm.of_below HS5.out.below (Nat.le_refl _)))).mono ?_
  rintro e w6 ⟨rfl, hf⟩
  have HS6 := Lib.hid (HS5.out.made hst hf)
  clear hf
  go_wp2_with fail
  refine (C3.out _ (MsgsAt.of_row HS6.out.row Hlm.out Hwf.out)).mono ?_
  rintro e w7 ⟨rfl, hf⟩
  have HS7 := Lib.hid (HS6.out.made hst hf)
  clear hf
  obtain ⟨s, hs⟩ : ∃ s, settled (l ++ m) = s := ⟨_, rfl⟩
  obtain ⟨er, her⟩ : ∃ er, errOf (l ++ m) = er := ⟨_, rfl⟩
  have hsub : ∀ x ∈ s, x ∈ l ++ m := by rw [← hs]; exact settled_mem
  have hsl : s.length ≤ n1 + n2 := by rw [← hs, ← Hlm.out]; exact settled_len _
  have Hs := Lib.hid hs
  have Her := Lib.hid her
  have Hsub := Lib.hid hsub
  clear hs her hsub
  go_wp2_with fail
  refine (settle_goes hst HS7.out (MsgsAt.of_row HS7.out.row Hlm.out Hwf.out) (by omega) Hs.out Her.out).mono ?_
  rintro e w8 ⟨a5, c5, rfl, h8⟩
  have HS8 := Lib.hid h8
  clear h8
  have hst8 : Stable (sepR (rowR 51 8 (.slice a5 s.length c5) s.length (msgCells s)) (sepR (rowR 51 8 (.slice (some ⟨g4, 0, none⟩) (n1 + n2) c4) (n1 + n2) (msgCells (l ++ m))) noneR)) := sepR_stable (rowR_stable _ _ _ _ _) hst
  by_cases hcl : clash (l ++ m) = true
  · have h9 := settle_bad hcl
    rw [Hs.out, Her.out] at h9
    obtain ⟨rfl, rfl⟩ := h9
    clear hcl
    simp only [List.length_nil] at HS8 hst8 ⊢
    go_wp2_with fail
    refine (awake_any _).mono ?_
    rintro e w9 ⟨rfl, hf⟩
    go_wp2_with fail
    go_ret
    exact ⟨rfl, (HS8.out.made hst8 hf).below⟩
  · have h9 := settle_good (by simpa using hcl)
    rw [Her.out] at h9
    obtain ⟨_, rfl⟩ := h9
    clear hcl
    by_cases hs0 : s.length = 0
    · obtain rfl : s = [] := List.eq_nil_of_length_eq_zero hs0
      simp only [List.length_nil] at HS8 hst8 ⊢
      clear hs0
      go_wp2_with fail
      refine (awake_any _).mono ?_
      rintro e w9 ⟨rfl, hf⟩
      go_wp2_with fail
      go_ret
      exact ⟨rfl, (HS8.out.made hst8 hf).below⟩
    · have gs : (s.length == 0) = false := by simpa using hs0
      have gs' : ((s.length : Int) == 0) = false := by rw [beq_eq_false_iff_ne]; omega
      obtain ⟨g5, cc5, hv5, _, _, _⟩ := row_some HS8.out.row (by omega)
      simp only [Value.slice.injEq] at hv5
      obtain ⟨rfl, _, rfl⟩ := hv5
      have hp := leastBy_sub Mv.at' Hsub.out (by omega)
      have hq := leastBy_sub Mv.sent' Hsub.out (by omega)
      rw [Hx.out] at hp
      rw [Hy.out] at hq
      have c8 := fun w' (h : MsgsAt w' _ s.length c5 s) => least_any w' g5 0 s.length c5 s h (by omega) (by omega)
      generalize leastBy Mv.at' s = P at c8 hp
      generalize leastBy Mv.sent' s = Q at c8 hq
      have hpd : decide (mn A C ≤ P) = true := decide_eq_true hp
      have hqd : decide (mn B D ≤ Q) = true := decide_eq_true hq
      have C8 := Lib.hid c8
      clear c8 hs0
      go_wp2_with fail
      refine (C8.out _ (MsgsAt.of_row HS8.out.row rfl (fun x hx => Hwf.out x (Hsub.out x hx)))).mono ?_
      rintro e w9 ⟨rfl, hf⟩
      have HS9 := Lib.hid (HS8.out.made hst8 hf)
      clear hf
      go_wp2_with fail
      refine (awake_any _).mono ?_
      rintro e w10 ⟨rfl, hf⟩
      go_wp2_with fail
      go_ret
      exact ⟨rfl, (HS9.out.made hst8 hf).below⟩
end Go.Proofs.Ytagldjlaagphlaa
