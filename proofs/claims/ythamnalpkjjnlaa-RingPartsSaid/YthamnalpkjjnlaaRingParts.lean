/- RingParts, walked. -/
import Derived.Test.YthamnalpkjjnlaaRingAgain
import Derived.Test.YthamnalpkjjnlaaRingCopies
namespace Go.Proofs.Ythamnalpkjjnlaa
open Go.RowKit Go.Shelf Go.Maps
attribute [local go_sem] Oper.semAt_some

/-- append inside a fence: in which block the new row lies, too. -/
theorem wpListIn_append_foot {F : Fence} {n : Nat} {P : Program} (w : World) {ops : Array Oper} {rest : List Oper} {o : Oper} {a : Act} {Q : Exit → Act → World → Prop} (hgd : o.guard = none) (s x : Operand) (t : TypeId)
    (ho : o.op = .call { callee := .builtin .append, args := #[s, x], argTypes := #[t, t] })
    (e : TypeId) (i : TypeInfo) (z : Value) (size bytes : Nat) (ht : P.underlying t = some (.slice e)) (hi : P.info? e = some i) (hz : i.zero = some z)
    (hsize : i.size = size) (hby : i.bytes = bytes) (hzs : z.cells.size = size) (hsz : 0 < size)
    (v : Value) (k : Nat) (xs : List Value) (hs : a.eval s = v) (hown : w.ownsRow 0 e size v k xs)
    (ad : Addr) (m c : Nat) (news : List Value) (hx : a.eval x = .slice (some ad) m c) (hl : news.length = m * size) (hnews : ∀ j u, news[j]? = some u → w.cell? (ad.add j) = some u) (h1 : ∀ u ∈ news, u.oneCell' = true)
    (h63 : k + m ≤ maxLen) (hbytes : (k + m) * bytes ≤ 140737488355328)
    (h : ∀ (a' : Option Addr) (c' : Nat) (w' : World), w'.ownsRow 0 e size (.slice a' (k + m) c') (k + m) (xs ++ news) → Frm v.ownBlock.toList w w' → (∀ j, (Value.slice a' (k + m) c').ownBlock = some j → v.ownBlock = some j ∨ w.heap.size ≤ j) → wpListIn F n P ops Q rest (a.put o.dst (.slice a' (k + m) c')) w') : wpListIn F n P ops Q (o :: rest) a w := by
  refine wpListIn_plain hgd fun K hK' => ?_
  obtain ⟨v', w', hr, h2, h3, h4⟩ := run_append_foot (P := P) w t o.type e i z size bytes ht hi hz hsize hby hzs hsz v k xs hown ad m c news hl hnews h1 h63 hbytes
  unfold Oper.wpIn
  refine ⟨?_, ?_⟩
  · simp [Oper.about, ho, resolve, Target.leads, Sem.run_pure]
  · rw [Oper.semAt_plain F _ _ (by rw [ho]; intro c hc'; cases hc')]
    simp [execOp, ho, resolve, invoke, builtin, hs, hx, hr, Result.andThen]
    obtain ⟨a', c', rfl⟩ := row_slice h2
    exact hK' _ _ (h a' c' w' h2 h3 h4)

theorem row_cells {w : World} {e : TypeId} {size : Nat} {v : Value} {n : Nat} {xs : List Value} (h : w.ownsRow 0 e size v n xs) {k : Nat} (hk : v.ownBlock = some k) : ∃ c t f, w.heap[k]? = some (.cells c t f) := by
  rcases h.2 with ⟨h0, _⟩ | ⟨g, cap, cur, rfl, _, hg, _⟩
  · subst h0; cases hk
  · have : g = k := by simpa [Value.ownBlock] using hk
    subst this
    exact ⟨_, _, _, hg⟩
theorem keeps_frm {w w' : World} {e : TypeId} {size : Nat} {v : Value} {n : Nat} {xs : List Value} (h : w.ownsRow 0 e size v n xs) (hf : Frm v.ownBlock.toList w w') : KeepsOthers w w' :=
  ⟨hf.size, fun k o hk ho => (hf.block k (lt_of_obj hk) (fun hm => by
    obtain ⟨c, t, f, hc⟩ := row_cells h (k := k) (by simpa using hm)
    rw [hk] at hc
    cases hc
    cases ho)).trans hk⟩
/-- What was made beside what is held, with boxes, is held, too. -/
theorem Holds.joinL {R R' : World → List Nat → Prop} {B : Nat} {w0 w w' : World} {L L' : List (Nat × Obj)} (hR : Stable R) (h : Holds B w0 R w L) (h' : Holds w.heap.size w R' w' L') (hL : ∀ p ∈ L', w.heap.size ≤ p.1) : Holds B w0 (sepR R' R) w' (L' ++ L) := by
  obtain ⟨F', h1, hb, hlo, hle⟩ := h'
  have hf : Frm [] w w' := Frm.of_below hb (Nat.le_refl _)
  have hm := h.made hR hf
  obtain ⟨F, h2, _, h3, h4⟩ := h
  obtain ⟨_, h5, h6, _, _⟩ := hm
  have hR' : R w' F := hR [] w w' F h2.res hf (by simp)
  have hlt : ∀ k ∈ F, k < w'.heap.size := fun k hk => Nat.lt_of_lt_of_le (h2.lt k hk) hle
  refine ⟨F' ++ F, ⟨⟨F', F, h1.res, hR', fun k hk hm => ?_, h1.lt, hlt, rfl⟩, fun k hk => ?_, fun p hp => ?_⟩, h6, fun k hk => ?_, Nat.le_trans h4 hle⟩
  · have := hlo k hk; have := h2.lt k hm; omega
  · rcases List.mem_append.1 hk with h | h
    · exact h1.lt k h
    · exact hlt k h
  · rcases List.mem_append.1 hp with hp | hp
    · refine ⟨(h1.box p hp).1, fun hm => ?_⟩
      rcases List.mem_append.1 hm with h | h
      · exact (h1.box p hp).2 h
      · have := h2.lt _ h; have := hL p hp; omega
    · refine ⟨hf.obj (h2.box p hp).1 (by simp), fun hm => ?_⟩
      rcases List.mem_append.1 hm with h | h
      · have := hlo _ h; have := lt_of_obj (h2.box p hp).1; omega
      · exact (h2.box p hp).2 h
  · rcases List.mem_append.1 hk with h | h
    · have := hlo k h; omega
    · exact h3 k h

/-- What the range has told so far: two rows, and the boxes that they hang on. -/
abbrev ptR (t2 t1 : Value) (m : Nat) (pre : List It) : World → List Nat → Prop := sepR (intR t2 m (timesOf pre)) (sepR (intR t1 m (valsOf pre)) noneR)
abbrev ptL (Wp : World) (t2 t1 : Value) : List (Nat × Obj) := [(Wp.heap.size + 1, .cells #[t2] 46), (Wp.heap.size, .cells #[t1] 46)]
def PartI (Wp : World) (pre : List It) (W : World) : Prop :=
  ∃ (m : Nat) (a1 : Option Addr) (c1 : Nat) (a2 : Option Addr) (c2 : Nat), pre.length = m ∧ Holds Wp.heap.size Wp (ptR (.slice a2 m c2) (.slice a1 m c1) m pre) W (ptL Wp (.slice a2 m c2) (.slice a1 m c1))
theorem ptR_stable (t2 t1 : Value) (m : Nat) (pre : List It) : Stable (ptR t2 t1 m pre) := sepR_stable (rowR_stable _ _ _ _ _) (sepR_stable (rowR_stable _ _ _ _ _) noneR_stable)
theorem partI_own (Wp : World) (B : Nat) (hB : Wp.heap.size ≤ B) : OwnFrom B (PartI Wp) := by
  rintro pre X Y row ⟨m, a1, c1, a2, c2, hm, h⟩ hg hr
  refine ⟨m, a1, c1, a2, c2, hm, h.grown (ptR_stable _ _ _ _) hg (fun k hk => ?_)⟩
  obtain ⟨h1, o, ho, hc⟩ := hr k hk
  refine ⟨by omega, fun p hp e => ?_, fun F hF hmF => ?_⟩
  · have hb := h.box (k := p.1) (o := p.2) hp
    rw [e, ho] at hb
    simp only [ptL, List.mem_cons, List.not_mem_nil, or_false] at hp
    rcases hp with rfl | rfl
    · cases hb; cases hc
    · cases hb; cases hc
  · obtain ⟨F1, F2, ⟨hr1, rfl⟩, ⟨F3, F4, ⟨hr2, rfl⟩, h4, _, _, _, rfl⟩, _, _, _, rfl⟩ := hF
    have h5 : F4 = [] := h4
    subst h5
    simp only [List.append_nil, List.mem_append] at hmF
    rcases hmF with hm1 | hm1
    · obtain ⟨c, t, f, hcc⟩ := row_cells hr1 (k := k) (by simpa using hm1)
      rw [ho] at hcc; cases hcc; cases hc
    · obtain ⟨c, t, f, hcc⟩ := row_cells hr2 (k := k) (by simpa using hm1)
      rw [ho] at hcc; cases hcc; cases hc
/-- A row that is held lies above what was there. -/
theorem Holds.rowAbove {Q : World → List Nat → Prop} {B : Nat} {w0 w : World} {L : List (Nat × Obj)} {e : TypeId} {size : Nat} {v : Value} {n : Nat} {xs : List Value} (h : Holds B w0 (sepR (rowR e size v n xs) Q) w L) : ∀ k ∈ v.ownBlock.toList, B ≤ k := by
  obtain ⟨F, h, _, h2, _⟩ := h
  obtain ⟨F1, F2, ⟨_, rfl⟩, _, _, _, _, rfl⟩ := h.res
  exact fun k hk => h2 k (List.mem_append_left _ hk)

theorem below_two {B : Nat} {w0 W W' : World} (h : Below B w0 W) (h' : Below B w0 W') (hs : W.heap.size ≤ W'.heap.size) : Below B W W' :=
  ⟨h'.os.trans h.os.symm, h'.tape.trans h.tape.symm, h'.output.trans h.output.symm, hs, fun k hk => (h'.block k hk).trans (h.block k hk).symm⟩
theorem not_rise {S pre : List It} {x y : It} (hS : Rise S) {q m : Nat} (hm : pre.length = m) (hq : q < m) (hy : pre[q]? = some y) (hlt : x.at_ < y.at_) : ¬ ∃ k, k ≤ S.length ∧ pre ++ [x] = S.take k := by
  rintro ⟨k, hk, he⟩
  have h1 : (pre ++ [x])[m]? = some x := by simp [← hm]
  have h2 : (pre ++ [x])[q]? = some y := by rw [List.getElem?_append_left (by omega)]; exact hy
  rw [he, List.getElem?_take] at h1 h2
  split at h1
  · split at h2
    · have := hS.get h2 h1 (by omega); omega
    · cases h2
  · cases h1
theorem flat_more (l : List Int) (v : Int) : flat intEnc l ++ [.int .i64 v] = flat intEnc (l ++ [v]) := by rw [flat_append]; rfl
theorem ptR_cells {t2 t1 : Value} {m : Nat} {pre : List It} {W : World} {k : Nat} {x : Obj} (ho : W.heap[k]? = some x) (hc : x.isCells = false) : ∀ F, ptR t2 t1 m pre W F → k ∉ F := by
  rintro F ⟨F1, F2, ⟨hr1, rfl⟩, ⟨F3, F4, ⟨hr2, rfl⟩, h4, _, _, _, rfl⟩, _, _, _, rfl⟩ hmF
  have h5 : F4 = [] := h4
  subst h5
  simp only [List.append_nil, List.mem_append] at hmF
  rcases hmF with hm1 | hm1
  · obtain ⟨c, t, f, hcc⟩ := row_cells hr1 (k := k) (by simpa using hm1)
    rw [ho] at hcc; cases hcc; cases hc
  · obtain ⟨c, t, f, hcc⟩ := row_cells hr2 (k := k) (by simpa using hm1)
    rw [ho] at hcc; cases hcc; cases hc
theorem Holds.addBox {R : World → List Nat → Prop} {B : Nat} {w0 w : World} {L : List (Nat × Obj)} (h : Holds B w0 R w L) {k : Nat} {o : Obj} (ho : w.heap[k]? = some o) (hn : ∀ F, R w F → k ∉ F) : Holds B w0 R w ((k, o) :: L) := by
  obtain ⟨F, h, r⟩ := h
  refine ⟨F, ⟨h.res, h.lt, fun p hp => ?_⟩, r⟩
  rcases List.mem_cons.1 hp with rfl | hp
  · exact ⟨ho, hn F h.res⟩
  · exact h.box p hp
theorem rev_at {S : List It} {k j p : Nat} {z : It} (hz : S[p]? = some z) (hp : p + j + 1 = S.length) (hk : k ≤ p) : (valsOf (S.drop k)).reverse[j]? = some z.v := by
  have hl : (valsOf (S.drop k)).length = S.length - k := by simp [valsOf]
  rw [List.getElem?_reverse (by omega), hl, valsOf, List.getElem?_map, List.getElem?_drop, show k + (S.length - k - 1 - j) = p by omega, hz]
  rfl
theorem row_some9 {w : World} {e : TypeId} {size n c : Nat} {a : Option Addr} {xs : List Value} (h : w.ownsRow 0 e size (.slice a n c) n xs) (h0 : 0 < n) : (∃ g, a = some ⟨g, 0, none⟩) ∧ n ≤ c := by
  rcases row_nil_or h with ⟨_, h00⟩ | ⟨g, cap, he, _, hcap, _⟩
  · omega
  · simp only [Value.slice.injEq] at he
    exact ⟨⟨g, he.1⟩, by omega⟩
set_option maxHeartbeats 2000000 in
set_option maxRecDepth 100000 in
theorem parts_out (w : World) (room : Int) (a1 : Option Addr) (n1 c1 : Nat) (t : Int) (h : room < 1 ∨ room > 40 ∨ 60 < n1) : Calls Try.prog 5 #[.int .i64 room, .slice a1 n1 c1, .int .i64 t] w (LawTrue w) := by
  have hg : room < 1 ∨ (¬ room < 1 ∧ 40 < room) ∨ (¬ room < 1 ∧ ¬ 40 < room ∧ 60 < n1) := by omega
  have H0 := Lib.hid ((Holds.start w).alloc noneR_stable (.cells #[.bool false] 4))
  clear h
  rcases hg with g1 | ⟨g1, g2⟩ | ⟨g1, g2, g3⟩
  · go_enter Try.func5, Try.ntmps5
    go_wp2_with fail
    refine (awake_any _).mono ?_
    rintro e v3 ⟨rfl, hf⟩
    have h2 := H0.out.made noneR_stable (Frm.of_below hf (Nat.le_refl _))
    have ob := h2.box (k := w.heap.size) (o := .cells #[.bool false] 4) (by simp)
    have u1 := cells1 ob
    have u0 : v3.frozen? ⟨w.heap.size, 0, none⟩ = false := frozen_of_obj ob 0
    have zu := lt_of_obj ob
    have H2 := Lib.hid h2
    have g9 := cells1 (obj_setCell ob 0 (.bool true))
    clear hf h2 ob
    go_wp2_with fail
    exact bodyPost_ret (v := .bool true) (by simp [results, Try.results5, go_sem, g9]) rfl ⟨rfl, H2.out.below.setCell (p := ⟨w.heap.size, 0, none⟩) (Nat.le_refl _) _⟩
  · go_enter Try.func5, Try.ntmps5
    go_wp2_with fail
    refine (awake_any _).mono ?_
    rintro e v3 ⟨rfl, hf⟩
    have h2 := H0.out.made noneR_stable (Frm.of_below hf (Nat.le_refl _))
    have ob := h2.box (k := w.heap.size) (o := .cells #[.bool false] 4) (by simp)
    have u1 := cells1 ob
    have u0 : v3.frozen? ⟨w.heap.size, 0, none⟩ = false := frozen_of_obj ob 0
    have zu := lt_of_obj ob
    have H2 := Lib.hid h2
    have g9 := cells1 (obj_setCell ob 0 (.bool true))
    clear hf h2 ob
    go_wp2_with fail
    exact bodyPost_ret (v := .bool true) (by simp [results, Try.results5, go_sem, g9]) rfl ⟨rfl, H2.out.below.setCell (p := ⟨w.heap.size, 0, none⟩) (Nat.le_refl _) _⟩
  · go_enter Try.func5, Try.ntmps5
    go_wp2_with fail
    refine (few_gt _ a1 n1 c1 g3).mono ?_
    rintro e w2 ⟨rfl, rfl⟩
    go_wp2_with fail
    refine (awake_any _).mono ?_
    rintro e v3 ⟨rfl, hf⟩
    have h2 := H0.out.made noneR_stable (Frm.of_below hf (Nat.le_refl _))
    have ob := h2.box (k := w.heap.size) (o := .cells #[.bool false] 4) (by simp)
    have u1 := cells1 ob
    have u0 : v3.frozen? ⟨w.heap.size, 0, none⟩ = false := frozen_of_obj ob 0
    have zu := lt_of_obj ob
    have H2 := Lib.hid h2
    have g9 := cells1 (obj_setCell ob 0 (.bool true))
    clear hf h2 ob
    go_wp2_with fail
    exact bodyPost_ret (v := .bool true) (by simp [results, Try.results5, go_sem, g9]) rfl ⟨rfl, H2.out.below.setCell (p := ⟨w.heap.size, 0, none⟩) (Nat.le_refl _) _⟩

abbrev paL (w : World) : List (Nat × Obj) := [(w.heap.size, .cells #[.bool false] 4)]
def PartRel (w : World) (A C room n : Nat) (iv : Value) (wr : World) : Prop :=
  ∃ (i : Nat) (S : List It), i ≤ n ∧ iv = .int .i64 (i : Int) ∧ S.length ≤ i ∧ Holds w.heap.size w (bothR A C room S noneR) wr (paL w)

/-- What there is behind Back and Front. -/
abbrev ptAll (A room m k na : Nat) (S : List It) (tv t1 lb la : Value) : World → List Nat → Prop :=
  sepR (intR lb k (valsOf (S.take k))) (sepR (ringR A room []) (sepR (intR la na (valsOf (S.drop k)).reverse) (ptR tv t1 m S)))
abbrev ptLL (w wp : World) (D : Nat) (tv t1 : Value) : List (Nat × Obj) := (D, .deferred (some [])) :: (wp.heap.size + 1, .cells #[tv] 46) :: (wp.heap.size, .cells #[t1] 46) :: paL w
theorem ptAll_stable (A room m k na : Nat) (S : List It) (tv t1 lb la : Value) : Stable (ptAll A room m k na S tv t1 lb la) := sepR_stable (rowR_stable _ _ _ _ _) (sepR_stable (ringR_stable _ _ _) (sepR_stable (rowR_stable _ _ _ _ _) (ptR_stable _ _ _ _)))
def PtRel (w wp : World) (D A room m k na : Nat) (S : List It) (tv t1 lb la : Value) (n : Nat) (iv : Value) (wr : World) : Prop :=
  ∃ j : Nat, j ≤ n ∧ iv = .int .i64 (j : Int) ∧ Holds w.heap.size w (ptAll A room m k na S tv t1 lb la) wr (ptLL w wp D tv t1)

set_option maxHeartbeats 8000000 in
set_option maxRecDepth 100000 in
theorem parts_in (w : World) (room : Nat) (h1 : 1 ≤ room) (h2 : room ≤ 40) (a1 : Option Addr) (n1 c1 : Nat) (l : List OpV) (hl : SlAt opEnc 3 w a1 n1 c1 l) (h3 : n1 ≤ 60) (t : Int) :
    Calls Try.prog 5 #[.int .i64 (room : Int), .slice a1 n1 c1, .int .i64 t] w (LawTrue w) := by
  have gc1 := hl.2.1
  have Hl := Lib.hid hl
  have g1 : decide ((room : Int) < 1) = false := by rw [decide_eq_false_iff_not]; omega
  have g2 : decide ((room : Int) > 40) = false := by rw [decide_eq_false_iff_not]; omega
  clear hl
  refine (callsIn_wide (n := 3)).1 ?_
  refine callsIn_of_wp_marks Try.func5 rfl trivial ?_ rfl
  simp only [Try.ntmps5, List.size_toArray, List.length_cons, List.length_nil, Nat.reduceAdd, Nat.reduceSub, Array.replicate_succ, Array.replicate_zero, List.push_toArray, List.append_toArray, List.nil_append, List.cons_append]
  refine wpIn_wide.2 ?_
  have H0 := Lib.hid ((Holds.start w).alloc noneR_stable (.cells #[.bool false] 4))
  go_wp2_with fail
  refine (few_le _ a1 n1 c1 h3).mono ?_
  rintro e w2 ⟨rfl, rfl⟩
  go_wp2_with fail
  refine (new_goes noneR_stable H0.out room h1 (by omega)).mono ?_
  rintro e w1 ⟨rfl, h5⟩
  obtain ⟨A, hA⟩ : ∃ A, (w.alloc (.cells #[.bool false] 4)).heap.size = A := ⟨_, rfl⟩
  rw [hA] at h5 ⊢
  have h6 := (h5.newRef (sepR_stable (ringR_stable _ _ _) noneR_stable) room).conv Conv.exch
  obtain ⟨C, hC⟩ : ∃ C, w1.heap.size = C := ⟨_, rfl⟩
  rw [hC] at h6
  have hloop : PartRel w A C room n1 (.int .i64 0) (w1.alloc (.cells #[.int .i64 (room : Int), .slice none 0 0] 32)) := ⟨0, [], Nat.zero_le _, rfl, Nat.le_refl _, h6⟩
  have Hloop := Lib.hid hloop
  have HC := Lib.hid hC
  clear hloop h5 h6 hA hC H0
  go_wp2_with fail
  simp only [HC.out]
  go_loopw [10] (fun iv wr => PartRel w A C room n1 iv wr) (fun iv _ => n1 - (intOf iv).toNat)
  case atStart => exact Hloop.out
  case round =>
    obtain ⟨i, S, hi, rfl, hSl, hH⟩ := hrel
    have HH := Lib.hid hH
    clear hH Hloop
    by_cases hlt : i < n1
    · have hmm := Hl.out.frm (Frm.of_below HH.out.below (Nat.le_refl _))
      obtain ⟨b1, o1, o, rfl, hb1, ho, hcell⟩ := hmm.at_ hlt
      have p0 := hcell 0 _ rfl
      have p1 := hcell 1 _ rfl
      have p2 := hcell 2 _ rfl
      simp only [Nat.add_zero] at p0
      have hwf : IntKind.i64.wrap ((i : Int) + 1) = (i : Int) + 1 := IntWalk.i64_in _ (by omega)
      have i0 : (0 : Int) ≤ (i : Int) := by omega
      have i1 : (i : Int) < (n1 : Int) := by omega
      clear hmm hcell ho
      go_wp2_with fail
      refine (does_goes noneR_stable HH.out h1 (by omega) o).mono ?_
      rintro e w3 ⟨rfl, h5⟩
      have hdl := doS_len room o S
      have H3 := Lib.hid h5
      clear h5 HH p0 p1 p2
      go_wp2_with fail
      go_roundw
      case rel => exact ⟨i + 1, doS room o S, by omega, by go_num, by omega, H3.out⟩
      case measure => simp [intOf]; omega
    · obtain rfl : i = n1 := by omega
      obtain ⟨hRise, _, hr2⟩ := HH.out.bothFits
      have hal := all_goes (sepR_stable (refR_stable C room S) noneR_stable) HH.out
      have Hal := Lib.hid hal
      clear hal HH
      go_wp2_with fail
      refine Hal.out.mono ?_
      rintro e wp ⟨bx, a, c, rfl, h5⟩
      have hfn := func_all2 bx
      have hsR : Stable (sepR (boxR bx #[.slice a S.length c] 57) (sepR (rowR 66 2 (.slice a S.length c) S.length (flat It.cells S)) (sepR (ringR A room S) (sepR (refR C room S) noneR)))) := sepR_stable (boxR_stable _ _ _) (sepR_stable (rowR_stable _ _ _ _ _) (sepR_stable (ringR_stable _ _ _) (sepR_stable (refR_stable _ _ _) noneR_stable)))
      obtain ⟨_, hbx, _, hab⟩ := h5.sameAll
      have h6 := (h5.alloc hsR (.cells #[.slice none 0 0] 46)).alloc hsR (.cells #[.slice none 0 0] 46)
      obtain ⟨hc, _, hsl, _⟩ := h6.sameAll
      have hst := ((Holds.start wp).alloc noneR_stable (.cells #[.slice none 0 0] 46)).alloc noneR_stable (.cells #[.slice none 0 0] 46)
      have hsz : wp.heap.size ≤ ((wp.alloc (.cells #[.slice none 0 0] 46)).alloc (.cells #[.slice none 0 0] 46)).heap.size := by simp; omega
      have hI0 : PartI wp [] ((wp.alloc (.cells #[.slice none 0 0] 46)).alloc (.cells #[.slice none 0 0] 46)) := ⟨0, none, 0, none, 0, rfl, by
        have h7 := (hst.nilRow 3 1).nilRow 3 1
        rw [World.size_alloc] at h7
        exact h7⟩
      have hwl : w.heap.size < wp.heap.size := lt_of_obj (h5.box (k := w.heap.size) (o := .cells #[.bool false] 4) (by simp))
      have H5 := Lib.hid h5
      have HI0 := Lib.hid hI0
      clear h5 h6 hst hI0 Hal
      go_wp2_with fail
      refine (wpIn_wide (n := 3)).1 ?_
      try simp only [World.size_alloc]
      generalize (wp.alloc (.cells #[.slice none 0 0] 46)).alloc (.cells #[.slice none 0 0] 46) = W0 at HI0 hsz hc hsl ⊢
      refine' wpIn_rangeFunc_ownG (F := Fence.wide) rfl (by omega) (gf := 33) (lb := #[.pointer (some ⟨bx, 0, none⟩)]) rfl trivial (enters_of Try.func33 (by kernel_rfl) rfl)
        (all2_stops Fence.wide _ trivial rfl (by omega) bx wp.heap.size a c S (by omega) W0 hbx hsz hc hsl hab) (fun h k => belowK_t h k) (belowK_b hsz) (Below.refl _ _) (fun _ => rfl)
        (PartI wp) (fun _ pre _ => ¬ ∃ k, k ≤ S.length ∧ pre = S.take k) (partI_own wp _ hsz) (fun c => ownFrom_pure _ _) HI0.out
        ?act1 ?assign ?body ?done ?stop
      case assign =>
        intro l x W K hK
        gi_wp2
        exact hK
      case body =>
        rintro l pre x W ⟨m, b1, d1, b2, d2, hm, hI⟩ hlt
        rw [hm] at hlt
        have hbb := hI.box (k := wp.heap.size + 1) (o := .cells #[.slice b2 m d2] 46) (by simp)
        have t0 := cells1 hbb
        have hbz := lt_of_obj hbb
        have ub : W.heap[w.heap.size]? = some (.cells #[.bool false] 4) := (hI.old hwl).trans (H5.out.box (k := w.heap.size) (o := .cells #[.bool false] 4) (by simp))
        have u0 : W.frozen? ⟨w.heap.size, 0, none⟩ = false := frozen_of_obj ub 0
        have u1 := cells1 ub
        have zu := lt_of_obj ub
        have Hm := Lib.hid hm
        have HR := Lib.hid hRise
        have hno := row_nil_or hI.row
        have HI := Lib.hid hI
        clear hbb ub hI hm hbx hc hsl hab hsz HI0 hRise
        by_cases h0 : m = 0
        · have k1 : decide ((m : Int) > 0) = false := by rw [decide_eq_false_iff_not]; omega
          have k2 : decide (0 < m) = false := by rw [decide_eq_false_iff_not]; omega
          clear hno h0
          gi_wp2_with (gi_at_builtin; refine Stop.of ?_)
          refine Stop.go ?_
          have hA1 := HI.out.made (ptR_stable _ _ _ _) ((Frm.refl _ _).alloc (.cells #[.int .i64 x.at_] 3))
          obtain ⟨i0, hi0, hi1, hi2, hi3⟩ := info_parts infoInt
          refine wpListIn_append_foot _ rfl _ _ 46 rfl 3 i0 (.int .i64 0) 1 8 Try.underlying46 hi0 hi1 hi2 hi3 rfl (by decide) (.slice b2 m d2) m (flat intEnc (timesOf pre)) rfl hA1.row ⟨W.heap.size, 0, none⟩ 1 1 [.int .i64 x.at_] rfl rfl (cells_at _ [.int .i64 x.at_] 3 _ rfl) (fun u hu => by simp at hu; subst hu; rfl) (by unfold maxLen; omega) (by omega) ?_
          intro a3 c3 w3 hown hF hnew
          have hK1 := (KeepsOthers.alloc W (.cells #[.int .i64 x.at_] 3)).trans (keeps_frm hA1.row hF)
          have hA2 := hA1.appended (sepR_stable (rowR_stable _ _ _ _ _) noneR_stable) hown hF hnew
          have hb13 := hA2.box (k := wp.heap.size + 1) (o := .cells #[.slice b2 m d2] 46) (by simp)
          have v13 := frozen_of_obj hb13 0
          have y13 := cells1 hb13
          have z13 := lt_of_obj hb13
          have hA3 := Holds.put (L := []) (sepR_stable (rowR_stable _ _ _ _ _) (sepR_stable (rowR_stable _ _ _ _ _) noneR_stable)) hA2 (by omega) (by simp) (by intro p hp; simp only [List.mem_cons, List.not_mem_nil, or_false] at hp; subst hp; dsimp only; omega) 0 (.slice a3 (m + 1) c3)
          have hK3 := hK1.trans (KeepsOthers.setCell w3 ⟨wp.heap.size + 1, 0, none⟩ (.slice a3 (m + 1) c3))
          have hb12 := hA3.box (k := wp.heap.size) (o := .cells #[.slice b1 m d1] 46) (by simp)
          have y12 := cells1 hb12
          have hA3s : (w3.setCell ⟨wp.heap.size + 1, 0, none⟩ (.slice a3 (m + 1) c3)).heap.size = w3.heap.size := by simp
          have HA3 := Lib.hid hA3
          have HK3 := Lib.hid hK3
          clear hown hF hnew hA1 hA2 hb13 hK1 hK3 hA3 hb12
          gi_wp2_with (gi_at_builtin; refine Stop.of ?_)
          refine Stop.go ?_
          have hA5 := (HA3.out.conv Conv.exch).made (sepR_stable (rowR_stable _ _ _ _ _) (sepR_stable (rowR_stable _ _ _ _ _) noneR_stable)) ((Frm.refl _ _).alloc (.cells #[.int .i64 x.v] 3))
          refine wpListIn_append_foot _ rfl _ _ 46 rfl 3 i0 (.int .i64 0) 1 8 Try.underlying46 hi0 hi1 hi2 hi3 rfl (by decide) (.slice b1 m d1) m (flat intEnc (valsOf pre)) rfl hA5.row ⟨w3.heap.size, 0, none⟩ 1 1 [.int .i64 x.v] rfl rfl (cells_at _ [.int .i64 x.v] 3 _ (by simp)) (fun u hu => by simp at hu; subst hu; rfl) (by unfold maxLen; omega) (by omega) ?_
          intro a5 c5 w5 hown hF hnew
          have hK5 := (HK3.out.trans (KeepsOthers.alloc _ (.cells #[.int .i64 x.v] 3))).trans (keeps_frm hA5.row hF)
          have hA6 := hA5.appended (sepR_stable (rowR_stable _ _ _ _ _) noneR_stable) hown hF hnew
          have hb12 := hA6.box (k := wp.heap.size) (o := .cells #[.slice b1 m d1] 46) (by simp)
          have v12 := frozen_of_obj hb12 0
          have x12 := cells1 hb12
          have z12 := lt_of_obj hb12
          have hA7 := (Holds.put (L := [(wp.heap.size + 1, .cells #[.slice a3 (m + 1) c3] 46)]) (M := []) (sepR_stable (rowR_stable _ _ _ _ _) (sepR_stable (rowR_stable _ _ _ _ _) noneR_stable)) hA6 (Nat.le_refl _) (by intro p hp; simp only [List.mem_cons, List.not_mem_nil, or_false] at hp; subst hp; dsimp only; omega) (by simp) 0 (.slice a5 (m + 1) c5)).conv Conv.exch
          have hK7 := hK5.trans (KeepsOthers.setCell w5 ⟨wp.heap.size, 0, none⟩ (.slice a5 (m + 1) c5))
          rw [flat_more, flat_more] at hA7
          have HA7 := Lib.hid hA7
          have HK7 := Lib.hid hK7
          clear hown hF hnew hA5 hA6 hb12 hK5 hK7 hA7 HA3 HK3 hi0 hi1 hi2 hi3
          gi_wp2_with fail
          refine ⟨HK7.out.from _, below_two HI.out.below HA7.out.below HK7.out.size, m + 1, a5, c5, a3, c3, by rw [List.length_append, Hm.out]; rfl, ?_⟩
          have hA8 := HA7.out
          rw [show timesOf pre ++ [x.at_] = timesOf (pre ++ [x]) by simp [timesOf], show valsOf pre ++ [x.v] = valsOf (pre ++ [x]) by simp [valsOf]] at hA8
          exact hA8
        · have hsome : ∃ g2, b2 = some ⟨g2, 0, none⟩ := by
            rcases hno with ⟨_, h00⟩ | ⟨g2, cap, he, _⟩
            · exact absurd h00 h0
            · simp only [Value.slice.injEq] at he; exact ⟨g2, he.1⟩
          obtain ⟨g2, rfl⟩ := hsome
          have hcap : m ≤ d2 := by
            rcases hno with ⟨_, h00⟩ | ⟨g3, cap, he, _, hcap, _⟩
            · exact absurd h00 h0
            · simp only [Value.slice.injEq] at he; omega
          obtain ⟨q, hq⟩ : ∃ q, m = q + 1 := ⟨m - 1, by omega⟩
          obtain ⟨y, hy⟩ : ∃ y, pre[q]? = some y := ⟨_, List.getElem?_eq_getElem (by have := Hm.out; omega)⟩
          have p0 := HI.out.intCell (i := q) (x := y.at_) (by simp [timesOf, hy])
          have k1 : decide ((m : Int) > 0) = true := by rw [decide_eq_true_eq]; omega
          have k2 : decide (0 < m) = true := by rw [decide_eq_true_eq]; omega
          have k3 : IntKind.i64.wrap ((m : Int) - 1) = (q : Int) := by rw [IntWalk.i64_in _ (by omega)]; omega
          have i0 : (0 : Int) ≤ (q : Int) := by omega
          have i1 : (q : Int) < (m : Int) := by omega
          have Hnr := Lib.hid (fun hlt2 : x.at_ < y.at_ => not_rise (x := x) HR.out Hm.out (q := q) (by omega) hy hlt2)
          have Hq := Lib.hid hq
          clear hno hy hq
          by_cases hear : x.at_ < y.at_
          · have e1 : decide (x.at_ < y.at_) = true := by rw [decide_eq_true_eq]; exact hear
            gi_wp2_with fail
            exact ⟨(KeepsOthers.setCell _ _ _).from _, Hnr.out hear⟩
          · have e1 : decide (x.at_ < y.at_) = false := by rw [decide_eq_false_iff_not]; exact hear
            gi_wp2_with (gi_at_builtin; refine Stop.of ?_)
            refine Stop.go ?_
            have hA1 := HI.out.made (ptR_stable _ _ _ _) ((Frm.refl _ _).alloc (.cells #[.int .i64 x.at_] 3))
            obtain ⟨i0, hi0, hi1, hi2, hi3⟩ := info_parts infoInt
            refine wpListIn_append_foot _ rfl _ _ 46 rfl 3 i0 (.int .i64 0) 1 8 Try.underlying46 hi0 hi1 hi2 hi3 rfl (by decide) (.slice (some ⟨g2, 0, none⟩) m d2) m (flat intEnc (timesOf pre)) rfl hA1.row ⟨W.heap.size, 0, none⟩ 1 1 [.int .i64 x.at_] rfl rfl (cells_at _ [.int .i64 x.at_] 3 _ rfl) (fun u hu => by simp at hu; subst hu; rfl) (by unfold maxLen; omega) (by omega) ?_
            intro a3 c3 w3 hown hF hnew
            have hK1 := (KeepsOthers.alloc W (.cells #[.int .i64 x.at_] 3)).trans (keeps_frm hA1.row hF)
            have hA2 := hA1.appended (sepR_stable (rowR_stable _ _ _ _ _) noneR_stable) hown hF hnew
            have hb13 := hA2.box (k := wp.heap.size + 1) (o := .cells #[.slice (some ⟨g2, 0, none⟩) m d2] 46) (by simp)
            have v13 := frozen_of_obj hb13 0
            have y13 := cells1 hb13
            have z13 := lt_of_obj hb13
            have hA3 := Holds.put (L := []) (sepR_stable (rowR_stable _ _ _ _ _) (sepR_stable (rowR_stable _ _ _ _ _) noneR_stable)) hA2 (by omega) (by simp) (by intro p hp; simp only [List.mem_cons, List.not_mem_nil, or_false] at hp; subst hp; dsimp only; omega) 0 (.slice a3 (m + 1) c3)
            have hK3 := hK1.trans (KeepsOthers.setCell w3 ⟨wp.heap.size + 1, 0, none⟩ (.slice a3 (m + 1) c3))
            have hb12 := hA3.box (k := wp.heap.size) (o := .cells #[.slice b1 m d1] 46) (by simp)
            have y12 := cells1 hb12
            have hA3s : (w3.setCell ⟨wp.heap.size + 1, 0, none⟩ (.slice a3 (m + 1) c3)).heap.size = w3.heap.size := by simp
            have HA3 := Lib.hid hA3
            have HK3 := Lib.hid hK3
            clear hown hF hnew hA1 hA2 hb13 hK1 hK3 hA3 hb12
            gi_wp2_with (gi_at_builtin; refine Stop.of ?_)
            refine Stop.go ?_
            have hA5 := (HA3.out.conv Conv.exch).made (sepR_stable (rowR_stable _ _ _ _ _) (sepR_stable (rowR_stable _ _ _ _ _) noneR_stable)) ((Frm.refl _ _).alloc (.cells #[.int .i64 x.v] 3))
            refine wpListIn_append_foot _ rfl _ _ 46 rfl 3 i0 (.int .i64 0) 1 8 Try.underlying46 hi0 hi1 hi2 hi3 rfl (by decide) (.slice b1 m d1) m (flat intEnc (valsOf pre)) rfl hA5.row ⟨w3.heap.size, 0, none⟩ 1 1 [.int .i64 x.v] rfl rfl (cells_at _ [.int .i64 x.v] 3 _ (by simp)) (fun u hu => by simp at hu; subst hu; rfl) (by unfold maxLen; omega) (by omega) ?_
            intro a5 c5 w5 hown hF hnew
            have hK5 := (HK3.out.trans (KeepsOthers.alloc _ (.cells #[.int .i64 x.v] 3))).trans (keeps_frm hA5.row hF)
            have hA6 := hA5.appended (sepR_stable (rowR_stable _ _ _ _ _) noneR_stable) hown hF hnew
            have hb12 := hA6.box (k := wp.heap.size) (o := .cells #[.slice b1 m d1] 46) (by simp)
            have v12 := frozen_of_obj hb12 0
            have x12 := cells1 hb12
            have z12 := lt_of_obj hb12
            have hA7 := (Holds.put (L := [(wp.heap.size + 1, .cells #[.slice a3 (m + 1) c3] 46)]) (M := []) (sepR_stable (rowR_stable _ _ _ _ _) (sepR_stable (rowR_stable _ _ _ _ _) noneR_stable)) hA6 (Nat.le_refl _) (by intro p hp; simp only [List.mem_cons, List.not_mem_nil, or_false] at hp; subst hp; dsimp only; omega) (by simp) 0 (.slice a5 (m + 1) c5)).conv Conv.exch
            have hK7 := hK5.trans (KeepsOthers.setCell w5 ⟨wp.heap.size, 0, none⟩ (.slice a5 (m + 1) c5))
            rw [flat_more, flat_more] at hA7
            have HA7 := Lib.hid hA7
            have HK7 := Lib.hid hK7
            clear hown hF hnew hA5 hA6 hb12 hK5 hK7 hA7 HA3 HK3 hi0 hi1 hi2 hi3
            gi_wp2_with fail
            refine ⟨HK7.out.from _, below_two HI.out.below HA7.out.below HK7.out.size, m + 1, a5, c5, a3, c3, by rw [List.length_append, Hm.out]; rfl, ?_⟩
            have hA8 := HA7.out
            rw [show timesOf pre ++ [x.at_] = timesOf (pre ++ [x]) by simp [timesOf], show valsOf pre ++ [x.v] = valsOf (pre ++ [x]) by simp [valsOf]] at hA8
            exact hA8
      case done =>
        rintro D xs W hD hxs ⟨m, b1, d1, b2, d2, hm, hI⟩ hKD
        rw [hxs] at hm hI
        clear hxs HI0 hbx hc hsl hab
        have hI2 := hI.addBox hKD (ptR_cells hKD rfl)
        have h5r := (sepR_comm (H5.out.drop.drop)).drop
        have hJ := sepR_comm (h5r.joinL (ringR_stable _ _ _) hI2 (by
          intro p hp
          simp only [ptL, List.mem_cons, List.not_mem_nil, or_false] at hp
          rcases hp with rfl | rfl | rfl
          · dsimp only; omega
          · dsimp only; omega
          · exact Nat.le_refl _))
        have hbk := back_goes (ptR_stable _ _ _ _) hJ t
        have hkl := cnt_le (fun x => decide (x ≥ t)) S
        have hkb : ∀ (j : Nat) (z : It), S[j]? = some z → j < cnt (fun x => decide (x ≥ t)) S → z.at_ < t := fun j z hz h => by have := cnt_before hz h; simpa using this
        have hka : ∀ (j : Nat) (z : It), S[j]? = some z → cnt (fun x => decide (x ≥ t)) S ≤ j → t ≤ z.at_ := fun j z hz h => by have := cnt_after (p := fun x => decide (x ≥ t)) (fun x y h1 h2 => by simp at h2 ⊢; omega) hRise hz h; simpa using this
        have hk2 : cnt (fun x => decide (x ≥ t)) (S.take (cnt (fun x => decide (x ≥ t)) S)) = cnt (fun x => decide (x ≥ t)) S := cnt_of (by rw [List.length_take]; omega) (fun i x hi hx => by
          rw [List.getElem?_take, if_pos hi] at hx
          exact cnt_before hx hi) (fun x hx => by rw [List.getElem?_take, if_neg (Nat.lt_irrefl _)] at hx; cases hx)
        unfold BackDoes at hbk
        generalize cnt (fun x => decide (x ≥ t)) S = k at hbk hkl hkb hka hk2
        obtain ⟨na, hna⟩ : ∃ na, S.length - k = na := ⟨_, rfl⟩
        rw [hna] at hbk
        have Hbk := Lib.hid hbk
        have Hkb := Lib.hid hkb
        have Hka := Lib.hid hka
        have Hk2 := Lib.hid hk2
        have Hm := Lib.hid hm
        have Hna := Lib.hid hna
        have hm60 : m ≤ 60 := by omega
        have hkm : k ≤ m := by omega
        have hnm : na + k = m := by omega
        clear hI hI2 h5r hJ hbk hkb hka hk2 hm hna H5
        go_wp2_with fail
        refine Hbk.out.mono ?_
        rintro e w6 ⟨la, lca, rfl, h6⟩
        have hfr := front_goes (sepR_stable (rowR_stable _ _ _ _ _) (ptR_stable _ _ _ _)) (h6.conv Conv.exch) t
        unfold FrontDoes at hfr
        rw [Hk2.out, List.take_take, Nat.min_self, List.drop_eq_nil_of_le (show (S.take k).length ≤ k by rw [List.length_take]; omega)] at hfr
        have Hfr := Lib.hid hfr
        clear h6 hfr Hbk
        go_wp2_with fail
        refine Hfr.out.mono ?_
        rintro e w7 ⟨lb, lcb, rfl, h7⟩
        have hln : Calls Try.prog 19 #[.pointer (some ⟨A, 0, none⟩)] w7 fun e w' => e = .returned (.int .i64 0) ∧ w' = w7 := len_says (S := []) h7.drop.ringAt
        have hrm : Calls Try.prog 20 #[.pointer (some ⟨A, 0, none⟩)] w7 (Says (.int .i64 (room : Int)) w7) := room_says (S := []) h7.drop.ringAt (Nat.zero_le _) hr2
        have Hln := Lib.hid hln
        have Hrm := Lib.hid hrm
        have H7 := Lib.hid h7
        have hsum : IntKind.i64.wrap ((na : Int) + (k : Int)) = (m : Int) := by rw [IntWalk.i64_in _ (by omega)]; omega
        clear hln hrm h7 Hfr
        go_wp2_with fail
        refine Hln.out.mono ?_
        rintro e w7' ⟨rfl, hw7⟩
        obtain rfl : w7 = w7' := hw7.symm
        go_wp2_with fail
        refine Hrm.out.mono ?_
        rintro e w8 ⟨rfl, hf8⟩
        have h8 : Holds w.heap.size w (ptAll A room m k na S (.slice b2 m d2) (.slice b1 m d1) (.slice lb k lcb) (.slice la na lca)) w8 (ptLL w wp D (.slice b2 m d2) (.slice b1 m d1)) := H7.out.made (ptAll_stable _ _ _ _ _ _ _ _ _ _) hf8
        have y0 := cells1 (h8.box (k := wp.heap.size) (o := .cells #[.slice b1 m d1] 46) (by simp))
        have z0 := World.block_lt_of_cell? _ _ y0
        dsimp only at z0
        have hloop2 : PtRel w wp D A room m k na S (.slice b2 m d2) (.slice b1 m d1) (.slice lb k lcb) (.slice la na lca) k (.int .i64 0) w8 := ⟨0, Nat.zero_le _, rfl, h8⟩
        have Hloop2 := Lib.hid hloop2
        clear h8 hf8 hloop2 H7 Hln Hrm
        go_wp2_with fail
        go_loopw [18] (fun iv wr => PtRel w wp D A room m k na S (.slice b2 m d2) (.slice b1 m d1) (.slice lb k lcb) (.slice la na lca) k iv wr) (fun iv _ => k - (intOf iv).toNat)
        case atStart => exact Hloop2.out
        case round =>
          rename World => wy
          obtain ⟨j, hj, rfl, hH⟩ := hrel
          have HY := Lib.hid hH
          clear hH Hloop2 hsum y0 z0
          by_cases hlt2 : j < k
          · obtain ⟨z, hz⟩ : ∃ z, S[j]? = some z := ⟨_, List.getElem?_eq_getElem (by omega)⟩
            obtain ⟨⟨gb, rfl⟩, cb⟩ := row_some9 HY.out.row (by omega)
            obtain ⟨⟨g2, rfl⟩, ct2⟩ := row_some9 HY.out.drop.drop.drop.row (by omega)
            obtain ⟨⟨g3, rfl⟩, ct3⟩ := row_some9 HY.out.drop.drop.drop.drop.row (by omega)
            have q0 := HY.out.intCell (i := j) (x := z.v) (by simp [valsOf, List.getElem?_take, hlt2, hz])
            have q2 := HY.out.drop.drop.drop.intCell (i := j) (x := z.at_) (by simp [timesOf, hz])
            have q1 := HY.out.drop.drop.drop.drop.intCell (i := j) (x := z.v) (by simp [valsOf, hz])
            have y1 := cells1 (HY.out.box (k := wp.heap.size) (o := .cells #[.slice (some ⟨g3, 0, none⟩) m d1] 46) (by simp))
            have y2 := cells1 (HY.out.box (k := wp.heap.size + 1) (o := .cells #[.slice (some ⟨g2, 0, none⟩) m d2] 46) (by simp))
            have hz2 := Hkb.out j z hz hlt2
            have e1 : (z.v != z.v) = false := by simp
            have e2 : decide (z.at_ ≥ t) = false := by rw [decide_eq_false_iff_not]; omega
            have e3 : decide (t ≤ z.at_) = false := by rw [decide_eq_false_iff_not]; omega
            have hwf : IntKind.i64.wrap ((j : Int) + 1) = (j : Int) + 1 := IntWalk.i64_in _ (by omega)
            have i0 : (0 : Int) ≤ (j : Int) := by omega
            have i1 : (j : Int) < (k : Int) := by omega
            have i2 : (j : Int) < (m : Int) := by omega
            clear hz hz2
            go_wp2_with fail
            go_quiet (fail)
            go_wp2_with fail
            go_roundw
            case rel => exact ⟨j + 1, by omega, by go_num, HY.out.drewN (ptAll_stable _ _ _ _ _ _ _ _ _ _) _⟩
            case measure => simp [intOf]; omega
          · obtain rfl : k = j := by omega
            have hloop3 : PtRel w wp D A room m k na S (.slice b2 m d2) (.slice b1 m d1) (.slice lb k lcb) (.slice la na lca) na (.int .i64 0) wy := ⟨0, Nat.zero_le _, rfl, HY.out⟩
            have Hloop3 := Lib.hid hloop3
            clear hloop3 HY
            go_wp2_with fail
            go_loopw [19, 20] (fun iv _ wr => PtRel w wp D A room m k na S (.slice b2 m d2) (.slice b1 m d1) (.slice lb k lcb) (.slice la na lca) na iv wr) (fun iv _ _ => na - (intOf iv).toNat)
            case atStart => exact Hloop3.out
            case round =>
              rename World => wz
              obtain ⟨j, hj, rfl, hH⟩ := hrel
              have HZ := Lib.hid hH
              clear hH Hloop3
              by_cases hlt3 : j < na
              · obtain ⟨p, hp⟩ : ∃ p, m - 1 - j = p := ⟨_, rfl⟩
                obtain ⟨m1, hm1⟩ : ∃ m1, m - 1 = m1 := ⟨_, rfl⟩
                have hml := Hm.out
                obtain ⟨z, hz⟩ : ∃ z, S[p]? = some z := ⟨_, List.getElem?_eq_getElem (by omega)⟩
                obtain ⟨⟨gb, rfl⟩, cb⟩ := row_some9 HZ.out.drop.drop.row (by omega)
                obtain ⟨⟨g2, rfl⟩, ct2⟩ := row_some9 HZ.out.drop.drop.drop.row (by omega)
                obtain ⟨⟨g3, rfl⟩, ct3⟩ := row_some9 HZ.out.drop.drop.drop.drop.row (by omega)
                have q0 := HZ.out.drop.drop.intCell (i := j) (x := z.v) (rev_at hz (by omega) (by omega))
                have q2 := HZ.out.drop.drop.drop.intCell (i := p) (x := z.at_) (by simp [timesOf, hz])
                have q1 := HZ.out.drop.drop.drop.drop.intCell (i := p) (x := z.v) (by simp [valsOf, hz])
                have y1 := cells1 (HZ.out.box (k := wp.heap.size) (o := .cells #[.slice (some ⟨g3, 0, none⟩) m d1] 46) (by simp))
                have y2 := cells1 (HZ.out.box (k := wp.heap.size + 1) (o := .cells #[.slice (some ⟨g2, 0, none⟩) m d2] 46) (by simp))
                have hz2 := Hka.out p z hz (by omega)
                have e1 : (z.v != z.v) = false := by simp
                have e2 : decide (z.at_ < t) = false := by rw [decide_eq_false_iff_not]; omega
                have hwf : IntKind.i64.wrap ((j : Int) + 1) = (j : Int) + 1 := IntWalk.i64_in _ (by omega)
                have hw1 : IntKind.i64.wrap ((m : Int) - 1) = (m1 : Int) := by rw [IntWalk.i64_in _ (by omega)]; omega
                have hw2 : IntKind.i64.wrap ((m1 : Int) - (j : Int)) = (p : Int) := by rw [IntWalk.i64_in _ (by omega)]; omega
                have i0 : (0 : Int) ≤ (j : Int) := by omega
                have i1 : (j : Int) < (na : Int) := by omega
                have i2 : (0 : Int) ≤ (p : Int) := by omega
                have i3 : (p : Int) < (m : Int) := by omega
                clear hz hz2 hml hp hm1
                go_wp2_with fail
                go_quiet (fail)
                go_wp2_with fail
                go_roundw
                case rel => exact ⟨j + 1, by omega, by go_num, HZ.out.drewN (ptAll_stable _ _ _ _ _ _ _ _ _ _) _⟩
                case measure => simp [intOf]; omega
              · obtain rfl : na = j := by omega
                have HT := HZ
                clear HZ
                go_wp2_with fail
                refine (awake_any _).mono ?_
                rintro e w9 ⟨rfl, hf9⟩
                have h9 := HT.out.made (ptAll_stable _ _ _ _ _ _ _ _ _ _) (Frm.of_below hf9 (Nat.le_refl _))
                have u1 := cells1 (h9.box (k := w.heap.size) (o := .cells #[.bool false] 4) (by simp))
                have u0 : w9.frozen? ⟨w.heap.size, 0, none⟩ = false := frozen_of_obj (h9.box (k := w.heap.size) (o := .cells #[.bool false] 4) (by simp)) 0
                have zu := World.block_lt_of_cell? _ _ u1
                dsimp only at zu
                have H9 := Lib.hid h9
                clear h9 hf9 HT
                go_wp2_with fail
                have g1 : (w9.setCell ⟨w.heap.size, 0, none⟩ (.bool true)).heap[D]? = some (.deferred (some [])) := obj_setCell_ne (H9.out.box (k := D) (o := .deferred (some [])) (by simp)) (a := ⟨w.heap.size, 0, none⟩) (by dsimp only; omega) _
                have g2 : (w9.setCell ⟨w.heap.size, 0, none⟩ (.bool true)).heap[w.heap.size]? = some (.cells #[.bool true] 4) := obj_setCell (H9.out.box (k := w.heap.size) (o := .cells #[.bool false] 4) (by simp)) 0 _
                have g3 := cells1 ((World.putObj_heap_other (o := .deferred none) (show w.heap.size ≠ D by omega)).trans g2)
                refine ⟨by simp, .inl ⟨_, _, rfl, run_takeDeferred g1, ?_⟩⟩
                refine ⟨.bool true, by simp [results, Try.results5, go_sem, g3], rfl, ?_⟩
                exact (H9.out.below.setCell (p := ⟨w.heap.size, 0, none⟩) (Nat.le_refl _) _).trans (belowK_b (w := w) (Nat.le_refl _) _ D _ _ (by omega) g1 rfl rfl)
      case stop =>
        rintro D c pre W _ hk h _
        exact absurd hk h
theorem parts_any (w : World) (room : Int) (a1 : Option Addr) (n1 c1 : Nat) (l : List OpV) (hl : SlAt opEnc 3 w a1 n1 c1 l) (t : Int) : Calls Try.prog 5 #[.int .i64 room, .slice a1 n1 c1, .int .i64 t] w (LawTrue w) := by
  by_cases h : room < 1 ∨ room > 40 ∨ 60 < n1
  · exact parts_out w room a1 n1 c1 t h
  · obtain ⟨r, hr⟩ : ∃ r : Nat, room = (r : Int) := ⟨room.toNat, by omega⟩
    subst hr
    exact parts_in w r (by omega) (by omega) a1 n1 c1 l hl (by omega) t
end Go.Proofs.Ythamnalpkjjnlaa
