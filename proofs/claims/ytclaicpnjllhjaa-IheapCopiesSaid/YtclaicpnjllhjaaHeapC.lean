/- A heap's calls: find, Get, Pull, First, Len. -/
import Derived.Test.YtclaicpnjllhjaaHeapU
import Derived.Deep.QuietTactic
import Derived.BigQuiet
namespace Go.Proofs.Ytclaicpnjllhjaa
open Go.RowKit Go.Maps

/-- A look-up in the map. -/
theorem look_there {w : World} {M n : Nat} {D : DataW Unit} {l : List Ent} (h : w.ownsMap Try.prog 33 (plainElem Try.prog 3) M n D) (hp : Places D l) {i : Nat} {x : Ent} (hx : l[i]? = some x) :
    (Instr.lookup 61 (.map (some M)) x.k.val true).run Try.prog w = .ok (.tuple #[.int .i64 (i : Int), .bool true]) w := by
  have hm := List.mem_of_getElem? hx
  have hw := hp.wf x hm
  obtain ⟨v, ps, hr, hv⟩ := h.look_ok keyedKey Try.underlying61 (zeroInt w) (plainElem_int (H := Unit) Try.underlying3 (q := .i64) (a := 0) (by decide)) (keyOf_key x.k hw)
  obtain ⟨c, rfl, hc, _⟩ := plainElem_int_inv Try.underlying3 hv
  have h1 := hp.at_ i x hx
  have h2 := congrArg Prod.fst hc
  simp only at h2
  rw [h1] at h2
  simp only [DataW.lit.injEq, Lit.int.injEq, true_and] at h2
  subst h2
  have h3 : Maps.has D x.k.lit = true := by rw [hp.has _ hw, decide_eq_true_eq]; exact ⟨x, hm, rfl⟩
  rw [h3] at hr
  exact hr
theorem look_not {w : World} {M n : Nat} {D : DataW Unit} {l : List Ent} (h : w.ownsMap Try.prog 33 (plainElem Try.prog 3) M n D) (hp : Places D l) {k : Kv} (hw : k.Wf) (hk : ∀ x ∈ l, x.k ≠ k) :
    (Instr.lookup 61 (.map (some M)) k.val true).run Try.prog w = .ok (.tuple #[.int .i64 0, .bool false]) w := by
  obtain ⟨v, ps, hr, hv⟩ := h.look_ok keyedKey Try.underlying61 (zeroInt w) (plainElem_int (H := Unit) Try.underlying3 (q := .i64) (a := 0) (by decide)) (keyOf_key k hw)
  obtain ⟨c, rfl, hc, _⟩ := plainElem_int_inv Try.underlying3 hv
  have h3 : Maps.has D k.lit = false := by
    rw [hp.has _ hw, decide_eq_false_iff_not]
    rintro ⟨x, hx, e⟩
    exact hk x hx e
  have h2 := congrArg Prod.fst hc
  simp only at h2
  rw [atKey_of_not_has h3] at h2
  simp only [DataW.lit.injEq, Lit.int.injEq, true_and] at h2
  subst h2
  rw [h3] at hr
  exact hr

theorem ent_field (x : Ent) (w : World) : (Instr.field 68 (.agg #[.int .i64 x.k.at_, .int .i64 x.k.src, .int .i64 x.k.sent, .int .i64 x.k.no, .int .i64 x.v]) 1).run Try.prog w = .ok (.int .i64 x.v) w := by kernel_rfl

section
variable {B : Nat} {w0 w : World} {Q : World → List Nat → Prop} {L : List (Nat × Obj)}

set_option maxHeartbeats 1000000 in
theorem find_some (hQ : Stable Q) {b : Nat} {l : List Ent} (h : Holds B w0 (sepR (rawR b l) Q) w L) {i : Nat} {x : Ent} (hx : l[i]? = some x) :
    Calls Try.prog 39 #[.pointer (some ⟨b, 0, none⟩), x.k.val] w (Goes (.tuple #[.int .i64 (i : Int), .int .i64 0]) B w0 (sepR (rawR b l) Q) L) := by
  have hs := sepR_stable (rawR_stable b l) hQ
  have h0 := h.made hs ((Frm.refl _ _).alloc (.cells #[.int .i64 x.k.at_, .int .i64 x.k.src, .int .i64 x.k.sent, .int .i64 x.k.no] 33))
  obtain ⟨ev, M, D, hp, h1⟩ := h0.rawOpen
  obtain ⟨c0, c1, f0, hb⟩ := h1.hCell0
  have hlk := fun n => look_there (w := (w.alloc (.cells #[.int .i64 x.k.at_, .int .i64 x.k.src, .int .i64 x.k.sent, .int .i64 x.k.no] 33)).drewN n) h1.hMap.mapAt hp hx
  have H0 := Lib.hid h0
  clear h h0 hp h1 hx
  go_enter Try.func39, Try.ntmps39
  go_wp2_with fail
  go_quiet (fail)
  go_wp2_with fail
  go_ret2
  exact ⟨rfl, H0.out.drewN hs _⟩
set_option maxHeartbeats 1000000 in
theorem find_none (hQ : Stable Q) {b : Nat} {l : List Ent} (h : Holds B w0 (sepR (rawR b l) Q) w L) {k : Kv} (hw : k.Wf) (hk : ∀ x ∈ l, x.k ≠ k) :
    Calls Try.prog 39 #[.pointer (some ⟨b, 0, none⟩), k.val] w (Goes (.tuple #[.int .i64 0, .int .i64 14]) B w0 (sepR (rawR b l) Q) L) := by
  have hs := sepR_stable (rawR_stable b l) hQ
  have h0 := h.made hs ((Frm.refl _ _).alloc (.cells #[.int .i64 k.at_, .int .i64 k.src, .int .i64 k.sent, .int .i64 k.no] 33))
  obtain ⟨ev, M, D, hp, h1⟩ := h0.rawOpen
  obtain ⟨c0, c1, f0, hb⟩ := h1.hCell0
  have hlk := fun n => look_not (w := (w.alloc (.cells #[.int .i64 k.at_, .int .i64 k.src, .int .i64 k.sent, .int .i64 k.no] 33)).drewN n) h1.hMap.mapAt hp hw hk
  have H0 := Lib.hid h0
  clear h h0 hp h1 hk hw
  go_enter Try.func39, Try.ntmps39
  go_wp2_with fail
  go_quiet (fail)
  go_wp2_with fail
  go_ret2
  exact ⟨rfl, H0.out.drewN hs _⟩

/-- A heap with these things, in order. -/
structure HFits (l S : List Ent) : Prop where
  heap : HeapL l
  perm : l.Perm S
  srt : Srt S
  wf : ∀ e ∈ S, e.k.Wf
def heapR (b : Nat) (S : List Ent) : World → List Nat → Prop := fun w F => ∃ l, factR (HFits l S) (rawR b l) w F
theorem heapR_stable (b : Nat) (S : List Ent) : Stable (heapR b S) := exR_stable fun _ => factR_stable (rawR_stable _ _)
theorem Holds.heapOpen {b : Nat} {S : List Ent} (h : Holds B w0 (sepR (heapR b S) Q) w L) : ∃ l, HFits l S ∧ Holds B w0 (sepR (rawR b l) Q) w L := by
  obtain ⟨l, h1⟩ := h.ex
  obtain ⟨h2, h3⟩ := h1.fact
  exact ⟨l, h2, h3⟩
theorem Holds.heapShut {b : Nat} {l S : List Ent} (hf : HFits l S) (h : Holds B w0 (sepR (rawR b l) Q) w L) : Holds B w0 (sepR (heapR b S) Q) w L := Holds.ofEx l (Holds.ofFact hf h)
theorem HFits.len {l S : List Ent} (h : HFits l S) : l.length = S.length := h.perm.length_eq
theorem HFits.nil : HFits [] [] := ⟨fun c _ x y hx _ => by simp at hx, List.Perm.refl _, List.Pairwise.nil, by simp⟩
theorem HFits.head {l S : List Ent} (h : HFits l S) : l.head? = S.head? := by
  obtain ⟨h1, h2, h3, _⟩ := h
  cases S with
  | nil => rw [List.perm_nil.1 h2]
  | cons x S =>
    cases l with
    | nil => have := h2.length_eq; simp at this
    | cons y l =>
      have hy := h2.mem_iff.1 (by simp : y ∈ y :: l)
      rcases List.mem_cons.1 hy with rfl | hy
      · rfl
      · have hlt := (srt_cons.1 h3).1 y hy
        have hx := h2.mem_iff.2 (by simp : x ∈ x :: S)
        obtain ⟨c, hc⟩ := List.mem_iff_getElem?.1 hx
        have h4 := heap_least h1 c (List.getElem?_eq_some_iff.1 hc).1 y x rfl hc
        rw [hlt] at h4
        cases h4
theorem HFits.remove {l S : List Ent} (h : HFits l S) {i : Nat} {x : Ent} (hx : l[i]? = some x) : HFits (removeL l i) (delE x.k S) := by
  have hm := h.perm.mem_iff.1 (List.mem_of_getElem? hx)
  have h1 := removeL_perm hx
  have h2 := delE_perm h.srt hm
  refine ⟨removeL_heap h.heap (List.getElem?_eq_some_iff.1 hx).1, List.Perm.cons_inv (h1.symm.trans (h.perm.trans h2)), delE_srt h.srt, fun e he => h.wf e ?_⟩
  exact (List.mem_filter.1 he).1
theorem delE_head {x : Ent} {S : List Ent} (h : Srt (x :: S)) : delE x.k (x :: S) = S := by
  have h1 := (delE_perm h (List.mem_cons_self)).length_eq
  unfold delE
  rw [List.filter_cons, if_neg (by simp), List.filter_eq_self]
  intro y hy
  have := (srt_cons.1 h).1 y hy
  rw [decide_eq_true_eq]
  intro e
  rw [e, lt_irrefl] at this
  cases this
theorem delE_not {k : Kv} {S : List Ent} (h : findE k S = none) : delE k S = S := by
  unfold delE
  rw [List.filter_eq_self]
  exact fun x hx => by simpa using findE_none h x hx
theorem HFits.get {l S : List Ent} (h : HFits l S) {k : Kv} {x : Ent} (hf : findE k S = some x) : ∃ i : Nat, l[i]? = some x ∧ x.k = k := by
  obtain ⟨hm, e⟩ := findE_some hf
  obtain ⟨i, hi⟩ := List.mem_iff_getElem?.1 (h.perm.mem_iff.2 hm)
  exact ⟨i, hi, e⟩
theorem HFits.no {l S : List Ent} (h : HFits l S) {k : Kv} (hf : findE k S = none) : ∀ x ∈ l, x.k ≠ k := fun x hx => findE_none hf x (h.perm.mem_iff.1 hx)

/-- What Get and Pull answer. -/
def getV (k : Kv) (S : List Ent) : Int := match findE k S with | some x => x.v | none => 0
def getE (k : Kv) (S : List Ent) : Int := match findE k S with | some _ => 0 | none => 14
theorem get_some {k : Kv} {S : List Ent} {x : Ent} (h : findE k S = some x) : getV k S = x.v ∧ getE k S = 0 := by simp [getV, getE, h]
theorem get_none {k : Kv} {S : List Ent} (h : findE k S = none) : getV k S = 0 ∧ getE k S = 14 := by simp [getV, getE, h]

set_option maxHeartbeats 1000000 in
theorem get_goes (hQ : Stable Q) {b : Nat} {S : List Ent} (h : Holds B w0 (sepR (heapR b S) Q) w L) (hn : S.length ≤ 200) (k : Kv) (hw : k.Wf) :
    Calls Try.prog 23 #[.pointer (some ⟨b, 0, none⟩), k.val] w (Goes (.tuple #[.int .i64 (getV k S), .int .i64 (getE k S)]) B w0 (sepR (heapR b S) Q) L) := by
  obtain ⟨l, hfit, h0⟩ := h.heapOpen
  have hs := sepR_stable (rawR_stable b l) hQ
  have h1 := h0.made hs ((Frm.refl _ _).alloc (.cells #[.int .i64 k.at_, .int .i64 k.src, .int .i64 k.sent, .int .i64 k.no] 33))
  have hlen := hfit.len
  have hfitH := Lib.hid hfit
  cases hf : findE k S with
  | none =>
    have hc := Lib.hid (find_none hQ h1 hw (hfit.no hf))
    rw [(get_none hf).1, (get_none hf).2]
    clear h h0 h1 hfit hf hw
    go_enter Try.func23, Try.ntmps23
    go_wp2_with fail
    refine hc.out.mono ?_
    rintro e w1 ⟨rfl, h2⟩
    have H2 := Lib.hid h2
    clear h2 hc
    go_wp2_with fail
    go_ret2
    exact ⟨rfl, H2.out.heapShut hfitH.out⟩
  | some x =>
    obtain ⟨i, hi, rfl⟩ := hfit.get hf
    have hil := (List.getElem?_eq_some_iff.1 hi).1
    have hc := Lib.hid (find_some hQ h1 hi)
    rw [(get_some hf).1, (get_some hf).2]
    have Hi := Lib.hid hi
    have hi0 : (0 : Int) ≤ (i : Int) := by omega
    have hi1 : (i : Int) < (l.length : Int) := by omega
    clear h h0 h1 hfit hf hi hw
    go_enter Try.func23, Try.ntmps23
    go_wp2_with fail
    refine hc.out.mono ?_
    rintro e w1 ⟨rfl, h2⟩
    obtain ⟨ev, M, D, hp, h3⟩ := h2.rawOpen
    obtain ⟨g, cap, rfl, hg, hcap, _⟩ := h3.rowVal (by omega)
    obtain ⟨c0, c1, f0, hb⟩ := h3.hCell0
    obtain ⟨p0, p1, p2, p3, p4⟩ := h3.entAt Hi.out
    have H2 := Lib.hid h2
    clear h2 hc h3 hp
    go_wp2_with fail
    go_ret2
    exact ⟨rfl, H2.out.heapShut hfitH.out⟩

set_option maxHeartbeats 1000000 in
set_option maxRecDepth 100000 in
theorem pull_goes (hQ : Stable Q) {b : Nat} {S : List Ent} (h : Holds B w0 (sepR (heapR b S) Q) w L) (hn : S.length ≤ 200) (k : Kv) (hw : k.Wf) :
    Calls Try.prog 24 #[.pointer (some ⟨b, 0, none⟩), k.val] w (Goes (.tuple #[.int .i64 (getV k S), .int .i64 (getE k S)]) B w0 (sepR (heapR b (delE k S)) Q) L) := by
  obtain ⟨l, hfit, h0⟩ := h.heapOpen
  have hs := sepR_stable (rawR_stable b l) hQ
  have h1 := h0.made hs ((Frm.refl _ _).alloc (.cells #[.int .i64 k.at_, .int .i64 k.src, .int .i64 k.sent, .int .i64 k.no] 33))
  have hlen := hfit.len
  cases hf : findE k S with
  | none =>
    have hc := Lib.hid (find_none hQ h1 hw (hfit.no hf))
    rw [(get_none hf).1, (get_none hf).2, delE_not hf]
    have hfitH := Lib.hid hfit
    clear h h0 h1 hfit hf hw
    go_enter Try.func24, Try.ntmps24
    go_wp2_with fail
    refine hc.out.mono ?_
    rintro e w1 ⟨rfl, h2⟩
    have H2 := Lib.hid h2
    clear h2 hc
    go_wp2_with fail
    go_ret2
    exact ⟨rfl, H2.out.heapShut hfitH.out⟩
  | some x =>
    obtain ⟨i, hi, rfl⟩ := hfit.get hf
    have hil := (List.getElem?_eq_some_iff.1 hi).1
    have hc := Lib.hid (find_some hQ h1 hi)
    rw [(get_some hf).1, (get_some hf).2]
    have Hi := Lib.hid hi
    have hfitH := Lib.hid (hfit.remove hi)
    clear h h0 h1 hfit hf hi hw
    go_enter Try.func24, Try.ntmps24
    go_wp2_with fail
    refine hc.out.mono ?_
    rintro e w1 ⟨rfl, h2⟩
    have H2 := Lib.hid h2
    clear h2 hc
    go_wp2_with fail
    refine (remove_goes hQ H2.out (by omega) Hi.out).mono ?_
    rintro e w2 ⟨rfl, h3⟩
    have H3 := Lib.hid h3
    clear h3 H2
    dsimp only [Ent.val]
    have hfd := ent_field x
    go_wp2_with fail
    go_ret2
    exact ⟨rfl, H3.out.heapShut hfitH.out⟩

/-- The first one. -/
def firstE (S : List Ent) : Ent := match S with | [] => zeroEnt | x :: _ => x
def firstErr (S : List Ent) : Int := match S with | [] => 14 | _ :: _ => 0
def firstT (S : List Ent) : Value := .tuple #[(firstE S).k.val, .int .i64 (firstE S).v, .int .i64 (firstErr S)]

set_option maxHeartbeats 2000000 in
set_option maxRecDepth 100000 in
theorem first_goes (hQ : Stable Q) {b : Nat} {S : List Ent} (h : Holds B w0 (sepR (heapR b S) Q) w L) (hn : S.length ≤ 200) :
    Calls Try.prog 25 #[.pointer (some ⟨b, 0, none⟩)] w (Goes (firstT S) B w0 (sepR (heapR b S) Q) L) := by
  obtain ⟨l, hfit, h0⟩ := h.heapOpen
  have hBw := h.le
  have hs := sepR_stable (rawR_stable b l) hQ
  have hLb := h.boxes
  have hlen := hfit.len
  have hhd := hfit.head
  have hfitH := Lib.hid hfit
  have hk0 := h0.alloc hs (.cells #[.int .i64 0, .int .i64 0, .int .i64 0, .int .i64 0] 33)
  cases S with
  | nil =>
    obtain rfl : l = [] := List.eq_nil_of_length_eq_zero (by simpa using hlen)
    obtain ⟨ev, M, D, hp, h1⟩ := hk0.rawOpen
    obtain ⟨c0, c1, f0, hb⟩ := h1.hCell0
    obtain ⟨a, cap, rfl⟩ := row_slice h1.hRow.row
    have h6 := h0.made hs ((Frm.refl _ _).alloc (.cells #[.int .i64 0, .int .i64 0, .int .i64 0, .int .i64 0] 33))
    have H6 := Lib.hid h6
    clear h h0 hk0 hfit hlen hhd h1 hp h6 hLb
    go_enter Try.func25, Try.ntmps25
    go_wp2_with fail
    exact bodyPost_ret (v := firstT []) (by simp [results, Try.results25, go_sem, firstT, firstE, firstErr]) rfl ⟨rfl, H6.out.heapShut hfitH.out⟩
  | cons x S =>
    have hx : l[0]? = some x := by
      cases l with
      | nil => simp at hhd
      | cons y l => simpa using hhd
    have hx1 := hk0.alloc hs x.obj
    obtain ⟨ev, M, D, hp, h1⟩ := h0.rawOpen
    obtain ⟨g, cap, rfl, hg, hcap, _⟩ := h1.rowVal (by rw [hlen]; simp)
    obtain ⟨c0, c1, f0, hb⟩ := h1.hCell0
    obtain ⟨p0, p1, p2, p3, p4⟩ := h1.entAt hx
    simp only [Nat.zero_mul, Nat.zero_add] at p0 p1 p2 p3 p4
    have hz : ((l.length : Int) == 0) = false := by rw [beq_eq_false_iff_ne, hlen]; simp; omega
    have hz' : (l.length == 0) = false := by rw [beq_eq_false_iff_ne, hlen]; simp
    have hz2 : (0 : Int) < (l.length : Int) := by rw [hlen]; simp
    have hz3 : 0 < l.length := by rw [hlen]; simp
    have HX1 := Lib.hid hx1
    have HLb := Lib.hid hLb
    clear h h0 hk0 hfit hhd hlen h1 hp hx hx1 hLb
    unfold Ent.obj at HX1
    go_enter Try.func25, Try.ntmps25
    go_wp2_with fail
    refine wp_world (fun w1 => Holds B w0 (sepR (rawR b l) Q) w1 _) HX1.out fun w1 h2 => ?_
    have hbx := h2.box (k := w.heap.size + 1) (o := .cells #[.int .i64 x.k.at_, .int .i64 x.k.src, .int .i64 x.k.sent, .int .i64 x.k.no, .int .i64 x.v] 68) (by simp)
    have hbz := h2.box (k := w.heap.size) (o := .cells #[.int .i64 0, .int .i64 0, .int .i64 0, .int .i64 0] 33) (by simp)
    clear c0 c1 f0 hb p0 p1 p2 p3 p4
    obtain ⟨p0, p1, p2, p3, p4⟩ := cells5 hbx
    obtain ⟨r0, r1, r2, r3⟩ := cells4 hbz
    have fz : ∀ j, w1.frozen? ⟨w.heap.size, j, none⟩ = false := fun j => frozen_of_obj hbz j
    have z0 := World.block_lt_of_cell? _ _ p0
    have z1 := World.block_lt_of_cell? _ _ r0
    dsimp only at z0 z1
    have h6 := (h2.sub (M := (w.heap.size, .cells #[.int .i64 0, .int .i64 0, .int .i64 0, .int .i64 0] 33) :: L) (fun p hp => by rcases List.mem_cons.1 hp with rfl | hp <;> simp [*])).scratch hs hBw (fun p hp e => by have := HLb.out p hp; omega) [.int .i64 x.k.at_, .int .i64 x.k.src, .int .i64 x.k.sent, .int .i64 x.k.no] _ _ 0
    have H6 := Lib.hid h6
    clear h2 h6 hbx hbz
    go_big_region
    go_wp2_with fail
    exact bodyPost_ret (v := firstT (x :: S)) (by simp [results, Try.results25, go_sem, r0, r1, r2, r3, firstT, firstE, firstErr]) rfl ⟨rfl, (H6.out.drew hs).heapShut hfitH.out⟩

set_option maxHeartbeats 1000000 in
theorem len_goes (_hQ : Stable Q) {b : Nat} {S : List Ent} (h : Holds B w0 (sepR (heapR b S) Q) w L) :
    Calls Try.prog 20 #[.pointer (some ⟨b, 0, none⟩)] w (Goes (.int .i64 (S.length : Int)) B w0 (sepR (heapR b S) Q) L) := by
  obtain ⟨l, hfit, h0⟩ := h.heapOpen
  rw [← hfit.len]
  obtain ⟨ev, M, D, hp, h1⟩ := h0.rawOpen
  obtain ⟨c0, c1, f0, hb⟩ := h1.hCell0
  obtain ⟨a, cap, rfl⟩ := row_slice h1.hRow.row
  have H := Lib.hid h
  clear h h0 h1 hp hfit
  go_enter Try.func20, Try.ntmps20
  go_wp2_with fail
  go_ret
  exact ⟨rfl, H.out⟩
end
end Go.Proofs.Ytclaicpnjllhjaa
