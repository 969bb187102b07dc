/- The chapter's examples, walked. -/
import Derived.Test.YtagldjlaagphlaaKeysT
namespace Go.Proofs.Ytagldjlaagphlaa
open Go.RowKit Go.Maps

theorem MsgsAt.of_obj {w : World} {b : Nat} {t : TypeId} {l : List Mv} (h : w.heap[b]? = some (.cells (msgCells l).toArray t)) (hl : l.length ≤ 1000) (hw : ∀ m ∈ l, m.Wf) : MsgsAt w (some ⟨b, 0, none⟩) l.length l.length l := by
  refine ⟨rfl, Nat.le_refl _, by unfold maxLen; omega, hw, .inr ⟨b, 0, rfl, lt_of_obj h, fun k m hk j u hj => ?_⟩⟩
  rw [cell_of_obj h, Nat.zero_add]
  simpa using msgCells_get hk j u hj

/-- What a call has made beside what is held is held, too. -/
theorem Holds.join {R R' : World → List Nat → Prop} {B : Nat} {w0 w w' : World} {L : List (Nat × Obj)} (hR : Stable R) (h : Holds B w0 R w L) (h' : Holds w.heap.size w R' w' []) : Holds B w0 (sepR R' R) w' L := by
  obtain ⟨F', h1, hb, hlo, hle⟩ := h'
  have hf : Frm [] w w' := Frm.of_below hb (Nat.le_refl _)
  have hm := h.made hR hf
  obtain ⟨F, h2, _, h3, h4⟩ := h
  obtain ⟨_, h5, h6, _, _⟩ := hm
  have hR' : R w' F := hR [] w w' F h2.res hf (by simp)
  have hlt : ∀ k ∈ F, k < w'.heap.size := fun k hk => Nat.lt_of_lt_of_le (h2.lt k hk) hle
  refine ⟨F' ++ F, ⟨⟨F', F, h1.res, hR', fun k hk hm => ?_, h1.lt, hlt, rfl⟩, fun k hk => ?_, fun p hp => ⟨hf.obj (h2.box p hp).1 (by simp), fun hm => ?_⟩⟩, h6, fun k hk => ?_, Nat.le_trans h4 hle⟩
  · have := hlo k hk; have := h2.lt k hm; omega
  · rcases List.mem_append.1 hk with h | h
    · exact h1.lt k h
    · exact hlt k h
  · rcases List.mem_append.1 hm with h | h
    · have := hlo _ h; have := lt_of_obj (h2.box p hp).1; omega
    · exact (h2.box p hp).2 h
  · rcases List.mem_append.1 hk with h | h
    · have := hlo k h; omega
    · exact h3 k h
/-- What Settle does, beside what is held. -/
def SettleGoes (s : List Mv) (er : Int) (B : Nat) (w0 : World) (R : World → List Nat → Prop) (L : List (Nat × Obj)) (e : Ending) (w' : World) : Prop :=
  ∃ (a : Option Addr) (c : Nat), e = .returned (.tuple #[.slice a s.length c, .int .i64 er]) ∧ Holds B w0 (sepR (rowR 51 8 (.slice a s.length c) s.length (msgCells s)) R) w' L
theorem settle_goes {R : World → List Nat → Prop} {B : Nat} {w0 w : World} {L : List (Nat × Obj)} (hR : Stable R) (h : Holds B w0 R w L) {a : Option Addr} {n cap : Nat} {l : List Mv} (hl : MsgsAt w a n cap l) (hn : n ≤ 200) {s : List Mv} {er : Int} (hs : settled l = s) (he : errOf l = er) :
    Calls Try.prog 21 #[.slice a n cap] w (SettleGoes s er B w0 R L) := by
  subst hs he
  refine (settle_any w a n cap l hl hn).mono fun e w' hd => ?_
  obtain ⟨a', c', rfl, h'⟩ := hd
  exact ⟨a', c', rfl, h.join hR h'⟩

def exA : Ev := ⟨⟨5, 0, 1, 0⟩, 1, 0, 0⟩
def exB : Ev := ⟨⟨5, 0, 1, 1⟩, 1, 0, 0⟩
def exL : List Mv := [⟨exA, false⟩, ⟨exB, false⟩, ⟨exA, true⟩]
theorem exL_settled : settled exL = [⟨exB, false⟩] ∧ errOf exL = 0 := by decide
theorem exL_wf : ∀ m ∈ exL, m.Wf := by
  intro m hm
  simp only [exL, List.mem_cons, List.not_mem_nil, or_false] at hm
  rcases hm with rfl | rfl | rfl <;> exact ⟨rfl, rfl, rfl⟩

def oA : Obj := .cells #[.int .i64 5, .int .i64 0, .int .i64 1, .int .i64 0, .int .i64 1, .int .i64 0, .int .i64 0] 25
def oB : Obj := .cells #[.int .i64 5, .int .i64 0, .int .i64 1, .int .i64 1, .int .i64 1, .int .i64 0, .int .i64 0] 25
def oL : Obj := .cells (msgCells exL).toArray 51
attribute [local go_sem high] id_guard in
set_option maxHeartbeats 2000000 in
set_option maxRecDepth 100000 in
theorem awake_any (w : World) : Calls Try.prog 16 #[] w (Says (.bool true) w) := by
  have H0 := Lib.hid ((((Holds.start w).alloc noneR_stable oA).alloc noneR_stable oB).alloc noneR_stable oL)
  have hm0 : MsgsAt (((w.alloc oA).alloc oB).alloc oL) (some ⟨w.heap.size + 1 + 1, 0, none⟩) 3 3 exL := MsgsAt.of_obj (t := 51) (by have h := obj_new ((w.alloc oA).alloc oB) oL; simp only [World.size_alloc] at h; exact h) (by decide) exL_wf
  have M0 := Lib.hid hm0
  have hcm := compare_any exA.k exB.k
  have hcv : exA.k.cmp exB.k = -1 := by decide
  rw [hcv] at hcm
  have Hcm := Lib.hid hcm
  clear hm0 hcm hcv
  go_enter Try.func16, Try.ntmps16
  go_wp2_with fail
  refine (settle_goes noneR_stable H0.out M0.out (by decide) exL_settled.1 exL_settled.2).mono ?_
  rintro e w1 ⟨a1, c1, rfl, h1⟩
  have H1 := Lib.hid h1
  clear h1
  have hst := sepR_stable (rowR_stable 51 8 (.slice a1 1 c1) 1 (msgCells [⟨exB, false⟩])) noneR_stable
  obtain ⟨p0, p1, p2, p3, p4, p5, p6⟩ := cells7 (H1.out.box (k := w.heap.size) (o := oA) (by simp))
  obtain ⟨q0, q1, q2, q3, q4, q5, q6⟩ := cells7 (H1.out.box (k := w.heap.size + 1) (o := oB) (by simp))
  go_wp2_with fail
  refine (Hcm.out _).mono ?_
  rintro e w2 ⟨rfl, hf⟩
  have H2 := Lib.hid (H1.out.made hst hf)
  clear hf p0 p1 p2 p3 p4 p5 p6 q0 q1 q2 q3 q4 q5 q6
  obtain ⟨q0, q1, q2, q3, q4, q5, q6⟩ := cells7 (H2.out.box (k := w.heap.size + 1) (o := oB) (by simp))
  go_wp2_with fail
  have h3 := H2.out.alloc hst (.cells (msgCells [⟨exB, false⟩]).toArray 51)
  have hr1 := MsgsAt.of_row h3.row rfl (fun m hm => exL_wf m (by simp at hm; subst hm; simp [exL]))
  have hr2 : MsgsAt (w2.alloc (.cells (msgCells [⟨exB, false⟩]).toArray 51)) (some ⟨w2.heap.size, 0, none⟩) 1 1 [⟨exB, false⟩] := MsgsAt.of_obj (t := 51) (obj_new _ _) (by decide) (fun m hm => exL_wf m (by simp at hm; subst hm; simp [exL]))
  have hms := messages_any _ _ _ _ _ _ _ _ _ hr1 hr2 (by decide)
  have hd1 : decide (([⟨exB, false⟩] : List Mv) = [⟨exB, false⟩]) = true := by simp
  rw [hd1] at hms
  refine hms.mono ?_
  rintro e w3 ⟨rfl, hf⟩
  have H3 := Lib.hid (h3.made hst hf)
  clear hf hr1 hr2 hms h3 hd1 q0 q1 q2 q3 q4 q5 q6
  obtain ⟨q0, q1, q2, q3, q4, q5, q6⟩ := cells7 (H3.out.box (k := w.heap.size + 1) (o := oB) (by simp))
  go_wp2_with fail
  refine (of_any exB _).mono ?_
  rintro e w4 ⟨rfl, hf⟩
  have H4 := Lib.hid (H3.out.made hst hf)
  clear hf q0 q1 q2 q3 q4 q5 q6
  have hid := id_eql ⟨0, 1, 1⟩ ⟨0, 1, 1⟩
  have hid1 : decide ((⟨0, 1, 1⟩ : Iv) = ⟨0, 1, 1⟩) = true := by simp
  rw [hid1] at hid
  go_wp2_with fail
  go_ret
  exact ⟨rfl, Frm.of_below H4.out.below (Nat.le_refl _)⟩
end Go.Proofs.Ytagldjlaagphlaa
