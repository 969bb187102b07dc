/- The document's answer for Settle, walked. -/
import Derived.Test.YtgokppifnjeedaaKeysLeftA
namespace Go.Proofs.Ytgokppifnjeedaa
open Go.RowKit Go.Maps

/-- Behind k messages: is the one at i alone? -/
def aloneB (l : List Mv) (m : Mv) (i k : Nat) : Bool := decide (cnt (l.take k) m.id ≤ if i < k then 1 else 0)
theorem aloneB_start (l : List Mv) (m : Mv) (i : Nat) : aloneB l m i 0 = true := by simp [aloneB, cnt]
theorem aloneB_same {l : List Mv} {m : Mv} {i : Nat} (h : l[i]? = some m) : aloneB l m i (i + 1) = aloneB l m i i := by
  unfold aloneB
  rw [cnt_take h, if_pos rfl, if_pos (by omega), if_neg (by omega), decide_eq_decide]
  omega
theorem aloneB_other {l : List Mv} {m x : Mv} {i k : Nat} (h : l[k]? = some x) (hk : k ≠ i) (hx : x.id ≠ m.id) : aloneB l m i (k + 1) = aloneB l m i k := by
  unfold aloneB
  rw [cnt_take h, if_neg hx, decide_eq_decide]
  by_cases h1 : i < k
  · rw [if_pos h1, if_pos (by omega)]; omega
  · rw [if_neg h1, if_neg (by omega)]; omega
theorem aloneB_hit {l : List Mv} {m x : Mv} {i k : Nat} (hm : l[i]? = some m) (h : l[k]? = some x) (hk : k ≠ i) (hx : x.id = m.id) : aloneB l m i (k + 1) = false := by
  unfold aloneB
  rw [cnt_take h, if_pos hx, decide_eq_false_iff_not]
  by_cases h1 : i < k
  · have : 0 < cnt (l.take k) m.id := cnt_mem (List.mem_of_getElem? (get_take hm h1))
    rw [if_pos (by omega)]
    omega
  · rw [if_neg (by omega)]
    omega
theorem aloneB_end {l : List Mv} {m : Mv} {i : Nat} (h : l[i]? = some m) : aloneB l m i l.length = (cnt l m.id == 1) := by
  unfold aloneB
  have hl := (List.getElem?_eq_some_iff.1 h).1
  have hp := cnt_mem (List.mem_of_getElem? h)
  rw [List.take_length, if_pos hl, Bool.eq_iff_iff, decide_eq_true_eq, beq_iff_eq]
  omega
/-- No two of those that were looked at clash. -/
def NoC (l : List Mv) (i : Nat) : Prop := ∀ (p q : Nat) (a b : Mv), p < i → q ≠ p → l[p]? = some a → l[q]? = some b → b.id = a.id → b.meets a = true
def NoK (l : List Mv) (i k : Nat) : Prop := ∀ (q : Nat) (a b : Mv), q < k → q ≠ i → l[i]? = some a → l[q]? = some b → b.id = a.id → b.meets a = true
theorem noC_end {l : List Mv} (h : NoC l l.length) : clash l = false := by
  rw [clash_iff, List.pairwise_iff_getElem]
  intro p q hp hq hpq e
  rw [meets_comm]
  exact h p q _ _ hp (by omega) (List.getElem?_eq_getElem hp) (List.getElem?_eq_getElem hq) e.symm
theorem noC_succ {l : List Mv} {i : Nat} (h : NoC l i) (hk : NoK l i l.length) : NoC l (i + 1) := by
  intro p q a b hp hq ha hb e
  by_cases hpi : p < i
  · exact h p q a b hpi hq ha hb e
  · obtain rfl : p = i := by omega
    exact hk q a b (List.getElem?_eq_some_iff.1 hb).1 hq ha hb e
theorem noK_succ {l : List Mv} {i k : Nat} (h : NoK l i k) (hs : k ≠ i → ∀ a b, l[i]? = some a → l[k]? = some b → b.id = a.id → b.meets a = true) : NoK l i (k + 1) := by
  intro q a b hq hqi ha hb e
  by_cases hqk : q < k
  · exact h q a b hqk hqi ha hb e
  · obtain rfl : q = k := by omega
    exact hs hqi a b ha hb e
theorem clash_of {l : List Mv} {p q : Nat} {a b : Mv} (hpq : q ≠ p) (ha : l[p]? = some a) (hb : l[q]? = some b) (hid : b.id = a.id) (hm : b.meets a = false) : clash l = true := by
  cases h : clash l
  · exfalso
    rw [clash_iff, List.pairwise_iff_getElem] at h
    have hp := List.getElem?_eq_some_iff.1 ha
    have hq := List.getElem?_eq_some_iff.1 hb
    obtain ⟨hp1, hp2⟩ := hp
    obtain ⟨hq1, hq2⟩ := hq
    by_cases hlt : p < q
    · have := h p q hp1 hq1 hlt (by rw [hp2, hq2]; exact hid.symm)
      rw [hp2, hq2, meets_comm, hm] at this
      cases this
    · have := h q p hq1 hp1 (by omega) (by rw [hp2, hq2]; exact hid)
      rw [hp2, hq2, hm] at this
      cases this
  · rfl

def RORel (B : Nat) (w0 : World) (n : Nat) (l : List Mv) (ov iv : Value) (wr : World) : Prop :=
  ∃ (i : Nat) (a : Option Addr) (c : Nat), i ≤ n ∧ iv = .int .i64 (i : Int) ∧ ov = .slice a (leftK l i).length c ∧ NoC l i ∧ Holds B w0 (sepR (rowR 51 8 (.slice a (leftK l i).length c) (leftK l i).length (msgCells (leftK l i))) noneR) wr []
def RIRel (B : Nat) (w0 : World) (R : World → List Nat → Prop) (n : Nat) (l : List Mv) (m : Mv) (i : Nat) (av kv : Value) (wr : World) : Prop :=
  ∃ k : Nat, k ≤ n ∧ kv = .int .i64 (k : Int) ∧ av = .bool (aloneB l m i k) ∧ NoK l i k ∧ Holds B w0 R wr []

attribute [local go_sem high] event_neq event_guard in
set_option maxHeartbeats 2000000 in
set_option maxRecDepth 100000 in
theorem rsettle_any (w : World) (a : Option Addr) (n cap : Nat) (l : List Mv) (hl : MsgsAt w a n cap l) (hn : n ≤ 200) : Calls Try.prog 22 #[.slice a n cap] w (SettleDoes l w) := by
  have hlen := hl.1
  have Hl := Lib.hid hl
  have Hlen := Lib.hid hlen
  have hloop : RORel w.heap.size w n l (.slice none 0 0) (.int .i64 0) w := ⟨0, none, 0, Nat.zero_le _, rfl, rfl, fun p q a b hp => absurd hp (Nat.not_lt_zero _), (Holds.start w).nilRow 51 8⟩
  have Hloop := Lib.hid hloop
  clear hl hlen hloop
  go_enter Try.func22, Try.ntmps22
  go_wp2_with fail
  go_loopw [4, 5] (fun ov iv wr => RORel w.heap.size w n l ov iv wr) (fun _ iv _ => n - (intOf iv).toNat)
  case atStart => exact Hloop.out
  case round =>
    obtain ⟨i, ao, co, hi, rfl, rfl, hnc, hH⟩ := hrel
    have Hnc := Lib.hid hnc
    have HO := Lib.hid hH
    have hll := leftK_len l i
    have hR : Stable (sepR (rowR 51 8 (.slice ao (leftK l i).length co) (leftK l i).length (msgCells (leftK l i))) noneR) := sepR_stable (rowR_stable _ _ _ _ _) noneR_stable
    clear hnc hH Hloop
    by_cases hlt : i < n
    · obtain ⟨bl, off, mi, rfl, hblt, hmi, _⟩ := Hl.out.at_ hlt
      have Hmi := Lib.hid hmi
      have hloop : RIRel w.heap.size w (sepR (rowR 51 8 (.slice ao (leftK l i).length co) (leftK l i).length (msgCells (leftK l i))) noneR) n l mi i (.bool true) (.int .i64 0) wr := ⟨0, Nat.zero_le _, rfl, by rw [aloneB_start], fun q a b hq => absurd hq (Nat.not_lt_zero _), HO.out⟩
      have Hloop := Lib.hid hloop
      clear hloop HO hmi
      go_wp2_with fail
      go_loopw [6, 7] (fun av kv wr => RIRel w.heap.size w (sepR (rowR 51 8 (.slice ao (leftK l i).length co) (leftK l i).length (msgCells (leftK l i))) noneR) n l mi i av kv wr) (fun _ kv _ => n - (intOf kv).toNat)
      case atStart => exact Hloop.out
      case round =>
        obtain ⟨k, hk, rfl, rfl, hnk, hH⟩ := hrel
        have Hnk := Lib.hid hnk
        have HI := Lib.hid hH
        clear hnk hH Hloop
        by_cases hlt2 : k < n
        · have hm1 := Hl.out.frm (Frm.of_below HI.out.below (Nat.le_refl _))
          obtain ⟨_, _, mi', he1, hbi, hmi', p0, p1, p2, p3, p4, p5, p6, p7⟩ := hm1.at_ hlt
          simp only [Option.some.injEq, Addr.mk.injEq, and_true] at he1
          obtain ⟨rfl, rfl⟩ := he1
          rw [Hmi.out] at hmi'
          obtain rfl := Option.some.inj hmi'
          obtain ⟨_, _, mk, he1, _, hmk, q0, q1, q2, q3, q4, q5, q6, q7⟩ := hm1.at_ hlt2
          simp only [Option.some.injEq, Addr.mk.injEq, and_true] at he1
          obtain ⟨rfl, rfl⟩ := he1
          have Hmk := Lib.hid hmk
          have hcap := Hl.out.2.1
          clear hm1 hmi' hmk
          by_cases hki : k = i
          · subst hki
            have hg : (k == k) = true := by simp
            have hsame := aloneB_same Hmi.out
            have Hsame := Lib.hid hsame
            clear hsame
            go_wp2_with fail
            go_quiet (fail)
            go_wp2_with fail
            go_roundw
            case rel => exact ⟨k + 1, by omega, by go_num, by rw [Hsame.out], noK_succ Hnk.out (fun h => absurd rfl h), HI.out.drewN hR _⟩
            case measure => simp [intOf]; omega
          · have hg1 : (k == i) = false := by simpa using hki
            have hg2 : ((k : Int) == (i : Int)) = false := by rw [beq_eq_false_iff_ne]; omega
            have hc := same_any mk.e mi.e
            have Hki := Lib.hid hki
            clear hki
            cases hsm : mk.e.sameId mi.e
            · rw [hsm] at hc
              have Hc := Lib.hid hc
              have hne : mk.id ≠ mi.id := of_decide_eq_false hsm
              have hal := aloneB_other Hmk.out Hki.out hne
              have Hne := Lib.hid hne
              have Hal := Lib.hid hal
              clear hc hsm hne hal
              go_wp2_with fail
              go_region_held3 (fun w' => w'.cell? ⟨bl, off + i * 8, none⟩ = some (.int .i64 mi.e.k.at_) ∧ w'.cell? ⟨bl, off + i * 8 + 1, none⟩ = some (.int .i64 mi.e.k.src) ∧ w'.cell? ⟨bl, off + i * 8 + 2, none⟩ = some (.int .i64 mi.e.k.sent) ∧ w'.cell? ⟨bl, off + i * 8 + 3, none⟩ = some (.int .i64 mi.e.k.no) ∧ w'.cell? ⟨bl, off + i * 8 + 4, none⟩ = some (.int .i64 mi.e.dst) ∧ w'.cell? ⟨bl, off + i * 8 + 5, none⟩ = some (.int .i64 mi.e.kind) ∧ w'.cell? ⟨bl, off + i * 8 + 6, none⟩ = some (.int .i64 mi.e.data) ∧ w'.cell? ⟨bl, off + i * 8 + 7, none⟩ = some (.bool mi.anti) ∧ w'.cell? ⟨bl, off + k * 8, none⟩ = some (.int .i64 mk.e.k.at_) ∧ w'.cell? ⟨bl, off + k * 8 + 1, none⟩ = some (.int .i64 mk.e.k.src) ∧ w'.cell? ⟨bl, off + k * 8 + 2, none⟩ = some (.int .i64 mk.e.k.sent) ∧ w'.cell? ⟨bl, off + k * 8 + 3, none⟩ = some (.int .i64 mk.e.k.no) ∧ w'.cell? ⟨bl, off + k * 8 + 4, none⟩ = some (.int .i64 mk.e.dst) ∧ w'.cell? ⟨bl, off + k * 8 + 5, none⟩ = some (.int .i64 mk.e.kind) ∧ w'.cell? ⟨bl, off + k * 8 + 6, none⟩ = some (.int .i64 mk.e.data) ∧ w'.cell? ⟨bl, off + k * 8 + 7, none⟩ = some (.bool mk.anti))
                (first | go_keep | exact ⟨hf.cell p0 (by simp), hf.cell p1 (by simp), hf.cell p2 (by simp), hf.cell p3 (by simp), hf.cell p4 (by simp), hf.cell p5 (by simp), hf.cell p6 (by simp), hf.cell p7 (by simp), hf.cell q0 (by simp), hf.cell q1 (by simp), hf.cell q2 (by simp), hf.cell q3 (by simp), hf.cell q4 (by simp), hf.cell q5 (by simp), hf.cell q6 (by simp), hf.cell q7 (by simp)⟩)
                ((go_at_call 32; refine (Hc.out _).mono ?_; rintro e w4 ⟨rfl, hf⟩))
              have h4 := (show Holds w.heap.size w _ w4 _ from by first | exact HI.out.made hR hf | exact (HI.out.drew hR).made hR hf)
              have H4 := Lib.hid h4
              clear h4 hf
              go_wp2_with fail
              go_roundw
              case rel => exact ⟨k + 1, by omega, by go_num, by rw [Hal.out], noK_succ Hnk.out (fun _ a b ha hb e => absurd e (by rw [Hmi.out] at ha; rw [Hmk.out] at hb; cases ha; cases hb; exact Hne.out)), H4.out⟩
              case measure => simp [intOf]; omega
            · rw [hsm] at hc
              have Hc := Lib.hid hc
              have heq : mk.id = mi.id := of_decide_eq_true hsm
              have hal := aloneB_hit Hmi.out Hmk.out Hki.out heq
              have Heq := Lib.hid heq
              have Hal := Lib.hid hal
              clear hc hsm heq hal
              go_wp2_with fail
              go_region_held3 (fun w' => w'.cell? ⟨bl, off + i * 8, none⟩ = some (.int .i64 mi.e.k.at_) ∧ w'.cell? ⟨bl, off + i * 8 + 1, none⟩ = some (.int .i64 mi.e.k.src) ∧ w'.cell? ⟨bl, off + i * 8 + 2, none⟩ = some (.int .i64 mi.e.k.sent) ∧ w'.cell? ⟨bl, off + i * 8 + 3, none⟩ = some (.int .i64 mi.e.k.no) ∧ w'.cell? ⟨bl, off + i * 8 + 4, none⟩ = some (.int .i64 mi.e.dst) ∧ w'.cell? ⟨bl, off + i * 8 + 5, none⟩ = some (.int .i64 mi.e.kind) ∧ w'.cell? ⟨bl, off + i * 8 + 6, none⟩ = some (.int .i64 mi.e.data) ∧ w'.cell? ⟨bl, off + i * 8 + 7, none⟩ = some (.bool mi.anti) ∧ w'.cell? ⟨bl, off + k * 8, none⟩ = some (.int .i64 mk.e.k.at_) ∧ w'.cell? ⟨bl, off + k * 8 + 1, none⟩ = some (.int .i64 mk.e.k.src) ∧ w'.cell? ⟨bl, off + k * 8 + 2, none⟩ = some (.int .i64 mk.e.k.sent) ∧ w'.cell? ⟨bl, off + k * 8 + 3, none⟩ = some (.int .i64 mk.e.k.no) ∧ w'.cell? ⟨bl, off + k * 8 + 4, none⟩ = some (.int .i64 mk.e.dst) ∧ w'.cell? ⟨bl, off + k * 8 + 5, none⟩ = some (.int .i64 mk.e.kind) ∧ w'.cell? ⟨bl, off + k * 8 + 6, none⟩ = some (.int .i64 mk.e.data) ∧ w'.cell? ⟨bl, off + k * 8 + 7, none⟩ = some (.bool mk.anti))
                (first | go_keep | exact ⟨hf.cell p0 (by simp), hf.cell p1 (by simp), hf.cell p2 (by simp), hf.cell p3 (by simp), hf.cell p4 (by simp), hf.cell p5 (by simp), hf.cell p6 (by simp), hf.cell p7 (by simp), hf.cell q0 (by simp), hf.cell q1 (by simp), hf.cell q2 (by simp), hf.cell q3 (by simp), hf.cell q4 (by simp), hf.cell q5 (by simp), hf.cell q6 (by simp), hf.cell q7 (by simp)⟩)
                ((go_at_call 32; refine (Hc.out _).mono ?_; rintro e w4 ⟨rfl, hf⟩))
              have h4 := (show Holds w.heap.size w _ w4 _ from by first | exact HI.out.made hR hf | exact (HI.out.drew hR).made hR hf)
              have H4 := Lib.hid h4
              rename_i hSS
              clear hSS
              have P0 := hf.cell p0 (by simp)
              have P1 := hf.cell p1 (by simp)
              have P2 := hf.cell p2 (by simp)
              have P3 := hf.cell p3 (by simp)
              have P4 := hf.cell p4 (by simp)
              have P5 := hf.cell p5 (by simp)
              have P6 := hf.cell p6 (by simp)
              have P7 := hf.cell p7 (by simp)
              have Q0 := hf.cell q0 (by simp)
              have Q1 := hf.cell q1 (by simp)
              have Q2 := hf.cell q2 (by simp)
              have Q3 := hf.cell q3 (by simp)
              have Q4 := hf.cell q4 (by simp)
              have Q5 := hf.cell q5 (by simp)
              have Q6 := hf.cell q6 (by simp)
              have Q7 := hf.cell q7 (by simp)
              have hb4 := World.block_lt_of_cell? _ _ P0
              dsimp only at hb4
              clear h4 hf p0 q0 p1 q1 p2 q2 p3 q3 p4 q4 p5 q5 p6 q6 p7 q7
              cases hme : mk.meets mi
              · have hbad := settle_bad (clash_of Hki.out Hmi.out Hmk.out Heq.out hme)
                have Hbad := Lib.hid hbad
                clear hbad
                by_cases han : mk.anti = mi.anti
                · rw [han] at Q7
                  clear han hme
                  cases hB : mi.anti
                  all_goals
                    rw [hB] at P7 Q7
                    clear hB
                    go_wp2_with fail
                    go_quiet (fail)
                    go_wp2_with fail
                    go_ret2
                    refine ⟨none, 0, ?_, ?_⟩
                    · rw [Hbad.out.1, Hbad.out.2]; rfl
                    · rw [Hbad.out.1]
                      exact (sepR_comm ((H4.out.drewN hR _).nilRow 51 8)).drop.sub (by simp)
                · have hee : decide (mk.e = mi.e) = false := by
                    unfold Mv.meets at hme
                    rw [show (mk.anti != mi.anti) = true from by simpa using han, Bool.true_and] at hme
                    exact hme
                  have Han := Lib.hid han
                  clear han hme
                  cases hA : mk.anti <;> cases hB : mi.anti
                  all_goals first
                    | exact absurd (hA.trans hB.symm) Han.out
                    | (rw [hB] at P7
                       rw [hA] at Q7
                       clear hA hB
                       go_wp2_with fail
                       go_quiet (fail)
                       go_wp2_with fail
                       go_ret2
                       refine ⟨none, 0, ?_, ?_⟩
                       · rw [Hbad.out.1, Hbad.out.2]; rfl
                       · rw [Hbad.out.1]
                         exact (sepR_comm ((H4.out.drewN hR _).nilRow 51 8)).drop.sub (by simp))
              · have han := meets_anti hme
                have hee : decide (mk.e = mi.e) = true := by
                  simp only [Mv.meets, Bool.and_eq_true] at hme
                  exact hme.2
                have Hme := Lib.hid hme
                have Han := Lib.hid han
                clear han hme
                cases hA : mk.anti <;> cases hB : mi.anti
                all_goals first
                  | exact absurd (hA.trans hB.symm) Han.out
                  | (rw [hB] at P7
                     rw [hA] at Q7
                     clear hA hB
                     go_wp2_with fail
                     go_quiet (fail)
                     go_wp2_with fail
                     go_roundw
                     case rel => exact ⟨k + 1, by omega, by go_num, by rw [Hal.out], noK_succ Hnk.out (fun _ a b ha hb e => by rw [Hmi.out] at ha; rw [Hmk.out] at hb; cases ha; cases hb; exact Hme.out), H4.out.drewN hR _⟩
                     case measure => simp [intOf]; omega)
        · obtain rfl : k = n := by omega
          have hnk := Hnk.out
          have hae := aloneB_end Hmi.out
          rw [Hlen.out] at hae
          have hnc := noC_succ Hnc.out (by rw [Hlen.out]; exact hnk)
          have Hnc2 := Lib.hid hnc
          have hsc := leftK_succ Hmi.out
          rw [← hae] at hsc
          obtain ⟨_, _, mi', he1, hbi, hmi', p0, p1, p2, p3, p4, p5, p6, p7⟩ := (Hl.out.frm (Frm.of_below HI.out.below (Nat.le_refl _))).at_ hlt
          simp only [Option.some.injEq, Addr.mk.injEq, and_true] at he1
          obtain ⟨rfl, rfl⟩ := he1
          rw [Hmi.out] at hmi'
          obtain rfl := Option.some.inj hmi'
          have hcap := Hl.out.2.1
          clear hnk hae hnc hmi'
          cases hal : aloneB l mi i k
          · rw [hal] at hsc
            simp only [Bool.false_eq_true, if_false, List.append_nil] at hsc
            have Hsc := Lib.hid hsc
            clear hsc
            go_wp2_with fail
            go_roundw
            case rel => exact ⟨i + 1, ao, co, by omega, by go_num, by rw [Hsc.out], Hnc2.out, by rw [Hsc.out]; exact HI.out⟩
            case measure => simp [intOf]; omega
          · rw [hal] at hsc
            simp only [if_true] at hsc
            have Hsc := Lib.hid hsc
            clear hsc
            go_wp2_with (at_builtin; refine Stop.of ?_)
            refine Stop.go ?_
            obtain ⟨i1, hj0, hj1, hj2, hj3⟩ := info_parts infoMessage
            have h5 := HI.out.alloc hR (.cells #[.int .i64 mi.e.k.at_, .int .i64 mi.e.k.src, .int .i64 mi.e.k.sent, .int .i64 mi.e.k.no, .int .i64 mi.e.dst, .int .i64 mi.e.kind, .int .i64 mi.e.data, .bool mi.anti] 51)
            refine wpList_append_foot _ rfl _ _ 43 rfl 51 i1 (.agg #[.int .i64 0, .int .i64 0, .int .i64 0, .int .i64 0, .int .i64 0, .int .i64 0, .int .i64 0, .bool false]) 8 64 Try.underlying43 hj0 hj1 hj2 hj3 rfl (by decide) (.slice ao (leftK l i).length co) (leftK l i).length (msgCells (leftK l i)) rfl h5.row ⟨_, 0, none⟩ 1 1 mi.cells rfl rfl (cells_at _ mi.cells _ _ (by simp)) (by simp [Mv.cells, Value.oneCell']) (by unfold maxLen; omega) (by omega) ?_
            intro ao' co' w4 hown hF hnew
            have H6 := Lib.hid (h5.appended noneR_stable hown hF hnew)
            clear hown hF hnew h5
            go_wp2_with fail
            go_roundw
            case rel =>
              have e1 : (leftK l (i + 1)).length = (leftK l i).length + 1 := by rw [Hsc.out]; simp
              have e2 : msgCells (leftK l (i + 1)) = msgCells (leftK l i) ++ mi.cells := by rw [Hsc.out, msgCells_append]; rfl
              refine ⟨i + 1, ao', co', by omega, by go_num, by rw [e1], Hnc2.out, ?_⟩
              rw [e1, e2]
              exact H6.out.sub (by simp)
            case measure => simp [intOf]; omega
    · obtain rfl : i = n := by omega
      have hs := settle_good (noC_end (by rw [Hlen.out]; exact Hnc.out))
      have hll2 : leftK l i = settled l := by rw [hs.1, ← leftK_end, Hlen.out]
      have Hs := Lib.hid hs
      have Hll := Lib.hid hll2
      clear hs hll2
      go_wp2_with fail
      go_ret2
      have h6 := HO.out
      rw [Hll.out] at h6 ⊢
      exact ⟨ao, co, by rw [Hs.out.2]; rfl, (sepR_comm h6).drop.sub (by simp)⟩
end Go.Proofs.Ytgokppifnjeedaa
