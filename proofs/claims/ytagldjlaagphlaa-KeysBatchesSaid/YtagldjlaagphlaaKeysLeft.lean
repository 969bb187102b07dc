/- KeysLeft, walked. -/
import Derived.Test.YtagldjlaagphlaaKeysLeftA
namespace Go.Proofs.Ytagldjlaagphlaa
open Go.RowKit Go.Maps

set_option maxHeartbeats 1000000 in
set_option maxRecDepth 100000 in
theorem kleft_out (w : World) (a1 : Option Addr) (n1 c1 : Nat) (fr nn : Int) (h : 40 < n1 ∨ nn < 0 ∨ (n1 : Int) < nn ∨ n1 = 0) : Calls Try.prog 7 #[.slice a1 n1 c1, .int .i64 fr, .int .i64 nn] w (LawTrue w) := by
  by_cases h1 : 40 < n1
  · go_enter Try.func7, Try.ntmps7
    go_wp2_with fail
    refine (awake_any _).mono ?_
    rintro e w1 ⟨rfl, hf⟩
    go_wp2_with fail
    go_ret
    exact ⟨rfl, hf.below (Nat.le_refl _) (by simp)⟩
  by_cases h2 : nn < 0
  · go_enter Try.func7, Try.ntmps7
    go_wp2_with fail
    refine (awake_any _).mono ?_
    rintro e w1 ⟨rfl, hf⟩
    go_wp2_with fail
    go_ret
    exact ⟨rfl, hf.below (Nat.le_refl _) (by simp)⟩
  by_cases h3 : (n1 : Int) < nn
  · go_enter Try.func7, Try.ntmps7
    go_wp2_with fail
    refine (awake_any _).mono ?_
    rintro e w1 ⟨rfl, hf⟩
    go_wp2_with fail
    go_ret
    exact ⟨rfl, hf.below (Nat.le_refl _) (by simp)⟩
  obtain rfl : n1 = 0 := by omega
  clear h
  go_enter Try.func7, Try.ntmps7
  go_wp2_with fail
  refine (awake_any _).mono ?_
  rintro e w1 ⟨rfl, hf⟩
  go_wp2_with fail
  go_ret
  exact ⟨rfl, hf.below (Nat.le_refl _) (by simp)⟩

/-- Going round, behind k messages. -/
def TRel (B : Nat) (w0 : World) (R : World → List Nat → Prop) (n : Nat) (r : List Mv) (ov iv : Value) (wr : World) : Prop :=
  ∃ (k : Nat) (a : Option Addr) (c : Nat), k ≤ n ∧ iv = .int .i64 (k : Int) ∧ ov = .slice a k c ∧ Holds B w0 (sepR (rowR 51 8 (.slice a k c) k (msgCells (r.take k))) R) wr []

/-- The outer one of two loops, behind i rounds; the inner one, behind k. -/
def ORel (B : Nat) (w0 : World) (R : World → List Nat → Prop) (n : Nat) (iv : Value) (wr : World) : Prop := ∃ i : Nat, i ≤ n ∧ iv = .int .i64 (i : Int) ∧ Holds B w0 R wr []
def inB (a : Mv) (b : List Mv) (k : Nat) : Bool := (b.take k).any fun x => decide (a = x)
theorem inB_succ {a x : Mv} {b : List Mv} {k : Nat} (h : b[k]? = some x) : inB a b (k + 1) = (inB a b k || decide (a = x)) := by
  unfold inB
  rw [take_succ_of h, List.any_append]
  simp
theorem inB_end {a : Mv} {b : List Mv} (h : a ∈ b) : inB a b b.length = true := by
  unfold inB
  rw [List.take_length, List.any_eq_true]
  exact ⟨a, h, by simp⟩
def IRel (B : Nat) (w0 : World) (R : World → List Nat → Prop) (n : Nat) (a : Mv) (b : List Mv) (nv kv : Value) (wr : World) : Prop := ∃ k : Nat, k ≤ n ∧ kv = .int .i64 (k : Int) ∧ nv = .bool (inB a b k) ∧ Holds B w0 R wr []

attribute [local go_sem high] message_eql message_guard in
set_option maxHeartbeats 4000000 in
set_option maxRecDepth 100000 in
theorem kleft_in (w : World) (a1 : Option Addr) (n1 c1 : Nat) (l : List Mv) (fr : Int) (nn : Nat) (hl : MsgsAt w a1 n1 c1 l) (h1 : 0 < n1) (h2 : n1 ≤ 40) (h3 : nn ≤ n1) :
    Calls Try.prog 7 #[.slice a1 n1 c1, .int .i64 fr, .int .i64 (nn : Int)] w (LawTrue w) := by
  obtain ⟨b1, o1, _, rfl, hb1, _⟩ := hl.at_ h1
  have hl1 := hl.1
  have gc1 := hl.2.1
  obtain ⟨j, hj, hjn⟩ := idx_mod fr n1 h1 (by omega)
  have Hl := Lib.hid hl
  have Hl1 := Lib.hid hl1
  have Hj := Lib.hid hj
  have g1 : (n1 == 0) = false := by simp; omega
  have g1' : ((n1 : Int) == 0) = false := by rw [beq_eq_false_iff_ne]; omega
  have hsp := settled_perm (rot_perm l j)
  obtain ⟨s, hs⟩ : ∃ s, settled l = s := ⟨_, rfl⟩
  obtain ⟨s2, hs2⟩ : ∃ s2, settled (rot l j) = s2 := ⟨_, rfl⟩
  obtain ⟨er, her⟩ : ∃ er, errOf l = er := ⟨_, rfl⟩
  rw [hs, hs2, her] at hsp
  obtain ⟨L, hL⟩ : ∃ L, s.length = L := ⟨_, rfl⟩
  have hL2 : s2.length = L := by rw [← hL]; exact hsp.1.length_eq
  have hLn : L ≤ n1 := by rw [← hL, ← hs, ← hl1]; exact settled_len l
  have Hs := Lib.hid hs
  have Hs2 := Lib.hid hs2
  have Her := Lib.hid her
  have Hsp := Lib.hid hsp
  have HL := Lib.hid hL
  have HL2 := Lib.hid hL2
  have hswf : ∀ x ∈ s, x.Wf := fun x hx => hl.2.2.2.1 x (settled_mem x (by rw [hs]; exact hx))
  have hs2wf : ∀ x ∈ s2, x.Wf := fun x hx => hswf x (hsp.1.mem_iff.1 hx)
  have Hswf := Lib.hid hswf
  have Hs2wf := Lib.hid hs2wf
  clear hl hl1 hj hsp hs hs2 her hL hL2 hswf hs2wf
  go_enter Try.func7, Try.ntmps7
  go_wp2_with fail
  refine (settle_goesN noneR_stable (Holds.start w) Hl.out (by omega) Hs.out Her.out HL.out).mono ?_
  rintro e w2 ⟨a2, c2, rfl, h2'⟩
  have hR : Stable (sepR (rowR 51 8 (.slice a2 L c2) L (msgCells s)) noneR) := sepR_stable (rowR_stable _ _ _ _ _) noneR_stable
  have hloop : TRel w.heap.size w (sepR (rowR 51 8 (.slice a2 L c2) L (msgCells s)) noneR) n1 (rot l j) (.slice none 0 0) (.int .i64 0) w2 := ⟨0, none, 0, Nat.zero_le _, rfl, rfl, h2'.nilRow 51 8⟩
  have Hloop := Lib.hid hloop
  clear h2' hloop
  go_wp2_with fail
  go_loopw [9, 10] (fun ov iv wr => TRel w.heap.size w (sepR (rowR 51 8 (.slice a2 L c2) L (msgCells s)) noneR) n1 (rot l j) ov iv wr) (fun _ iv _ => n1 - (intOf iv).toNat)
  case atStart => exact Hloop.out
  case round =>
    obtain ⟨k, a3, c3, hk, rfl, rfl, hH⟩ := hrel
    have HH := Lib.hid hH
    clear hH Hloop
    by_cases hlt : k < n1
    · have hmod : (j + k) % n1 < n1 := Nat.mod_lt _ h1
      obtain ⟨bl, off, m, hbo, hblt, hm, p0, p1, p2, p3, p4, p5, p6, p7⟩ := (Hl.out.frm (Frm.of_below HH.out.below (Nat.le_refl _))).at_ hmod
      simp only [Option.some.injEq, Addr.mk.injEq, and_true] at hbo
      obtain ⟨rfl, rfl⟩ := hbo
      have hrm := rem_nat j k n1
      have hrg : (rot l j)[k]? = some m := by rw [rot_get (by rw [Hl1.out]; exact hjn) (by rw [Hl1.out]; exact hlt), Hl1.out]; exact hm
      have hts := take_succ_of hrg
      have Hts := Lib.hid hts
      generalize (j + k) % n1 = q at hmod hrm p0 p1 p2 p3 p4 p5 p6 p7 hm
      clear hm hrg hts
      have hj := Hj.out
      go_wp2_with (at_builtin; refine Stop.of ?_)
      refine Stop.go ?_
      clear hj hrm
      obtain ⟨i1, hj0, hj1, hj2, hj3⟩ := info_parts infoMessage
      have h5 := HH.out.alloc (sepR_stable (rowR_stable _ _ _ _ _) hR) (.cells #[.int .i64 m.e.k.at_, .int .i64 m.e.k.src, .int .i64 m.e.k.sent, .int .i64 m.e.k.no, .int .i64 m.e.dst, .int .i64 m.e.kind, .int .i64 m.e.data, .bool m.anti] 51)
      refine wpList_append_foot _ rfl _ _ 43 rfl 51 i1 (.agg #[.int .i64 0, .int .i64 0, .int .i64 0, .int .i64 0, .int .i64 0, .int .i64 0, .int .i64 0, .bool false]) 8 64 Try.underlying43 hj0 hj1 hj2 hj3 rfl (by decide) (.slice a3 k c3) k (msgCells ((rot l j).take k)) rfl h5.row ⟨_, 0, none⟩ 1 1 m.cells rfl rfl (cells_at _ m.cells _ _ (by simp)) (by simp [Mv.cells, Value.oneCell']) (by unfold maxLen; omega) (by omega) ?_
      intro a3' c3' w4 hown hF hnew
      have H6 := Lib.hid (h5.appended hR hown hF hnew)
      clear hown hF hnew h5
      go_wp2_with fail
      go_roundw
      case rel =>
        have e2 : msgCells ((rot l j).take (k + 1)) = msgCells ((rot l j).take k) ++ m.cells := by rw [Hts.out, msgCells_append]; rfl
        refine ⟨k + 1, a3', c3', by omega, by go_num, rfl, ?_⟩
        rw [e2]
        exact H6.out.sub (by simp)
      case measure => simp [intOf]; omega
    · obtain rfl : k = n1 := by omega
      have hrl : (rot l j).length = k := by rw [rot_len, Hl1.out]
      have htk : (rot l j).take k = rot l j := List.take_of_length_le (by omega)
      have hh := HH.out
      rw [htk] at hh
      have hrw : ∀ x ∈ rot l j, x.Wf := fun x hx => Hl.out.2.2.2.1 x ((rot_perm l j).mem_iff.1 hx)
      have HT := Lib.hid hh
      have Hrl := Lib.hid hrl
      have Hrw := Lib.hid hrw
      have hR3 : Stable (sepR (rowR 51 8 (.slice a3 k c3) k (msgCells (rot l j))) (sepR (rowR 51 8 (.slice a2 L c2) L (msgCells s)) noneR)) := sepR_stable (rowR_stable _ _ _ _ _) hR
      clear hh hrl htk hrw HH Hj hjn
      go_wp2_with fail
      refine (settle_goesN hR3 HT.out (MsgsAt.of_row HT.out.row Hrl.out Hrw.out) (by omega) Hs2.out Hsp.out.2 HL2.out).mono ?_
      rintro e w5 ⟨a4, c4, rfl, h5'⟩
      have HB := Lib.hid h5'
      have hR4 : Stable (sepR (rowR 51 8 (.slice a4 L c4) L (msgCells s2)) (sepR (rowR 51 8 (.slice a3 k c3) k (msgCells (rot l j))) (sepR (rowR 51 8 (.slice a2 L c2) L (msgCells s)) noneR))) := sepR_stable (rowR_stable _ _ _ _ _) hR3
      clear h5'
      by_cases hcl : clash l = true
      · have h9 := settle_bad hcl
        rw [Hs.out, Her.out] at h9
        obtain ⟨rfl, rfl⟩ := h9
        obtain rfl : 0 = L := HL.out
        clear hcl
        go_wp2_with fail
        refine (awake_any _).mono ?_
        rintro e w9 ⟨rfl, hf⟩
        go_wp2_with fail
        go_ret
        exact ⟨rfl, (HB.out.made hR4 hf).below⟩
      · have hcl' : clash l = false := by simpa using hcl
        have h9 := settle_good hcl'
        rw [Hs.out, Her.out] at h9
        obtain ⟨hsl, rfl⟩ := h9
        have Hsl := Lib.hid hsl
        have Hcl := Lib.hid hcl'
        clear hcl hcl' hsl
        have hloop : ORel w.heap.size w (sepR (rowR 51 8 (.slice a4 L c4) L (msgCells s2)) (sepR (rowR 51 8 (.slice a3 k c3) k (msgCells (rot l j))) (sepR (rowR 51 8 (.slice a2 L c2) L (msgCells s)) noneR))) L (.int .i64 0) w5 := ⟨0, Nat.zero_le _, rfl, HB.out⟩
        have Hloop := Lib.hid hloop
        clear hloop HB HT
        go_wp2_with fail
        go_loopw [13] (fun iv wr => ORel w.heap.size w (sepR (rowR 51 8 (.slice a4 L c4) L (msgCells s2)) (sepR (rowR 51 8 (.slice a3 k c3) k (msgCells (rot l j))) (sepR (rowR 51 8 (.slice a2 L c2) L (msgCells s)) noneR))) L iv wr) (fun iv _ => L - (intOf iv).toNat)
        case atStart => exact Hloop.out
        case round =>
          obtain ⟨i, hi, rfl, hH⟩ := hrel
          have HO := Lib.hid hH
          clear hH Hloop
          by_cases hlt2 : i < L
          · obtain ⟨ai, hai⟩ : ∃ ai, s[i]? = some ai := ⟨_, List.getElem?_eq_getElem (by have := HL.out; omega)⟩
            have hain : inB ai s2 L = true := by rw [← HL2.out]; exact inB_end (Hsp.out.1.mem_iff.2 (List.mem_of_getElem? hai))
            have Hai := Lib.hid hai
            have Hain := Lib.hid hain
            have hloop : IRel w.heap.size w (sepR (rowR 51 8 (.slice a4 L c4) L (msgCells s2)) (sepR (rowR 51 8 (.slice a3 k c3) k (msgCells (rot l j))) (sepR (rowR 51 8 (.slice a2 L c2) L (msgCells s)) noneR))) L ai s2 (.bool false) (.int .i64 0) wr := ⟨0, Nat.zero_le _, rfl, by simp [inB], HO.out⟩
            have Hloop := Lib.hid hloop
            clear hloop HO hai hain
            go_wp2_with fail
            go_loopw [14, 15] (fun nv kv wr => IRel w.heap.size w (sepR (rowR 51 8 (.slice a4 L c4) L (msgCells s2)) (sepR (rowR 51 8 (.slice a3 k c3) k (msgCells (rot l j))) (sepR (rowR 51 8 (.slice a2 L c2) L (msgCells s)) noneR))) L ai s2 nv kv wr) (fun _ kv _ => L - (intOf kv).toNat)
            case atStart => exact Hloop.out
            case round =>
              obtain ⟨q, hq, rfl, rfl, hH⟩ := hrel
              have HI := Lib.hid hH
              clear hH Hloop
              by_cases hlt3 : q < L
              ·
                obtain ⟨ga, rfl, hga, hca⟩ := row_addr HI.out.row3 (by omega)
                obtain ⟨gb, rfl, hgb, hcb⟩ := row_addr HI.out.row (by omega)
                obtain ⟨_, _, ai', he1, _, hai', p0, p1, p2, p3, p4, p5, p6, p7⟩ := (MsgsAt.of_row HI.out.row3 HL.out Hswf.out).at_ hlt2
                simp only [Option.some.injEq, Addr.mk.injEq, and_true] at he1
                obtain ⟨rfl, rfl⟩ := he1
                rw [Hai.out] at hai'
                obtain rfl := Option.some.inj hai'
                obtain ⟨_, _, aq, he1, _, haq, q0, q1, q2, q3, q4, q5, q6, q7⟩ := (MsgsAt.of_row HI.out.row3 HL.out Hswf.out).at_ hlt3
                simp only [Option.some.injEq, Addr.mk.injEq, and_true] at he1
                obtain ⟨rfl, rfl⟩ := he1
                obtain ⟨_, _, bq, he1, _, hbq, r0, r1, r2, r3, r4, r5, r6, r7⟩ := (MsgsAt.of_row HI.out.row HL2.out Hs2wf.out).at_ hlt3
                simp only [Option.some.injEq, Addr.mk.injEq, and_true] at he1
                obtain ⟨rfl, rfl⟩ := he1
                simp only [Nat.zero_add] at p0 p1 p2 p3 p4 p5 p6 p7 q0 q1 q2 q3 q4 q5 q6 q7 r0 r1 r2 r3 r4 r5 r6 r7
                have hsu := inB_succ (a := ai) hbq
                have hmt : i ≠ q → ai.meets aq = false := fun hne => left_apart (l := l) (by rw [← Hsl.out]; exact Hai.out) (by rw [← Hsl.out]; exact haq) hne
                have Hmt := Lib.hid hmt
                clear hai' haq hbq hmt
                by_cases hiq : i = q
                · have hg1 : (i != q) = false := by simpa using hiq
                  have hg2 : ((i : Int) != (q : Int)) = false := by simp; omega
                  have Hiq := Lib.hid hiq
                  clear hiq
                  cases hb : inB ai s2 q
                  all_goals
                    rw [hb] at hsu
                    simp only [Bool.false_or, Bool.true_or] at hsu
                    have Hsu := Lib.hid hsu
                    clear hsu
                    go_wp2_with fail
                    go_quiet (fail)
                    go_wp2_with fail
                    go_quiet (fail)
                    go_wp2_with fail
                    go_roundw
                    case rel => exact ⟨q + 1, by omega, by go_num, by rw [Hsu.out], by first | exact (HI.out.drewN hR4 _) | exact ((HI.out.drewN hR4 _).drewN hR4 _)⟩
                    case measure => simp [intOf]; omega
                · have hg1 : (i != q) = true := by simpa using hiq
                  have hg2 : ((i : Int) != (q : Int)) = true := by simp; omega
                  have hmf := Hmt.out hiq
                  have hc := meets_any ai aq
                  rw [hmf] at hc
                  have Hc := Lib.hid hc
                  clear hiq hmf hc
                  cases hb : inB ai s2 q
                  all_goals
                    rw [hb] at hsu
                    simp only [Bool.false_or, Bool.true_or] at hsu
                    have Hsu := Lib.hid hsu
                    clear hsu
                    go_wp2_with fail
                    go_quiet (fail)
                    go_wp2_with fail
                    go_region_held3 (fun w' => w'.cell? ⟨ga, i * 8, none⟩ = some (.int .i64 ai.e.k.at_) ∧ w'.cell? ⟨ga, i * 8 + 1, none⟩ = some (.int .i64 ai.e.k.src) ∧ w'.cell? ⟨ga, i * 8 + 2, none⟩ = some (.int .i64 ai.e.k.sent) ∧ w'.cell? ⟨ga, i * 8 + 3, none⟩ = some (.int .i64 ai.e.k.no) ∧
                        w'.cell? ⟨ga, i * 8 + 4, none⟩ = some (.int .i64 ai.e.dst) ∧ w'.cell? ⟨ga, i * 8 + 5, none⟩ = some (.int .i64 ai.e.kind) ∧ w'.cell? ⟨ga, i * 8 + 6, none⟩ = some (.int .i64 ai.e.data) ∧ w'.cell? ⟨ga, i * 8 + 7, none⟩ = some (.bool ai.anti) ∧
                        w'.cell? ⟨ga, q * 8, none⟩ = some (.int .i64 aq.e.k.at_) ∧ w'.cell? ⟨ga, q * 8 + 1, none⟩ = some (.int .i64 aq.e.k.src) ∧ w'.cell? ⟨ga, q * 8 + 2, none⟩ = some (.int .i64 aq.e.k.sent) ∧ w'.cell? ⟨ga, q * 8 + 3, none⟩ = some (.int .i64 aq.e.k.no) ∧
                        w'.cell? ⟨ga, q * 8 + 4, none⟩ = some (.int .i64 aq.e.dst) ∧ w'.cell? ⟨ga, q * 8 + 5, none⟩ = some (.int .i64 aq.e.kind) ∧ w'.cell? ⟨ga, q * 8 + 6, none⟩ = some (.int .i64 aq.e.data) ∧ w'.cell? ⟨ga, q * 8 + 7, none⟩ = some (.bool aq.anti))
                      (first | go_keep | exact ⟨hf.cell p0 (by simp), hf.cell p1 (by simp), hf.cell p2 (by simp), hf.cell p3 (by simp), hf.cell p4 (by simp), hf.cell p5 (by simp), hf.cell p6 (by simp), hf.cell p7 (by simp),
                        hf.cell q0 (by simp), hf.cell q1 (by simp), hf.cell q2 (by simp), hf.cell q3 (by simp), hf.cell q4 (by simp), hf.cell q5 (by simp), hf.cell q6 (by simp), hf.cell q7 (by simp)⟩)
                      ((go_at_call 25; refine (Hc.out _).mono ?_; rintro e w6 ⟨rfl, hf⟩))
                    have h4 := (show Holds w.heap.size w _ w6 _ from by first | exact (HI.out.drewN hR4 _).made hR4 hf | exact ((HI.out.drewN hR4 _).drew hR4).made hR4 hf | exact (HI.out.drew hR4).made hR4 hf)
                    have H4 := Lib.hid h4
                    clear h4 hf
                    go_wp2_with fail
                    go_roundw
                    case rel => exact ⟨q + 1, by omega, by go_num, by rw [Hsu.out], H4.out⟩
                    case measure => simp [intOf]; omega
              · obtain rfl : q = L := by omega
                have hin := Hain.out
                go_wp2_with fail
                go_roundw
                case rel => exact ⟨i + 1, by omega, by go_num, HI.out⟩
                case measure => simp [intOf]; omega
          · obtain rfl : i = L := by omega
            have hparts := settled_parts (p := l.take nn) (q := l.drop nn) (by rw [List.take_append_drop]; exact Hcl.out)
            rw [List.take_append_drop, ← Hsl.out] at hparts
            obtain ⟨hp1, hp2, hp3, hp4⟩ := hparts
            obtain ⟨lp, hlp⟩ : ∃ lp, leftOf (l.take nn) = lp := ⟨_, rfl⟩
            rw [hlp] at hp1 hp3 hp4
            obtain ⟨P, hP⟩ : ∃ P, lp.length = P := ⟨_, rfl⟩
            have hPn : P ≤ nn := by
              rw [← hP, ← hp1]
              exact Nat.le_trans (settled_len _) (by rw [List.length_take]; omega)
            have hlw : ∀ x ∈ lp ++ l.drop nn, x.Wf := fun x hx => by
              rcases List.mem_append.1 hx with h | h
              · exact Hl.out.2.2.2.1 x (List.mem_of_mem_take (settled_mem x (by rw [hp1]; exact h)))
              · exact Hl.out.2.2.2.1 x (List.mem_of_mem_drop h)
            have hdl : (l.drop nn).length = k - nn := by rw [List.length_drop, Hl1.out]
            have hcl2 : (lp ++ l.drop nn).length = P + (k - nn) := by rw [List.length_append, hP, hdl]
            have Hp1 := Lib.hid hp1
            have Hp2 := Lib.hid hp2
            have Hp3 := Lib.hid hp3
            have Hp4 := Lib.hid hp4
            have HP := Lib.hid hP
            have Hlw := Lib.hid hlw
            have Hdl := Lib.hid hdl
            have Hcl2 := Lib.hid hcl2
            have HA := Lib.hid HO.out.drop.drop
            have hnn0 : (0 : Int) ≤ (nn : Int) := by omega
            have hnk : (nn : Int) ≤ (c1 : Int) := by omega
            have hnn2 : (nn : Int) ≤ (k : Int) := by omega
            have hnn3 : nn ≤ c1 := by omega
            clear hp1 hp2 hp3 hp4 hlp hP hlw hdl hcl2 HO hR3 hR4 Hrl Hrw Hs2 Hsp HL2 Hs2wf Her hlt2
            by_cases hnc : nn = c1
            · subst hnc
              obtain rfl : nn = k := by omega
              go_wp2_with fail
              refine (settle_goesN hR HA.out ((Hl.out.frm (Frm.of_below HA.out.below (Nat.le_refl _))).take (Nat.le_refl _)) (by omega) Hp1.out Hp2.out HP.out).mono ?_
              rintro e w6 ⟨a5, c5, rfl, h6⟩
              have HC := Lib.hid h6
              clear h6
              go_wp2_with (at_builtin; refine Stop.of ?_)
              refine Stop.go ?_
              have hd0 : l.drop nn = [] := List.eq_nil_of_length_eq_zero (by have := Hdl.out; omega)
              rw [hd0] at Hp3 Hp4 Hlw Hcl2
              simp only [Nat.sub_self] at Hcl2
              obtain ⟨i1, hj0, hj1, hj2, hj3⟩ := info_parts infoMessage
              have h5 := HC.out
              have hnews := (fun (j : Nat) (u : Value) (hj : (msgCells [])[j]? = some u) => (by simp [msgCells] at hj : w6.cell? ((⟨b1, o1, none⟩ : Addr).add j) = some u))
              refine wpList_append_foot _ rfl _ _ 43 rfl 51 i1 (.agg #[.int .i64 0, .int .i64 0, .int .i64 0, .int .i64 0, .int .i64 0, .int .i64 0, .int .i64 0, .bool false]) 8 64 Try.underlying43 hj0 hj1 hj2 hj3 rfl (by decide) (.slice a5 P c5) P (msgCells lp) rfl h5.row ⟨b1, o1, none⟩ (0) (0) (msgCells ([])) rfl (by rw [msgCells_length, List.length_nil]) hnews (msgCells_one _) (by unfold maxLen; omega) (by omega) ?_
              intro a6 c6 w7 hown hF hnew
              have h7 := h5.appended hR hown hF hnew
              rw [← msgCells_append] at h7
              have HC7 := Lib.hid h7
              clear hown hF hnew h5 h7 hnews hj0 hj1 hj2 hj3
              have hR7 : Stable (sepR (rowR 51 8 (.slice a6 (P + 0) c6) (P + 0) (msgCells (lp ++ []))) (sepR (rowR 51 8 (.slice a2 i c2) i (msgCells s)) noneR)) := sepR_stable (rowR_stable _ _ _ _ _) hR
              go_wp2_with fail
              refine (settle_goesN hR7 HC7.out (MsgsAt.of_row HC7.out.row Hcl2.out Hlw.out) (by omega) Hp3.out Hp4.out HL.out).mono ?_
              rintro e w8 ⟨a7, c7, rfl, h8⟩
              have hR8 : Stable (sepR (rowR 51 8 (.slice a7 i c7) i (msgCells s)) (sepR (rowR 51 8 (.slice a6 (P + 0) c6) (P + 0) (msgCells (lp ++ []))) (sepR (rowR 51 8 (.slice a2 i c2) i (msgCells s)) noneR))) := sepR_stable (rowR_stable _ _ _ _ _) hR7
              have hms := messages_any _ _ _ _ _ _ _ _ _ (MsgsAt.of_row h8.row3 HL.out Hswf.out) (MsgsAt.of_row h8.row HL.out Hswf.out) (by omega)
              have hd1 : decide (s = s) = true := by simp
              rw [hd1] at hms
              have HS8 := Lib.hid h8
              have Hms := Lib.hid hms
              clear h8 hms hd1
              go_wp2_with fail
              refine Hms.out.mono ?_
              rintro e w9 ⟨rfl, hf⟩
              have HS9 := Lib.hid (HS8.out.made hR8 hf)
              clear hf
              go_wp2_with fail
              refine (awake_any _).mono ?_
              rintro e w10 ⟨rfl, hf⟩
              go_wp2_with fail
              go_ret
              exact ⟨rfl, (HS9.out.made hR8 hf).below⟩
            · have hnc' : nn < c1 := by omega
              go_wp2_with fail
              refine (settle_goesN hR HA.out ((Hl.out.frm (Frm.of_below HA.out.below (Nat.le_refl _))).take h3) (by omega) Hp1.out Hp2.out HP.out).mono ?_
              rintro e w6 ⟨a5, c5, rfl, h6⟩
              have HC := Lib.hid h6
              clear h6
              go_wp2_with (at_builtin; refine Stop.of ?_)
              refine Stop.go ?_
              obtain ⟨i1, hj0, hj1, hj2, hj3⟩ := info_parts infoMessage
              have h5 := HC.out
              have hnews := (MsgsAt.drop (Hl.out.frm (Frm.of_below HC.out.below (Nat.le_refl _))) h3).news
              refine wpList_append_foot _ rfl _ _ 43 rfl 51 i1 (.agg #[.int .i64 0, .int .i64 0, .int .i64 0, .int .i64 0, .int .i64 0, .int .i64 0, .int .i64 0, .bool false]) 8 64 Try.underlying43 hj0 hj1 hj2 hj3 rfl (by decide) (.slice a5 P c5) P (msgCells lp) rfl h5.row ⟨b1, o1 + nn * 8, none⟩ (k - nn) (c1 - nn) (msgCells (l.drop nn)) rfl (by rw [msgCells_length, Hdl.out]) hnews (msgCells_one _) (by unfold maxLen; omega) (by omega) ?_
              intro a6 c6 w7 hown hF hnew
              have h7 := h5.appended hR hown hF hnew
              rw [← msgCells_append] at h7
              have HC7 := Lib.hid h7
              clear hown hF hnew h5 h7 hnews hj0 hj1 hj2 hj3
              have hR7 : Stable (sepR (rowR 51 8 (.slice a6 (P + (k - nn)) c6) (P + (k - nn)) (msgCells (lp ++ l.drop nn))) (sepR (rowR 51 8 (.slice a2 i c2) i (msgCells s)) noneR)) := sepR_stable (rowR_stable _ _ _ _ _) hR
              go_wp2_with fail
              refine (settle_goesN hR7 HC7.out (MsgsAt.of_row HC7.out.row Hcl2.out Hlw.out) (by omega) Hp3.out Hp4.out HL.out).mono ?_
              rintro e w8 ⟨a7, c7, rfl, h8⟩
              have hR8 : Stable (sepR (rowR 51 8 (.slice a7 i c7) i (msgCells s)) (sepR (rowR 51 8 (.slice a6 (P + (k - nn)) c6) (P + (k - nn)) (msgCells (lp ++ l.drop nn))) (sepR (rowR 51 8 (.slice a2 i c2) i (msgCells s)) noneR))) := sepR_stable (rowR_stable _ _ _ _ _) hR7
              have hms := messages_any _ _ _ _ _ _ _ _ _ (MsgsAt.of_row h8.row3 HL.out Hswf.out) (MsgsAt.of_row h8.row HL.out Hswf.out) (by omega)
              have hd1 : decide (s = s) = true := by simp
              rw [hd1] at hms
              have HS8 := Lib.hid h8
              have Hms := Lib.hid hms
              clear h8 hms hd1
              go_wp2_with fail
              refine Hms.out.mono ?_
              rintro e w9 ⟨rfl, hf⟩
              have HS9 := Lib.hid (HS8.out.made hR8 hf)
              clear hf
              go_wp2_with fail
              refine (awake_any _).mono ?_
              rintro e w10 ⟨rfl, hf⟩
              go_wp2_with fail
              go_ret
              exact ⟨rfl, (HS9.out.made hR8 hf).below⟩
end Go.Proofs.Ytagldjlaagphlaa
