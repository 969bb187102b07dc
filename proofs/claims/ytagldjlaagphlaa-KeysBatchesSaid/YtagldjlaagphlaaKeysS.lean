/- Settle: what is left of messages. -/
import Derived.Test.YtagldjlaagphlaaKeysR
import Derived.Deep.RegionHeld3
import Derived.Deep.DrawnRows
import Derived.Deep.RegionLaw
namespace Go.Proofs.Ytagldjlaagphlaa
open Go.RowKit Go.Maps

def boolCells (g : List Bool) : List Value := g.map Value.bool

/-- The first loop, behind k messages. -/
def SRel (B : Nat) (w0 : World) (M G n : Nat) (l : List Mv) (i : Value) (wr : World) : Prop :=
  ∃ (k : Nat) (D : DataW Unit) (g : List Bool), k ≤ n ∧ i = .int .i64 (k : Int) ∧ Upk l k D g ∧ Holds B w0 (sepR (rowR 4 1 (.slice (some ⟨G, 0, none⟩) n n) n (boolCells g)) (sepR (idmR M k D) noneR)) wr []

/-- What Settle does. -/
def settled (l : List Mv) : List Mv := if clash l = true then [] else leftOf l
def errOf (l : List Mv) : Int := if clash l = true then 13 else 0
def SettleDoes (l : List Mv) (w : World) (e : Ending) (w' : World) : Prop :=
  ∃ (a : Option Addr) (c : Nat), e = .returned (.tuple #[.slice a (settled l).length c, .int .i64 (errOf l)]) ∧ Holds w.heap.size w (rowR 51 8 (.slice a (settled l).length c) (settled l).length (msgCells (settled l))) w' []

theorem settle_bad {l : List Mv} (h : clash l = true) : settled l = [] ∧ errOf l = 13 := by simp [settled, errOf, h]
theorem settle_good {l : List Mv} (h : clash l = false) : settled l = leftOf l ∧ errOf l = 0 := by simp [settled, errOf, h]

theorem Holds.mapMono {R Q : World → List Nat → Prop} {B : Nat} {w0 w : World} {L : List (Nat × Obj)} {M n n' : Nat} {D : DataW Unit} (h : Holds B w0 (sepR R (sepR (idmR M n D) Q)) w L) (hn : n ≤ n') : Holds B w0 (sepR R (sepR (idmR M n' D) Q)) w L :=
  h.perm fun F hF _ => by
    obtain ⟨F1, F', hR, ⟨F2, F3, ⟨hm, rfl⟩, hQ, a, b, c, rfl⟩, d, e, f, rfl⟩ := hF
    exact ⟨_, ⟨F1, _, hR, ⟨_, F3, ⟨hm.mono hn, rfl⟩, hQ, a, b, c, rfl⟩, d, e, f, rfl⟩, fun _ => Iff.rfl⟩

/-- The second loop, behind k messages. -/
def S2Rel (B : Nat) (w0 : World) (G n : Nat) (l : List Mv) (g : List Bool) (o i : Value) (wr : World) : Prop :=
  ∃ (k : Nat) (a : Option Addr) (c : Nat), k ≤ n ∧ i = .int .i64 (k : Int) ∧ o = .slice a (leftK l k).length c ∧
    Holds B w0 (sepR (rowR 51 8 (.slice a (leftK l k).length c) (leftK l k).length (msgCells (leftK l k))) (sepR (rowR 4 1 (.slice (some ⟨G, 0, none⟩) n n) n (boolCells g)) noneR)) wr []

set_option maxHeartbeats 2000000 in
set_option maxRecDepth 100000 in
theorem settle_any (w : World) (a : Option Addr) (n cap : Nat) (l : List Mv) (hl : MsgsAt w a n cap l) (hn : n ≤ 200) : Calls Try.prog 21 #[.slice a n cap] w (SettleDoes l w) := by
  have hmm := fun w => run_makeMap_hint w n
  have hlen := hl.1
  have Hl := Lib.hid hl
  have Hlen := Lib.hid hlen
  clear hl hlen
  go_enter Try.func21, Try.ntmps21
  go_wp2_with (at_make; refine Stop.of ?_)
  refine Stop.go ?_
  have h1 := (Holds.start w).newMap noneR_stable
  obtain ⟨i0, hi0, hi1, hi2, hi3⟩ := info_parts infoBool
  refine wpList_make_full _ rfl _ _ 62 rfl (w.alloc (.map #[] 0)).heap.size 4 i0 (.bool false) 1 Try.underlying62 hi0 hi1 hi2 .i64 .i64 _ _ n rfl rfl rfl rfl (by rw [hi3]; omega) (by unfold maxLen; omega) (Nat.le_refl _) ?_
  intro w2 hown hgrow
  have h2 := h1.newRow (sepR_stable (idmR_stable _ _ _) noneR_stable) hown hgrow
  have hloop : SRel w.heap.size w w.heap.size (w.heap.size + 1) n l (.int .i64 0) w2 := by
    refine ⟨0, .map [], List.replicate l.length false, Nat.zero_le _, rfl, upk_start l, ?_⟩
    simp only [Value.cells, madeCells_one, World.size_alloc] at h2
    have e1 : boolCells (List.replicate l.length false) = List.replicate n (.bool false) := by rw [Hlen.out]; simp [boolCells]
    rw [e1]
    exact h2
  have Hloop := Lib.hid hloop
  clear hloop h1 h2 hown hgrow hmm hi0 hi1 hi2 hi3
  simp only [World.size_alloc]
  go_wp2_with fail
  go_loopw [21] (fun iv wr => SRel w.heap.size w w.heap.size (w.heap.size + 1) n l iv wr) (fun iv _ => n - (intOf iv).toNat)
  case atStart => exact Hloop.out
  case round =>
    obtain ⟨k, D, g, hk, rfl, hu, hH⟩ := hrel
    have Hu := Lib.hid hu
    have HH := Lib.hid hH
    clear hu hH Hloop
    by_cases hlt : k < n
    · obtain ⟨bl, off, m, rfl, hblt, hm, p0, p1, p2, p3, p4, p5, p6, p7⟩ := Hl.out.at_ hlt
      have q0 := (HH.out.oldCell hblt).trans p0
      have q1 := (HH.out.oldCell hblt).trans p1
      have q2 := (HH.out.oldCell hblt).trans p2
      have q3 := (HH.out.oldCell hblt).trans p3
      have q4 := (HH.out.oldCell hblt).trans p4
      have q5 := (HH.out.oldCell hblt).trans p5
      have q6 := (HH.out.oldCell hblt).trans p6
      have q7 := (HH.out.oldCell hblt).trans p7
      have hble := HH.out.le
      have hlt' : bl < wr.heap.size := by omega
      have Hm := Lib.hid hm
      clear p0 p1 p2 p3 p4 p5 p6 p7 hm
      have hst := sepR_stable (rowR_stable 4 1 (.slice (some ⟨w.heap.size + 1, 0, none⟩) n n) n (boolCells g)) (sepR_stable (idmR_stable w.heap.size k D) noneR_stable)
      have HA := Lib.hid (HH.out.alloc hst (.cells #[.int .i64 m.e.k.at_, .int .i64 m.e.k.src, .int .i64 m.e.k.sent, .int .i64 m.e.k.no, .int .i64 m.e.dst, .int .i64 m.e.kind, .int .i64 m.e.data, .bool m.anti] 51))
      have hmw : m.id.Wf := Hl.out.2.2.2.1 m (List.mem_of_getElem? Hm.out)
      have Hmw := Lib.hid hmw
      clear hmw
      go_wp2_with fail
      refine (of_any m.e _).mono ?_
      rintro e w3 ⟨rfl, hf⟩
      have H3 := Lib.hid (HA.out.made hst hf)
      clear hf
      go_wp2_with (at_lookup; refine Stop.of ?_)
      refine Stop.go ?_
      refine wpList_lookup_own_ok_int _ rfl _ _ 61 rfl 30 3 .i64 keyedID Try.underlying61 Try.underlying3 (zeroInt _) w.heap.size k D rfl (sepR_assoc H3.out).theMap _ m.id.lit rfl (keyOf_id m.id Hmw.out) ?_
      intro c hat hwc
      have Hat := Lib.hid hat
      clear hat hwc
      cases hn : Maps.has D m.id.lit
      · have Hn := Lib.hid hn
        clear hn
        obtain ⟨r0, r1, r2, r3, r4, r5, r6, r7⟩ := cells8 (H3.out.box (k := wr.heap.size) (o := .cells #[.int .i64 m.e.k.at_, .int .i64 m.e.k.src, .int .i64 m.e.k.sent, .int .i64 m.e.k.no, .int .i64 m.e.dst, .int .i64 m.e.kind, .int .i64 m.e.data, .bool m.anti] 51) (by simp))
        go_wp2_with fail
        refine (of_any m.e _).mono ?_
        rintro e w4 ⟨rfl, hf⟩
        have H4 := Lib.hid (H3.out.made hst hf)
        clear hf r0 r1 r2 r3 r4 r5 r6 r7
        go_wp2_with (at_mapUpdate; refine Stop.of ?_)
        refine Stop.go ?_
        refine wpList_mapUpdate_own _ rfl _ _ _ 61 rfl 30 3 keyedID Try.underlying61 (plainElem Try.prog 3) w.heap.size k D rfl (sepR_assoc H4.out).theMap (by unfold maxLen; omega) _ _ m.id.lit rfl rfl (keyOf_id m.id Hmw.out) _ [] (plainElem_int Try.underlying3 (WalkArith.wf_i64 (by omega))) ?_
        intro w5 hm5 hg5
        have H5 := Lib.hid (sepR_assoc ((sepR_assoc H4.out).mapped (sepR_stable (rowR_stable _ _ _ _ _) noneR_stable) hm5 hg5))
        clear hm5 hg5
        go_wp2_with fail
        go_roundw
        case rel => exact ⟨k + 1, _, g, by omega, by go_num, upk_new Hu.out Hm.out Hl.out.2.2.2.1 Hn.out, H5.out.sub (by simp)⟩
        case measure => simp [intOf]; omega
      · obtain ⟨j, x, gj, hj, hx, hxi, hat2, hgj, hbad1, hbad2, hgood⟩ := upk_there Hu.out Hm.out Hl.out.2.2.2.1 hn
        obtain rfl : c = (j : Int) := by
          have h5 := Hat.out
          rw [hat2] at h5
          simp only [DataW.lit.injEq, Lit.int.injEq, true_and] at h5
          exact h5.symm
        have hjn : j < n := by omega
        obtain ⟨bl2, off2, x2, hbo, _, hx2, o0, o1, o2, o3, o4, o5, o6, o7⟩ := Hl.out.at_ hjn
        simp only [Option.some.injEq, Addr.mk.injEq, and_true] at hbo
        obtain ⟨rfl, rfl⟩ := hbo
        rw [hx] at hx2
        obtain rfl := Option.some.inj hx2
        replace o0 := (H3.out.oldCell hblt).trans o0
        replace o1 := (H3.out.oldCell hblt).trans o1
        replace o2 := (H3.out.oldCell hblt).trans o2
        replace o3 := (H3.out.oldCell hblt).trans o3
        replace o4 := (H3.out.oldCell hblt).trans o4
        replace o5 := (H3.out.oldCell hblt).trans o5
        replace o6 := (H3.out.oldCell hblt).trans o6
        replace o7 := (H3.out.oldCell hblt).trans o7
        obtain ⟨r0, r1, r2, r3, r4, r5, r6, r7⟩ := cells8 (H3.out.box (k := wr.heap.size) (o := .cells #[.int .i64 m.e.k.at_, .int .i64 m.e.k.src, .int .i64 m.e.k.sent, .int .i64 m.e.k.no, .int .i64 m.e.dst, .int .i64 m.e.kind, .int .i64 m.e.data, .bool m.anti] 51) (by simp))
        have cg : w3.cell? ⟨w.heap.size + 1, j, none⟩ = some (.bool gj) := by
          rw [H3.out.row.cellAt j (by omega)]
          simp [boolCells, hgj]
        have hz0 := World.block_lt_of_cell? _ _ cg
        have hz1 := World.block_lt_of_cell? _ _ o0
        have hz2 := World.block_lt_of_cell? _ _ r0
        dsimp only at hz0 hz1 hz2
        have Hx := Lib.hid hx
        have Hbad1 := Lib.hid hbad1
        have Hbad2 := Lib.hid hbad2
        have Hgood := Lib.hid hgood
        have Hgj := Lib.hid hgj
        clear hx hxi hat2 hx2 hbad1 hbad2 hgood hgj Hat hn q0 q1 q2 q3 q4 q5 q6 q7
        cases gj with
        | true =>
          have hs := settle_bad (Hbad1.out rfl)
          have Hs := Lib.hid hs
          clear hs r0 r1 r2 r3 r4 r5 r6 r7 o0 o1 o2 o3 o4 o5 o6 o7
          go_wp2_with fail
          go_quiet (fail)
          go_wp2_with fail
          go_ret2
          refine ⟨none, 0, ?_, ?_⟩
          · rw [Hs.out.1, Hs.out.2]; rfl
          · rw [Hs.out.1]
            exact (sepR_comm ((H3.out.drewN hst _).nilRow 51 8)).drop.sub (by simp)
        | false =>
          have hc := meets_any x m
          cases hme : x.meets m
          · rw [hme] at hc
            have Hc := Lib.hid hc
            have hs := settle_bad (Hbad2.out hme)
            have Hs := Lib.hid hs
            clear hs hc hme
            have H3d := Lib.hid (H3.out.drew hst)
            go_wp2_with fail
            go_region_held3 (fun w' => w'.cell? ⟨w.heap.size + 1, j, none⟩ = some (.bool false) ∧ w'.cell? ⟨bl, off + j * 8, none⟩ = some (.int .i64 x.e.k.at_) ∧ w'.cell? ⟨bl, off + j * 8 + 1, none⟩ = some (.int .i64 x.e.k.src) ∧
                w'.cell? ⟨bl, off + j * 8 + 2, none⟩ = some (.int .i64 x.e.k.sent) ∧ w'.cell? ⟨bl, off + j * 8 + 3, none⟩ = some (.int .i64 x.e.k.no) ∧ w'.cell? ⟨bl, off + j * 8 + 4, none⟩ = some (.int .i64 x.e.dst) ∧
                w'.cell? ⟨bl, off + j * 8 + 5, none⟩ = some (.int .i64 x.e.kind) ∧ w'.cell? ⟨bl, off + j * 8 + 6, none⟩ = some (.int .i64 x.e.data) ∧ w'.cell? ⟨bl, off + j * 8 + 7, none⟩ = some (.bool x.anti) ∧
                w'.cell? ⟨wr.heap.size, 0, none⟩ = some (.int .i64 m.e.k.at_) ∧ w'.cell? ⟨wr.heap.size, 1, none⟩ = some (.int .i64 m.e.k.src) ∧
                w'.cell? ⟨wr.heap.size, 2, none⟩ = some (.int .i64 m.e.k.sent) ∧ w'.cell? ⟨wr.heap.size, 3, none⟩ = some (.int .i64 m.e.k.no) ∧ w'.cell? ⟨wr.heap.size, 4, none⟩ = some (.int .i64 m.e.dst) ∧
                w'.cell? ⟨wr.heap.size, 5, none⟩ = some (.int .i64 m.e.kind) ∧ w'.cell? ⟨wr.heap.size, 6, none⟩ = some (.int .i64 m.e.data) ∧ w'.cell? ⟨wr.heap.size, 7, none⟩ = some (.bool m.anti))
              (first | go_keep | exact ⟨hf.cell cg (by simp), hf.cell o0 (by simp), hf.cell o1 (by simp), hf.cell o2 (by simp), hf.cell o3 (by simp), hf.cell o4 (by simp), hf.cell o5 (by simp), hf.cell o6 (by simp), hf.cell o7 (by simp),
                hf.cell r0 (by simp), hf.cell r1 (by simp), hf.cell r2 (by simp), hf.cell r3 (by simp), hf.cell r4 (by simp), hf.cell r5 (by simp), hf.cell r6 (by simp), hf.cell r7 (by simp)⟩)
              ((go_at_call 25; refine (Hc.out _).mono ?_; rintro e w4 ⟨rfl, hf⟩))
            have H4 := Lib.hid (show Holds w.heap.size w _ w4 _ from by first | exact H3d.out.made hst hf | exact H3.out.made hst hf)
            clear hf
            go_wp2_with fail
            go_ret2
            refine ⟨none, 0, ?_, ?_⟩
            · rw [Hs.out.1, Hs.out.2]; rfl
            · rw [Hs.out.1]
              exact (sepR_comm (H4.out.nilRow 51 8)).drop.sub (by simp)
          · rw [hme] at hc
            have Hc := Lib.hid hc
            have hs := Hgood.out rfl hme
            have Hs := Lib.hid hs
            clear hs hc hme
            have H3d := Lib.hid (H3.out.drew hst)
            go_wp2_with fail
            go_region_held3 (fun w' => w'.cell? ⟨w.heap.size + 1, j, none⟩ = some (.bool false) ∧ w'.cell? ⟨bl, off + j * 8, none⟩ = some (.int .i64 x.e.k.at_) ∧ w'.cell? ⟨bl, off + j * 8 + 1, none⟩ = some (.int .i64 x.e.k.src) ∧
                w'.cell? ⟨bl, off + j * 8 + 2, none⟩ = some (.int .i64 x.e.k.sent) ∧ w'.cell? ⟨bl, off + j * 8 + 3, none⟩ = some (.int .i64 x.e.k.no) ∧ w'.cell? ⟨bl, off + j * 8 + 4, none⟩ = some (.int .i64 x.e.dst) ∧
                w'.cell? ⟨bl, off + j * 8 + 5, none⟩ = some (.int .i64 x.e.kind) ∧ w'.cell? ⟨bl, off + j * 8 + 6, none⟩ = some (.int .i64 x.e.data) ∧ w'.cell? ⟨bl, off + j * 8 + 7, none⟩ = some (.bool x.anti) ∧
                w'.cell? ⟨wr.heap.size, 0, none⟩ = some (.int .i64 m.e.k.at_) ∧ w'.cell? ⟨wr.heap.size, 1, none⟩ = some (.int .i64 m.e.k.src) ∧
                w'.cell? ⟨wr.heap.size, 2, none⟩ = some (.int .i64 m.e.k.sent) ∧ w'.cell? ⟨wr.heap.size, 3, none⟩ = some (.int .i64 m.e.k.no) ∧ w'.cell? ⟨wr.heap.size, 4, none⟩ = some (.int .i64 m.e.dst) ∧
                w'.cell? ⟨wr.heap.size, 5, none⟩ = some (.int .i64 m.e.kind) ∧ w'.cell? ⟨wr.heap.size, 6, none⟩ = some (.int .i64 m.e.data) ∧ w'.cell? ⟨wr.heap.size, 7, none⟩ = some (.bool m.anti))
              (first | go_keep | exact ⟨hf.cell cg (by simp), hf.cell o0 (by simp), hf.cell o1 (by simp), hf.cell o2 (by simp), hf.cell o3 (by simp), hf.cell o4 (by simp), hf.cell o5 (by simp), hf.cell o6 (by simp), hf.cell o7 (by simp),
                hf.cell r0 (by simp), hf.cell r1 (by simp), hf.cell r2 (by simp), hf.cell r3 (by simp), hf.cell r4 (by simp), hf.cell r5 (by simp), hf.cell r6 (by simp), hf.cell r7 (by simp)⟩)
              ((go_at_call 25; refine (Hc.out _).mono ?_; rintro e w4 ⟨rfl, hf⟩))
            have h4 := (show Holds w.heap.size w _ w4 _ from by first | exact H3d.out.made hst hf | exact H3.out.made hst hf)
            have f1 := h4.row.frozenAt k
            have f2 := h4.row.frozenAt j
            have c1 : ∃ b0, w4.cell? ⟨w.heap.size + 1, k, none⟩ = some (.bool b0) := by
              have hgl := Hs.out.len
              simp only [List.length_set] at hgl
              rw [h4.row.cellAt k (by omega)]
              exact ⟨g[k]'(by have := Hlen.out; omega), by simp [boolCells]⟩
            obtain ⟨b0, c1⟩ := c1
            have c2 : w4.cell? ⟨w.heap.size + 1, j, none⟩ = some (.bool false) := by
              rw [h4.row.cellAt j (by omega)]
              simp [boolCells, Hgj.out]
            have hz4 := World.block_lt_of_cell? _ _ c2
            dsimp only at hz4
            have H4 := Lib.hid h4
            clear hf h4
            go_wp2_with fail
            go_roundw
            case rel => 
              refine ⟨k + 1, D, (g.set k true).set j true, by omega, by go_num, Hs.out, ?_⟩
              have h5 := (((H4.out.mapMono (Nat.le_succ k)).stored (sepR_stable (idmR_stable _ _ _) noneR_stable) k (.bool true)).stored (sepR_stable (idmR_stable _ _ _) noneR_stable) j (.bool true)).sub (M := []) (by simp)
              have e1 : boolCells ((g.set k true).set j true) = ((boolCells g).set k (.bool true)).set j (.bool true) := by simp [boolCells]
              rw [e1]
              exact h5
            case measure => simp [intOf]; omega
    · obtain rfl : k = n := by omega
      have hu := Hu.out
      have hnl := Hlen.out
      have he := upk_end (l := l) (D := D) (g := g) (by rw [hnl]; exact hu)
      have hs := settle_good he.1
      have Hs := Lib.hid hs
      have Hg := Lib.hid he.2
      have h2 := ((sepR_assoc HH.out).drop).nilRow 51 8
      have hloop : S2Rel w.heap.size w (w.heap.size + 1) k l g (.slice none 0 0) (.int .i64 0) wr := ⟨0, none, 0, Nat.zero_le _, rfl, rfl, h2⟩
      have Hloop := Lib.hid hloop
      clear hloop h2 hs he hnl hu
      go_wp2_with fail
      go_loopw [10, 65] (fun ov iv wr => S2Rel w.heap.size w (w.heap.size + 1) k l g ov iv wr) (fun _ iv _ => k - (intOf iv).toNat)
      case atStart => exact Hloop.out
      case round =>
        rename_i wr0
        obtain ⟨i, ao, co, hik, rfl, rfl, hH⟩ := hrel
        have hll := leftK_len l i
        have HH2 := Lib.hid hH
        clear hH Hloop
        by_cases hlt2 : i < k
        · obtain ⟨bl, off, m, rfl, hblt, hm, p0, p1, p2, p3, p4, p5, p6, p7⟩ := Hl.out.at_ hlt2
          have q0 := (HH2.out.oldCell hblt).trans p0
          have q1 := (HH2.out.oldCell hblt).trans p1
          have q2 := (HH2.out.oldCell hblt).trans p2
          have q3 := (HH2.out.oldCell hblt).trans p3
          have q4 := (HH2.out.oldCell hblt).trans p4
          have q5 := (HH2.out.oldCell hblt).trans p5
          have q6 := (HH2.out.oldCell hblt).trans p6
          have q7 := (HH2.out.oldCell hblt).trans p7
          have hble := HH2.out.le
          have hlt' : bl < wr.heap.size := by omega
          have Hm := Lib.hid hm
          clear p0 p1 p2 p3 p4 p5 p6 p7
          have hst2 := sepR_stable (rowR_stable 51 8 (.slice ao (leftK l i).length co) (leftK l i).length (msgCells (leftK l i))) (sepR_stable (rowR_stable 4 1 (.slice (some ⟨w.heap.size + 1, 0, none⟩) k k) k (boolCells g)) noneR_stable)
          have HA := Lib.hid (HH2.out.alloc hst2 (.cells #[.int .i64 m.e.k.at_, .int .i64 m.e.k.src, .int .i64 m.e.k.sent, .int .i64 m.e.k.no, .int .i64 m.e.dst, .int .i64 m.e.kind, .int .i64 m.e.data, .bool m.anti] 51))
          have cg : wr.cell? ⟨w.heap.size + 1, i, none⟩ = some (.bool (!(cnt l m.id == 1))) := by
            rw [(sepR_assoc HH2.out).row.cellAt i (by omega)]
            simp [boolCells, Hg.out i m Hm.out]
          have hz0 := World.block_lt_of_cell? _ _ cg
          dsimp only at hz0
          have hsc := leftK_succ hm
          clear hm
          cases hcn : (cnt l m.id == 1)
          · rw [hcn] at cg hsc
            simp only [Bool.false_eq_true, if_false, List.append_nil] at hsc
            have Hsc := Lib.hid hsc
            clear hsc hcn
            go_wp2_with fail
            go_roundw
            case rel => exact ⟨i + 1, ao, co, by omega, by go_num, by rw [Hsc.out], by rw [Hsc.out]; exact HA.out.sub (by simp)⟩
            case measure => simp [intOf]; omega
          · rw [hcn] at cg hsc
            simp only [if_true] at hsc
            have Hsc := Lib.hid hsc
            clear hsc hcn
            go_wp2_with (at_builtin; refine Stop.of ?_)
            refine Stop.go ?_
            obtain ⟨i1, hj0, hj1, hj2, hj3⟩ := info_parts infoMessage
            have h5 := HA.out.alloc hst2 (.cells #[.int .i64 m.e.k.at_, .int .i64 m.e.k.src, .int .i64 m.e.k.sent, .int .i64 m.e.k.no, .int .i64 m.e.dst, .int .i64 m.e.kind, .int .i64 m.e.data, .bool m.anti] 51)
            refine wpList_append_foot _ rfl _ _ 43 rfl 51 i1 (.agg #[.int .i64 0, .int .i64 0, .int .i64 0, .int .i64 0, .int .i64 0, .int .i64 0, .int .i64 0, .bool false]) 8 64 Try.underlying43 hj0 hj1 hj2 hj3 rfl (by decide) (.slice ao (leftK l i).length co) (leftK l i).length (msgCells (leftK l i)) rfl h5.row ⟨_, 0, none⟩ 1 1 m.cells rfl rfl (cells_at _ m.cells _ _ (by simp)) (by simp [Mv.cells, Value.oneCell']) (by unfold maxLen; omega) (by omega) ?_
            intro ao' co' w4 hown hF hnew
            have H6 := Lib.hid (h5.appended (sepR_stable (rowR_stable _ _ _ _ _) noneR_stable) hown hF hnew)
            clear hown hF hnew h5
            go_wp2_with fail
            go_roundw
            case rel =>
              have e1 : (leftK l (i + 1)).length = (leftK l i).length + 1 := by rw [Hsc.out]; simp
              have e2 : msgCells (leftK l (i + 1)) = msgCells (leftK l i) ++ m.cells := by rw [Hsc.out, msgCells_append]; rfl
              refine ⟨i + 1, ao', co', by omega, by go_num, by rw [e1], ?_⟩
              rw [e1, e2]
              exact H6.out.sub (by simp)
            case measure => simp [intOf]; omega
        · obtain rfl : i = k := by omega
          have hll2 : leftK l i = settled l := by rw [Hs.out.1, ← leftK_end, Hlen.out]
          have Hll := Lib.hid hll2
          clear hll2
          go_wp2_with fail
          go_ret2
          have h6 := HH2.out
          rw [Hll.out] at h6 ⊢
          exact ⟨ao, co, by rw [Hs.out.2]; rfl, (sepR_comm h6).drop.sub (by simp)⟩
end Go.Proofs.Ytagldjlaagphlaa
