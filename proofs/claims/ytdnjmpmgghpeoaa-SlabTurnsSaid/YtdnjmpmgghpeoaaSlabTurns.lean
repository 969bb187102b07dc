/- SlabTurns: a slot's turn rises by one, and slots that were freed come first. -/
import Derived.Test.YtdnjmpmgghpeoaaSlabLive
namespace Go.Proofs.Ytdnjmpmgghpeoaa
open Go.RowKit

set_option maxHeartbeats 400000 in
set_option maxRecDepth 100000 in
theorem turns_out (n : Int) (a : Option Addr) (m cap : Nat) (w : World) (h : n < 1 ∨ 40 < n ∨ 60 < m) :
    Calls Try.prog 8 #[.int .i64 n, .slice a m cap] w fun e w' => e = .returned (.bool true) ∧ Below w.heap.size w w' := by
  by_cases h1 : n < 1
  · go_enter Try.func8, Try.ntmps8
    go_wp2_with (go_at_call 10; refine (awake_any _).mono ?_; rintro e w' ⟨rfl, hb⟩)
    go_ret
    exact ⟨rfl, hb⟩
  by_cases h2 : 40 < n
  · go_enter Try.func8, Try.ntmps8
    go_wp2_with (go_at_call 10; refine (awake_any _).mono ?_; rintro e w' ⟨rfl, hb⟩)
    go_ret
    exact ⟨rfl, hb⟩
  have hd : decide ((m : Int) ≤ 60) = false := decide_eq_false (by omega)
  clear h
  go_enter Try.func8, Try.ntmps8
  go_wp2_with (first | (go_at_call 11; refine (few_any _ _ _ _).mono ?_; rintro e w' ⟨rfl, rfl⟩) | (go_at_call 10; refine (awake_any _).mono ?_; rintro e w' ⟨rfl, hb⟩))
  go_ret
  exact ⟨rfl, hb⟩

def turnsR (b : Nat) (s : St) (lv : Value) (live : List (Int × Int)) (gt n : Nat) : World → List Nat → Prop :=
  sepR (slabR b s) (sepR (rowR 38 2 lv live.length (handleCells live)) (rowR 3 1 (.slice (some ⟨gt, 0, none⟩) n n) n (turnCells s n)))
theorem turnsR_stable (b : Nat) (s : St) (lv : Value) (live : List (Int × Int)) (gt n : Nat) : Stable (turnsR b s lv live gt n) :=
  sepR_stable (slabR_stable _ _) (sepR_stable (rowR_stable _ _ _ _ _) (rowR_stable _ _ _ _ _))

theorem turns_put {B : Nat} {w0 wx : World} {b gt n p : Nat} {s s' : St} {lv : Value} {live : List (Int × Int)} {L : List (Nat × Obj)} {u : Int}
    (h : Holds B w0 (sepR (slabR b s') (sepR (rowR 38 2 lv live.length (handleCells live)) (rowR 3 1 (.slice (some ⟨gt, 0, none⟩) n n) n (turnCells s n)))) wx L) (he : turnCells s' n = (turnCells s n).set p (.int .i64 u)) (nq : Nat) :
    Holds B w0 (sepR (rowR 38 2 lv live.length (handleCells live)) (sepR (rowR 3 1 (.slice (some ⟨gt, 0, none⟩) n n) n (turnCells s' n)) (slabR b s'))) ((wx.drewN nq).setCell ⟨gt, p, none⟩ (.int .i64 u)) L := by
  have h1 := sepR_rot (h.drewN (sepR_stable (slabR_stable _ _) (sepR_stable (rowR_stable _ _ _ _ _) (rowR_stable _ _ _ _ _))) nq)
  have h2 := sepR_rot (h1.stored (sepR_stable (slabR_stable _ _) (rowR_stable _ _ _ _ _)) p (.int .i64 u))
  rw [he]; exact h2

def TurnsRel (B : Nat) (w0 : World) (b n gt m : Nat) (lv fv iv : Value) (wr : World) : Prop :=
  ∃ (k : Nat) (s : St) (live : List (Int × Int)) (al : Option Addr) (cl : Nat), k ≤ m ∧ iv = .int .i64 (k : Int) ∧ lv = .slice al live.length cl ∧ fv = .int .i64 (s.freed.length : Int) ∧ s.Ok ∧ s.room = n ∧ s.reserve = 0 ∧ s.Upto (k : Int) ∧ LiveOk s live ∧
    Holds B w0 (turnsR b s (.slice al live.length cl) live gt n) wr []

set_option maxHeartbeats 1000000 in
set_option maxRecDepth 100000 in
theorem turns_in (n : Nat) (a : Option Addr) (m cap : Nat) (l : List OpV) (w : World) (hn : 1 ≤ n) (hn' : n ≤ 40) (hm : m ≤ 60) (hl : OpsAt w a m cap l) :
    Calls Try.prog 8 #[.int .i64 n, .slice a m cap] w fun e w' => e = .returned (.bool true) ∧ Below w.heap.size w w' := by
  have hd : decide ((m : Int) ≤ 60) = true := decide_eq_true (by omega)
  have Hl := Lib.hid hl
  clear hl
  go_enter Try.func8, Try.ntmps8
  go_wp2_with (first | (go_at_call 11; refine (few_any _ _ _ _).mono ?_; rintro e w' ⟨rfl, rfl⟩) | (go_at_call 9; refine Stop.of ?_))
  refine Stop.go ?_
  refine (new_goes noneR_stable (Holds.start w) n 0 (by omega) (by omega) (by omega)).mono ?_
  rintro e w1 ⟨rfl, h1⟩
  have H1 := Lib.hid h1
  clear h1
  go_wp2_with (at_make; refine Stop.of ?_)
  refine Stop.go ?_
  obtain ⟨i0, hi0, hi1, hi2, hi3⟩ := info_parts infoInt
  refine wpList_make_full _ rfl _ _ 52 rfl w1.heap.size 3 i0 (.int .i64 0) 1 Try.underlying52 hi0 hi1 hi2 .i64 .i64 _ _ n rfl rfl rfl rfl (by rw [hi3]; omega) (by unfold maxLen; omega) (Nat.le_refl _) ?_
  intro w2 hown hgrow
  have h2 := ((H1.out.newRow (sepR_stable (slabR_stable _ _) noneR_stable) hown hgrow).nilRow 38 2)
  have hloop : TurnsRel w.heap.size w w.heap.size n w1.heap.size m (.slice none 0 0) (.int .i64 0) (.int .i64 0) w2 := by
    refine ⟨0, ⟨n, 0, [], []⟩, [], none, 0, Nat.zero_le _, rfl, rfl, rfl, new_Ok (by omega) (by omega), rfl, rfl, new_Upto _ _, liveOk_new _ _, ?_⟩
    have h3 := sepR_unit (sepR_rot h2)
    simp only [Value.cells, madeCells_one] at h3
    unfold turnsR
    rw [turnCells_new]
    exact h3
  have Hloop := Lib.hid hloop
  clear hloop h2 hown hgrow
  go_wp2_with fail
  go_loopw [8, 9, 10] (fun lv fv iv wr => TurnsRel w.heap.size w w.heap.size n w1.heap.size m lv fv iv wr) (fun _ _ iv _ => m - (intOf iv).toNat)
  case atStart => exact Hloop.out
  case round =>
    obtain ⟨k, s, live, al, cl, hkm, rfl, rfl, rfl, ho, hro, hre, hu, hlv, hH⟩ := hrel
    have HH := Lib.hid hH
    have Ho := Lib.hid ho
    have Hu := Lib.hid hu
    have Hlv := Lib.hid hlv
    have Hro := Lib.hid hro
    have hll := hlv.len
    have hsl := ho.len
    rw [hro] at hsl
    have hll' : live.length ≤ 40 := by omega
    have hfl' : s.freed.length ≤ 40 := by omega
    have Hll := Lib.hid hll
    have Hre := Lib.hid hre
    clear hH ho hu hlv hro hre Hloop H1 hll hsl
    have hst := turnsR_stable w.heap.size s (.slice al live.length cl) live w1.heap.size n
    by_cases hlt : k < m
    · obtain ⟨bl, off, ⟨ask, cls, urg, vv, att, hs, ht⟩, rfl, hblt, hok, hwf, p0, p1, p2, p3, p4, p5, p6⟩ := Hl.out.at_ hlt
      have q0 := (HH.out.oldCell hblt).trans p0
      have q1 := (HH.out.oldCell hblt).trans p1
      have q2 := (HH.out.oldCell hblt).trans p2
      have q3 := (HH.out.oldCell hblt).trans p3
      have q4 := (HH.out.oldCell hblt).trans p4
      have q5 := (HH.out.oldCell hblt).trans p5
      have q6 := (HH.out.oldCell hblt).trans p6
      dsimp only at q0 q1 q2 q3 q4 q5 q6
      have hble := HH.out.le
      have hlt' : bl < wr.heap.size := by omega
      clear hok hwf p0 p1 p2 p3 p4 p5 p6
      have HA := Lib.hid (HH.out.alloc hst (.cells #[.int .i64 ask, .int .i64 cls, .bool urg, .int .i64 vv, .int .i64 att, .int .i64 hs, .int .i64 ht] 40))
      by_cases hask : ask = 0
      ·
        have hb : (ask == 0) = true := by simpa using hask
        obtain ⟨r, s', he⟩ : ∃ r s', s.takes cls urg vv = (r, s') := ⟨_, _, rfl⟩
        have Hcs := Lib.hid (takes_cases Ho.out he)
        have He := Lib.hid he
        clear he hask
        go_wp2_with fail
        refine (take_goes (sepR_stable (rowR_stable _ _ _ _ _) (rowR_stable _ _ _ _ _)) HA.out Ho.out cls vv urg r s' (by have := upto_turn Ho.out Hu.out; omega) He.out).mono ?_
        rintro e w3 ⟨rfl, h3⟩
        rcases Hcs.out with ⟨ec, hec, rfl, rfl⟩ | ⟨rfl, rfl, hc1, hc2, hlf, _⟩
        · have H4 := Lib.hid (h3.alloc hst (.cells #[.int .i64 0, .int .i64 0] 38))
          clear h3
          have hec' : (ec != 0) = true := by simp [bne, hec]
          go_wp2_with fail
          go_roundw
          case rel => exact ⟨k + 1, s', live, al, cl, by omega, by go_num, rfl, rfl, Ho.out, Hro.out, Hre.out, Upto.mono Hu.out (by omega), Hlv.out, H4.out.sub (by simp)⟩
          case measure => simp [intOf]; omega
        · have hpk := pick_free' Ho.out
          have hrm := pick_room Ho.out hlf
          rw [Hro.out] at hrm
          have hpt := pick_turn Ho.out
          have hut := Hu.out s.pick.1
          obtain ⟨t0, hte0⟩ : ∃ t0, (s.at' s.pick.1).2.1 = t0 := ⟨_, rfl⟩
          obtain ⟨_, hte, ht0⟩ := hpk
          have hr3 := (sepR_rot h3).row
          have c7 := hr3.cellAt s.pick.1 (by omega)
          rw [turnCells_get _ hrm, hte0] at c7
          have f7 := hr3.frozenAt s.pick.1
          have z7 := World.block_lt_of_cell? _ _ c7
          dsimp only at z7
          rw [hte0] at hte ht0 hpt hut
          have hdn : decide ((n : Int) ≤ (s.pick.1 : Int)) = false := decide_eq_false (by omega)
          have hdn' : decide (n ≤ s.pick.1) = false := decide_eq_false (by omega)
          have H4 := Lib.hid (h3.alloc (sepR_stable (slabR_stable _ _) (sepR_stable (rowR_stable _ _ _ _ _) (rowR_stable _ _ _ _ _))) (.cells #[.int .i64 (s.pick.1 : Int), .int .i64 s.turn] 38))
          have Hte := Lib.hid hte
          have Hte0 := Lib.hid hte0
          clear h3 hr3 hte0
          rcases hpt with ⟨hfr, rfl⟩ | ⟨hfr, htp⟩
          · have Hfr := Lib.hid hfr
            have hw1 : IntKind.i64.wrap 1 = 1 := IntWalk.i64_in _ (by omega)
            go_wp2_with fail
            go_quiet (fail)
            go_wp2_with (at_builtin; refine Stop.of ?_)
            refine Stop.go ?_
            obtain ⟨i1, hj0, hj1, hj2, hj3⟩ := info_parts infoHandle
            have h4 := H4.out
            have hte1 : s.turn = 1 := by have := Hte.out; omega
            rw [hte1] at h4
            have h5 := fun nq => (turns_put h4 (by rw [turnCells_take Ho.out, hte1]) nq).alloc (sepR_stable (rowR_stable _ _ _ _ _) (sepR_stable (rowR_stable _ _ _ _ _) (slabR_stable _ _))) (.cells #[.int .i64 (s.pick.1 : Int), .int .i64 1] 38)
            refine wpList_append_foot _ rfl _ _ 33 rfl 38 i1 (.agg #[.int .i64 0, .int .i64 0]) 2 16 Try.underlying33 hj0 hj1 hj2 hj3 rfl (by decide) (.slice al live.length cl) live.length (handleCells live) rfl (h5 _).row ⟨_, 0, none⟩ 1 1 [.int .i64 (s.pick.1 : Int), .int .i64 1] rfl rfl (cells_at _ _ _ _ (by simp)) (by simp [Value.oneCell']) (by unfold maxLen; omega) (by omega) ?_
            intro al' cl' w4 hown hF hnew
            have H6 := Lib.hid (sepR_rot ((h5 _).appended (sepR_stable (rowR_stable _ _ _ _ _) (slabR_stable _ _)) hown hF hnew))
            clear hown hF hnew h5 h4
            go_wp2_with fail
            go_roundw
            case rel =>
              refine ⟨k + 1, s.take cls vv, live ++ [((s.pick.1 : Int), s.turn)], al', cl', by omega, by go_num, by simp, by rw [take_freed, Hfr.out]; rfl, take_Ok Ho.out hlf hc1 hc2, (take_room s cls vv).1.trans Hro.out, (take_room s cls vv).2.trans Hre.out, Upto.mono (upto_take Ho.out Hu.out cls vv) (by omega), liveOk_take Ho.out Hlv.out (by omega), ?_⟩
              have h7 := H6.out.sub (M := []) (by simp)
              unfold turnsR
              simpa [handleCells_append, handleCells, hte1] using h7
            case measure => simp [intOf]; omega
          · have hfd : decide (0 < s.freed.length) = true := decide_eq_true hfr
            have hfd' : decide ((0 : Int) < (s.freed.length : Int)) = true := decide_eq_true (by omega)
            have hw1 : IntKind.i64.wrap (t0 + 1) = t0 + 1 := IntWalk.i64_in _ (by omega)
            have htb : (t0 + 1 == 1) = false := by simp; omega
            have htb' : (t0 == 0) = false := by simp; omega
            go_wp2_with fail
            go_quiet (fail)
            go_wp2_with (at_builtin; refine Stop.of ?_)
            refine Stop.go ?_
            obtain ⟨i1, hj0, hj1, hj2, hj3⟩ := info_parts infoHandle
            have h4 := H4.out
            have hte1 : s.turn = (t0 + 1) := by have := Hte.out; omega
            rw [hte1] at h4
            have h5 := fun nq => (turns_put h4 (by rw [turnCells_take Ho.out, hte1]) nq).alloc (sepR_stable (rowR_stable _ _ _ _ _) (sepR_stable (rowR_stable _ _ _ _ _) (slabR_stable _ _))) (.cells #[.int .i64 (s.pick.1 : Int), .int .i64 (t0 + 1)] 38)
            refine wpList_append_foot _ rfl _ _ 33 rfl 38 i1 (.agg #[.int .i64 0, .int .i64 0]) 2 16 Try.underlying33 hj0 hj1 hj2 hj3 rfl (by decide) (.slice al live.length cl) live.length (handleCells live) rfl (h5 _).row ⟨_, 0, none⟩ 1 1 [.int .i64 (s.pick.1 : Int), .int .i64 (t0 + 1)] rfl rfl (cells_at _ _ _ _ (by simp)) (by simp [Value.oneCell']) (by unfold maxLen; omega) (by omega) ?_
            intro al' cl' w4 hown hF hnew
            have H6 := Lib.hid (sepR_rot ((h5 _).appended (sepR_stable (rowR_stable _ _ _ _ _) (slabR_stable _ _)) hown hF hnew))
            clear hown hF hnew h5 h4
            go_wp2_with fail
            go_roundw
            case rel =>
              refine ⟨k + 1, s.take cls vv, live ++ [((s.pick.1 : Int), s.turn)], al', cl', by omega, by go_num, by simp, by rw [take_freed]; congr 1; omega, take_Ok Ho.out hlf hc1 hc2, (take_room s cls vv).1.trans Hro.out, (take_room s cls vv).2.trans Hre.out, Upto.mono (upto_take Ho.out Hu.out cls vv) (by omega), liveOk_take Ho.out Hlv.out (by omega), ?_⟩
              have h7 := H6.out.sub (M := []) (by simp)
              unfold turnsR
              simpa [handleCells_append, handleCells, hte1] using h7
            case measure => simp [intOf]; omega
      · have hb : (ask == 0) = false := by simpa using hask
        clear hask
        by_cases hlv0 : live = []
        · subst hlv0
          go_wp2_with fail
          go_roundw
          case rel => exact ⟨k + 1, s, [], al, cl, by omega, by go_num, rfl, rfl, Ho.out, Hro.out, Hre.out, Upto.mono Hu.out (by omega), Hlv.out, HA.out.sub (by simp)⟩
          case measure => simp [intOf]; omega
        · have hpos : 0 < live.length := List.length_pos_iff.2 hlv0
          obtain ⟨j, hj, hjl⟩ := idx_mod att live.length hpos (by omega)
          have hrow := (sepR_assoc HA.out).row
          obtain ⟨gl, rfl, hgl, x, t, hx, r0, r1⟩ := row_handle hrow hjl
          obtain ⟨gl', cap', hv', _, hcl1, hcl2⟩ := row_some hrow hpos
          simp only [Value.slice.injEq, Option.some.injEq, Addr.mk.injEq, and_true, true_and] at hv'
          obtain ⟨rfl, rfl⟩ := hv'
          simp only [World.size_alloc] at hgl
          obtain ⟨i, c', v', hlk⟩ := Hlv.out.look _ (List.mem_of_getElem? hx)
          dsimp only at hlk
          have Hx := Lib.hid hx
          have Hlk := Lib.hid hlk
          clear hx hlk hrow hlv0
          go_wp2_with fail
          refine (free_goes (sepR_stable (rowR_stable _ _ _ _ _) (rowR_stable _ _ _ _ _)) HA.out Ho.out x t Hlk.out).mono ?_
          rintro e w3 ⟨rfl, h3⟩
          have hla := look_at Hlk.out
          rw [← turnCells_free (s := s) hla.2.2.2.1 (t := t) (by rw [hla.2.1])] at h3
          have H3 := Lib.hid (show Holds w.heap.size w (turnsR w.heap.size (s.free i t) (.slice (some ⟨gl, 0, none⟩) live.length cl) live w1.heap.size n) w3 _ from h3)
          clear h3 r0 r1 hla
          go_wp2_with (at_builtin; refine Stop.of ?_)
          refine Stop.go ?_
          obtain ⟨i1, hj0, hj1, hj2, hj3⟩ := info_parts infoHandle
          have hrow3 := (sepR_assoc H3.out).row
          have htl : (handleCells (live.take j)).length = j * 2 := by rw [handleCells_length, List.length_take]; omega
          refine wpList_append_foot _ rfl _ _ 33 rfl 38 i1 (.agg #[.int .i64 0, .int .i64 0]) 2 16 Try.underlying33 hj0 hj1 hj2 hj3 rfl (by decide) (.slice none 0 0) 0 [] rfl (World.ownsRow_nil _ _ _ _) ⟨gl, 0, none⟩ j cl (handleCells (live.take j)) rfl htl (cells_first hrow3 j) (handleCells_one _) (by unfold maxLen; omega) (by omega) ?_
          intro ar cr w4 hown hF hnew
          have H4 := Lib.hid ((H3.out.nilRow 38 2).appended (turnsR_stable _ _ _ _ _ _) hown hF hnew)
          clear hown hF hnew hrow3 htl
          simp only [Nat.zero_add, List.nil_append] at H4 ⊢
          have hrow4 := (sepR_assoc (show Holds w.heap.size w (sepR (slabR w.heap.size (s.free i t)) (sepR (rowR 38 2 (.slice (some ⟨gl, 0, none⟩) live.length cl) live.length (handleCells live)) (rowR 3 1 (.slice (some ⟨w1.heap.size, 0, none⟩) n n) n (turnCells (s.free i t) n)))) w4 _ from H4.out.drop)).row
          by_cases hcle : cl = j + 1
          · subst hcle
            have hle : live.length = j + 1 := by omega
            have Hle := Lib.hid hle
            have hsl0 : live.length - (j + 1) = 0 := by omega
            have Hrow4 := Lib.hid hrow4
            clear hle hrow4
            go_wp2_with (at_builtin; refine Stop.of ?_)
            refine Stop.go ?_
            have hrow4 := Hrow4.out
            refine wpList_append_foot _ rfl _ _ 33 rfl 38 i1 (.agg #[.int .i64 0, .int .i64 0]) 2 16 Try.underlying33 hj0 hj1 hj2 hj3 rfl (by decide) (.slice ar j cr) j (handleCells (live.take j)) rfl H4.out.row ⟨gl, 0, none⟩ 0 0 [] rfl rfl (by simp) (by simp) (by unfold maxLen; omega) (by omega) ?_
            intro al' cl' w5 hown hF hnew
            have H5 := Lib.hid ((sepR_swapdrop (H4.out.appended (turnsR_stable _ _ _ _ _ _) hown hF hnew)).sub (M := []) (by simp))
            clear hown hF hnew hrow4
            go_wp2_with fail
            go_roundw
            case rel =>
              obtain ⟨rfl, hat, hc0, hil, hsi⟩ := look_at Hlk.out
              have hat1 := (ok_at Ho.out i).2.2.2 (by rw [hat]; exact hc0)
              rw [hat] at hat1
              refine ⟨k + 1, s.free i t, live.take j ++ live.drop (j + 1), al', cl', by omega, by go_num, ?_, by simp [St.free], free_Ok Ho.out hil (by rw [hat]; exact hc0) hat1, Hro.out, Hre.out, Upto.mono (upto_free hil Hu.out (by rw [hat])) (by omega), liveOk_free Hlv.out Hx.out Hlk.out, ?_⟩
              · congr 1; simp; omega
              · have e1 : (live.take j ++ live.drop (j + 1)).length = j + 0 := by simp; omega
                unfold turnsR
                have e2 : live.drop (j + 1) = [] := List.drop_eq_nil_of_le (by have := Hle.out; omega)
                rw [handleCells_append, e1, e2]
                exact H5.out
            case measure => simp [intOf]; omega
          · have htl : (handleCells (live.drop (j + 1))).length = (live.length - (j + 1)) * 2 := by rw [handleCells_length, List.length_drop]
            have Htl := Lib.hid htl
            have Hrow4 := Lib.hid hrow4
            clear htl hrow4
            go_wp2_with (at_builtin; refine Stop.of ?_)
            refine Stop.go ?_
            have hrow4 := Hrow4.out
            refine wpList_append_foot _ rfl _ _ 33 rfl 38 i1 (.agg #[.int .i64 0, .int .i64 0]) 2 16 Try.underlying33 hj0 hj1 hj2 hj3 rfl (by decide) (.slice ar j cr) j (handleCells (live.take j)) rfl H4.out.row ⟨gl, (j + 1) * 2, none⟩ (live.length - (j + 1)) (cl - (j + 1)) (handleCells (live.drop (j + 1))) rfl Htl.out (cells_last hrow4 (j + 1)) (handleCells_one _) (by unfold maxLen; omega) (by omega) ?_
            intro al' cl' w5 hown hF hnew
            have H5 := Lib.hid ((sepR_swapdrop (H4.out.appended (turnsR_stable _ _ _ _ _ _) hown hF hnew)).sub (M := []) (by simp))
            clear hown hF hnew hrow4
            go_wp2_with fail
            go_roundw
            case rel =>
              obtain ⟨rfl, hat, hc0, hil, hsi⟩ := look_at Hlk.out
              have hat1 := (ok_at Ho.out i).2.2.2 (by rw [hat]; exact hc0)
              rw [hat] at hat1
              refine ⟨k + 1, s.free i t, live.take j ++ live.drop (j + 1), al', cl', by omega, by go_num, ?_, by simp [St.free], free_Ok Ho.out hil (by rw [hat]; exact hc0) hat1, Hro.out, Hre.out, Upto.mono (upto_free hil Hu.out (by rw [hat])) (by omega), liveOk_free Hlv.out Hx.out Hlk.out, ?_⟩
              · congr 1; simp; omega
              · have e1 : (live.take j ++ live.drop (j + 1)).length = j + (live.length - (j + 1)) := by simp; omega
                unfold turnsR
                rw [handleCells_append, e1]
                exact H5.out
            case measure => simp [intOf]; omega
    · obtain rfl : k = m := by omega
      have hlg := live_goes (sepR_stable (rowR_stable _ _ _ _ _) (rowR_stable _ _ _ _ _)) HH.out Ho.out
      rw [show (s.slots.length : Int) - (s.freed.length : Int) = (live.length : Int) from by have := Hll.out; omega] at hlg
      have Hlg := Lib.hid hlg
      clear hlg
      go_wp2_with fail
      refine Hlg.out.mono ?_
      rintro e w3 ⟨rfl, h3⟩
      have H3 := Lib.hid h3
      clear h3
      go_wp2_with fail
      refine (awake_any _).mono ?_
      rintro e w4 ⟨rfl, h4⟩
      have H6 := Lib.hid (H3.out.below.trans (h4.mono H3.out.le))
      clear h4
      go_wp2_with fail
      go_ret
      exact ⟨rfl, H6.out⟩
end Go.Proofs.Ytdnjmpmgghpeoaa
