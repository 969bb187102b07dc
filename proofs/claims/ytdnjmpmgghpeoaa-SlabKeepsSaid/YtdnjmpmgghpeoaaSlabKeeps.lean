/- SlabKeeps: a thing that is not freed, nor set, stays as it is. -/
import Derived.Test.YtdnjmpmgghpeoaaSlabOps
namespace Go.Proofs.Ytdnjmpmgghpeoaa
open Go.RowKit

set_option maxHeartbeats 400000 in
set_option maxRecDepth 100000 in
theorem keeps_out (n : Int) (c v : Int) (a : Option Addr) (m cap : Nat) (w : World) (h : n < 2 ∨ 40 < n ∨ c < 1 ∨ 4 < c ∨ 60 < m) :
    Calls Try.prog 6 #[.int .i64 n, .agg #[.int .i64 c, .int .i64 v], .slice a m cap] w fun e w' => e = .returned (.bool true) ∧ Below w.heap.size w w' := by
  by_cases h1 : n < 2
  · go_enter Try.func6, Try.ntmps6
    go_wp2_with (go_at_call 10; refine (awake_any _).mono ?_; rintro e w' ⟨rfl, hb⟩)
    go_ret
    exact ⟨rfl, ((Below.refl _ _).alloc (Nat.le_refl _) _).trans (hb.mono (by simp))⟩
  by_cases h2 : 40 < n
  · go_enter Try.func6, Try.ntmps6
    go_wp2_with (go_at_call 10; refine (awake_any _).mono ?_; rintro e w' ⟨rfl, hb⟩)
    go_ret
    exact ⟨rfl, ((Below.refl _ _).alloc (Nat.le_refl _) _).trans (hb.mono (by simp))⟩
  by_cases h3 : c < 1
  · go_enter Try.func6, Try.ntmps6
    go_wp2_with (go_at_call 10; refine (awake_any _).mono ?_; rintro e w' ⟨rfl, hb⟩)
    go_ret
    exact ⟨rfl, ((Below.refl _ _).alloc (Nat.le_refl _) _).trans (hb.mono (by simp))⟩
  by_cases h4 : 4 < c
  · go_enter Try.func6, Try.ntmps6
    go_wp2_with (go_at_call 10; refine (awake_any _).mono ?_; rintro e w' ⟨rfl, hb⟩)
    go_ret
    exact ⟨rfl, ((Below.refl _ _).alloc (Nat.le_refl _) _).trans (hb.mono (by simp))⟩
  have h5 : ¬ (m : Int) ≤ 60 := by omega
  have hd : decide ((m : Int) ≤ 60) = false := decide_eq_false (by omega)
  clear h
  go_enter Try.func6, Try.ntmps6
  go_wp2_with (first | (go_at_call 11; refine (few_any _ _ _ _).mono ?_; rintro e w' ⟨rfl, rfl⟩) | (go_at_call 10; refine (awake_any _).mono ?_; rintro e w' ⟨rfl, hb⟩))
  go_ret
  exact ⟨rfl, ((Below.refl _ _).alloc (Nat.le_refl _) _).trans (hb.mono (by simp))⟩

def KeepsRel (B : Nat) (w0 : World) (b : Nat) (L : List (Nat × Obj)) (c v : Int) (m : Nat) (lv iv : Value) (wr : World) : Prop :=
  ∃ (k : Nat) (s : St) (live : List (Int × Int)) (al : Option Addr) (cl : Nat), k ≤ m ∧ iv = .int .i64 (k : Int) ∧ lv = .slice al live.length cl ∧ s.Ok ∧ s.Upto ((k : Int) + 1) ∧ s.look 0 1 = some (0, c, v) ∧ (∀ p ∈ live, p ≠ (0, 1)) ∧ live.length ≤ k ∧
    Holds B w0 (sepR (rowR 38 2 (.slice al live.length cl) live.length (handleCells live)) (sepR (slabR b s) noneR)) wr L

def KeepsMid (B : Nat) (w0 : World) (b : Nat) (L : List (Nat × Obj)) (c v : Int) (k : Nat) (lv : Value) (wr : World) : Prop :=
  ∃ (s : St) (live : List (Int × Int)) (al : Option Addr) (cl : Nat), lv = .slice al live.length cl ∧ s.Ok ∧ s.Upto ((k : Int) + 2) ∧ s.look 0 1 = some (0, c, v) ∧ (∀ p ∈ live, p ≠ (0, 1)) ∧ live.length ≤ k + 1 ∧
    Holds B w0 (sepR (rowR 38 2 (.slice al live.length cl) live.length (handleCells live)) (sepR (slabR b s) noneR)) wr L

set_option maxHeartbeats 1000000 in
set_option maxRecDepth 100000 in
theorem keeps_in (n : Nat) (c v : Int) (a : Option Addr) (m cap : Nat) (l : List OpV) (w : World) (hn : 2 ≤ n) (hn' : n ≤ 40) (hc : 1 ≤ c) (hc' : c ≤ 4) (hm : m ≤ 60) (hl : OpsAt w a m cap l) :
    Calls Try.prog 6 #[.int .i64 n, .agg #[.int .i64 c, .int .i64 v], .slice a m cap] w fun e w' => e = .returned (.bool true) ∧ Below w.heap.size w w' := by
  have hd : decide ((m : Int) ≤ 60) = true := decide_eq_true (by omega)
  have Hl := Lib.hid hl
  clear hl
  go_enter Try.func6, Try.ntmps6
  go_wp2_with (first | (go_at_call 11; refine (few_any _ _ _ _).mono ?_; rintro e w' ⟨rfl, rfl⟩) | (go_at_call 9; refine Stop.of ?_))
  refine Stop.go ?_
  have hst := (Holds.start w).alloc noneR_stable (.cells #[.int .i64 c, .int .i64 v] 22)
  have e1 : (⟨n, 1, [], []⟩ : St).takes c true v = (.tuple #[.agg #[.int .i64 0, .int .i64 1], .int .i64 0], ⟨n, 1, [(c, 1, v)], []⟩) := by
    unfold St.takes
    rw [if_neg (by omega)]
    have : (⟨n, 1, [], []⟩ : St).isFull true = false := by simp [St.isFull, St.left]; omega
    rw [this]; rfl
  have o1 := new_Ok (n := n) (r := 1) (by omega) (by omega)
  have o2 := takes_Ok o1 e1
  have t1 : (⟨n, 1, [], []⟩ : St).turn ≤ 1000000 := by simp [St.turn, St.pick]
  have T1 := Lib.hid t1
  clear t1
  have E1 := Lib.hid e1
  have O1 := Lib.hid o1
  have O2 := Lib.hid o2
  have Hst := Lib.hid hst
  clear hst e1 o1 o2
  refine (new_goes noneR_stable Hst.out n 1 (by omega) (by omega) (by omega)).mono ?_
  rintro e w1 ⟨rfl, h1⟩
  simp only [World.size_alloc] at h1
  obtain ⟨c10, c11⟩ := cells2 (h1.box (k := w.heap.size) (o := .cells #[.int .i64 c, .int .i64 v] 22) (by simp))
  have z1 := World.block_lt_of_cell? _ _ c10
  dsimp only at z1
  have H1 := Lib.hid h1
  clear h1
  go_wp2_with fail
  refine (take_goes noneR_stable H1.out O1.out c v true _ _ T1.out E1.out).mono ?_
  rintro e w2 ⟨rfl, h2⟩
  have h3 := h2.alloc (sepR_stable (slabR_stable _ _) noneR_stable) (.cells #[.int .i64 0, .int .i64 1] 38)
  have H3 := Lib.hid h3
  clear h2 h3 c10 c11 z1
  have hloop : KeepsRel w.heap.size w (w.heap.size + 1) [(w2.heap.size, .cells #[.int .i64 0, .int .i64 1] 38), (w.heap.size, .cells #[.int .i64 c, .int .i64 v] 22)] c v m (.slice none 0 0) (.int .i64 0) (w2.alloc (.cells #[.int .i64 0, .int .i64 1] 38)) := by
    refine ⟨0, ⟨n, 1, [(c, 1, v)], []⟩, [], none, 0, Nat.zero_le _, rfl, rfl, O2.out, ?_, ?_, by simp, Nat.le_refl _, ?_⟩
    · intro i
      cases i <;> simp [St.at']
    · simp [St.look]; omega
    · exact H3.out.nilRow _ _
  have Hloop := Lib.hid hloop
  clear hloop
  go_wp2_with fail
  go_loopw [11, 12] (fun lv iv wr => KeepsRel w.heap.size w (w.heap.size + 1) [(w2.heap.size, .cells #[.int .i64 0, .int .i64 1] 38), (w.heap.size, .cells #[.int .i64 c, .int .i64 v] 22)] c v m lv iv wr) (fun _ iv _ => m - (intOf iv).toNat)
  case atStart => exact Hloop.out
  case round =>
    obtain ⟨k, s, live, al, cl, hkm, rfl, rfl, ho, hu, hlook, hne, hll, hH⟩ := hrel
    have HH := Lib.hid hH
    have Ho := Lib.hid ho
    have Hu := Lib.hid hu
    have Hlook := Lib.hid hlook
    have Hne := Lib.hid hne
    clear hH ho hu hlook hne Hloop H3 E1 O1 O2 H1 Hst
    by_cases hlt : k < m
    · obtain ⟨bl, off, ⟨ask, cls, urg, vv, att, hs, ht⟩, rfl, hblt, hok, hwf, p0, p1, p2, p3, p4, p5, p6⟩ := Hl.out.at_ hlt
      have q0 := (HH.out.oldCell hblt).trans p0
      have q1 := (HH.out.oldCell hblt).trans p1
      have q2 := (HH.out.oldCell hblt).trans p2
      have q3 := (HH.out.oldCell hblt).trans p3
      have q4 := (HH.out.oldCell hblt).trans p4
      have q5 := (HH.out.oldCell hblt).trans p5
      have q6 := (HH.out.oldCell hblt).trans p6
      dsimp only at q0 q1 q2 q3 q4 q5 q6
      have hble := HH.out.le
      have hlt' : bl < wr.heap.size := by omega
      have Hwf := Lib.hid hwf
      clear hok hwf p0 p1 p2 p3 p4 p5 p6
      go_upto_if 79 with fail
      have hA := HH.out.alloc (sepR_stable (rowR_stable _ _ _ _ _) (sepR_stable (slabR_stable _ _) noneR_stable)) (.cells #[.int .i64 ask, .int .i64 cls, .bool urg, .int .i64 vv, .int .i64 att, .int .i64 hs, .int .i64 ht] 40)
      have HA := Lib.hid hA
      clear hA
      go_cut [11, 14, 15, 16] from 67 to 157 (fun lv _ _ _ wx => KeepsMid w.heap.size w (w.heap.size + 1) [(w2.heap.size, .cells #[.int .i64 0, .int .i64 1] 38), (w.heap.size, .cells #[.int .i64 c, .int .i64 v] 22)] c v k lv wx)
      case first =>
        by_cases hask : ask = 0
        · have hb : (ask == 0) = true := by simpa using hask
          obtain ⟨r, s', he⟩ : ∃ r s', s.takes cls urg vv = (r, s') := ⟨_, _, rfl⟩
          have hcs := takes_cases Ho.out he
          have Hcs := Lib.hid hcs
          have He := Lib.hid he
          clear hcs he hask
          go_wp2_with fail
          refine (take_goes (sepR_stable (rowR_stable _ _ _ _ _) noneR_stable) (sepR_assoc HA.out) Ho.out cls vv urg r s' (by have := upto_turn Ho.out Hu.out; omega) He.out).mono ?_
          rintro e w3 ⟨rfl, h3⟩
          rcases Hcs.out with ⟨ec, hec, rfl, rfl⟩ | ⟨rfl, rfl, hc1, hc2, hlf, _⟩
          · have H4 := Lib.hid ((sepR_assoc h3).alloc (sepR_stable (rowR_stable _ _ _ _ _) (sepR_stable (slabR_stable _ _) noneR_stable)) (.cells #[.int .i64 0, .int .i64 0] 38))
            clear h3
            go_wp2_with fail
            go_meet
            exact ⟨s', live, al, cl, rfl, Ho.out, Upto.mono Hu.out (by omega), Hlook.out, Hne.out, by omega, H4.out.sub (by simp)⟩
          · have H4 := Lib.hid ((sepR_assoc h3).alloc (sepR_stable (rowR_stable _ _ _ _ _) (sepR_stable (slabR_stable _ _) noneR_stable)) (.cells #[.int .i64 (s.pick.1 : Int), .int .i64 s.turn] 38))
            clear h3
            go_wp2_with (at_builtin; refine Stop.of ?_)
            refine Stop.go ?_
            obtain ⟨i0, hi0, hi1, hi2, hi3⟩ := info_parts infoHandle
            have H5 := H4.out.alloc (sepR_stable (rowR_stable _ _ _ _ _) (sepR_stable (slabR_stable _ _) noneR_stable)) (.cells #[.int .i64 (s.pick.1 : Int), .int .i64 s.turn] 38)
            refine wpList_append_foot _ rfl _ _ 33 rfl 38 i0 (.agg #[.int .i64 0, .int .i64 0]) 2 16 Try.underlying33 hi0 hi1 hi2 hi3 rfl (by decide) (.slice al live.length cl) live.length (handleCells live) rfl H5.row ⟨_, 0, none⟩ 1 1 [.int .i64 (s.pick.1 : Int), .int .i64 s.turn] rfl rfl (cells_at _ _ _ _ (by simp)) (by simp [Value.oneCell']) (by unfold maxLen; omega) (by omega) ?_
            intro al' cl' w4 hown hF hnew
            have H6 := Lib.hid (H5.appended (sepR_stable (slabR_stable _ _) noneR_stable) hown hF hnew)
            clear hown hF hnew H5
            go_wp2_with fail
            go_meet
            have hpk := pick_free' Ho.out
            have hl0 := look_at Hlook.out
            have hp0 : s.pick.1 ≠ 0 := fun e => by rw [e, hl0.2.1] at hpk; exact hl0.2.2.1 hpk.1
            refine ⟨s.take cls vv, live ++ [((s.pick.1 : Int), s.turn)], al', cl', by simp, take_Ok Ho.out hlf hc1 hc2, Upto.mono (upto_take Ho.out Hu.out cls vv) (by omega), ?_, ?_, by simp; omega, ?_⟩
            · rw [take_look Ho.out (by omega), if_neg (by omega)]; exact Hlook.out
            · intro p hp
              rcases List.mem_append.1 hp with hp | hp
              · exact Hne.out p hp
              · simp at hp; subst hp
                intro e
                simp only [Prod.mk.injEq] at e
                omega
            · have := H6.out.sub (M := [(w2.heap.size, .cells #[.int .i64 0, .int .i64 1] 38), (w.heap.size, .cells #[.int .i64 c, .int .i64 v] 22)]) (by simp)
              simpa [handleCells_append, handleCells] using this
        · have hb : (ask == 0) = false := by simpa using hask
          by_cases hlv : live = []
          · subst hlv
            clear hask
            go_wp2_with fail
            go_meet
            exact ⟨s, [], al, cl, rfl, Ho.out, Upto.mono Hu.out (by omega), Hlook.out, by simp, by simp, HA.out.sub (by simp)⟩
          · have hpos : 0 < live.length := List.length_pos_iff.2 hlv
            clear hask
            obtain ⟨j, hj, hjl⟩ := idx_mod att live.length hpos (by omega)
            obtain ⟨gl, rfl, hgl, x, t, hx, r0, r1⟩ := row_handle HA.out.row hjl
            have hne := Hne.out _ (List.mem_of_getElem? hx)
            have Hx := Lib.hid hx
            have Hnx := Lib.hid hne
            clear hx hne
            simp only [World.size_alloc] at hgl
            by_cases hask1 : ask = 1
            · have hb1 : (ask == 1) = true := by simpa using hask1
              clear hask1
              go_wp2_with fail
              cases hlk : s.look x t with
              | none =>
                refine (free_stale (sepR_stable (rowR_stable _ _ _ _ _) noneR_stable) (sepR_assoc HA.out) Ho.out x t hlk).mono ?_
                rintro e w3 ⟨rfl, h3⟩
                have H4 := Lib.hid (sepR_assoc h3)
                clear h3 hlk
                go_wp2_with fail
                go_meet
                exact ⟨s, live, _, cl, rfl, Ho.out, Upto.mono Hu.out (by omega), Hlook.out, Hne.out, by omega, H4.out.sub (by simp)⟩
              | some y =>
                obtain ⟨i, c', v'⟩ := y
                refine (free_goes (sepR_stable (rowR_stable _ _ _ _ _) noneR_stable) (sepR_assoc HA.out) Ho.out x t hlk).mono ?_
                rintro e w3 ⟨rfl, h3⟩
                have H4 := Lib.hid (sepR_assoc h3)
                have Hlk := Lib.hid hlk
                clear h3 hlk
                go_wp2_with fail
                go_meet
                obtain ⟨rfl, hat, hc0, hil, hsi⟩ := look_at Hlk.out
                have hl0 := look_at Hlook.out
                have hat1 := (ok_at Ho.out i).2.2.2 (by rw [hat]; exact hc0)
                rw [hat] at hat1
                have hi0 : i ≠ 0 := fun e => by
                  subst e
                  rw [hl0.2.1] at hat
                  simp only [Prod.mk.injEq] at hat
                  exact Hnx.out (by rw [← hat.2.1]; rfl)
                refine ⟨s.free i t, live, _, cl, rfl, free_Ok Ho.out hil (by rw [hat]; exact hc0) hat1, Upto.mono (upto_free hil Hu.out (by rw [hat])) (by omega), ?_, Hne.out, by omega, H4.out.sub (by simp)⟩
                rw [free_look hil, if_neg (by omega)]; exact Hlook.out
            · have hb1 : (ask == 1) = false := by simpa using hask1
              clear hask1
              have HD := Lib.hid (HA.out.drew (sepR_stable (rowR_stable _ _ _ _ _) (sepR_stable (slabR_stable _ _) noneR_stable)))
              cases hlk : s.look x t with
              | none =>
                have Hlk := Lib.hid hlk
                clear hlk
                go_wp2_with fail
                go_region_with (go_at_call 25; refine (set_stale (sepR_stable (rowR_stable _ _ _ _ _) noneR_stable) (sepR_assoc HD.out) Ho.out x t vv Hlk.out).mono ?_; rintro e w3 ⟨rfl, h3⟩; have H4 := Lib.hid (sepR_assoc h3); clear h3)
                all_goals
                  go_wp2_with fail
                  go_meet
                  exact ⟨s, live, _, cl, rfl, Ho.out, Upto.mono Hu.out (by omega), Hlook.out, Hne.out, by omega, H4.out.sub (by simp)⟩
              | some y =>
                obtain ⟨i, c', v'⟩ := y
                have Hlk := Lib.hid hlk
                clear hlk
                go_wp2_with fail
                go_region_with (go_at_call 25; refine (set_goes (sepR_stable (rowR_stable _ _ _ _ _) noneR_stable) (sepR_assoc HD.out) Ho.out x t vv Hlk.out).mono ?_; rintro e w3 ⟨rfl, h3⟩; have H4 := Lib.hid (sepR_assoc h3); clear h3)
                all_goals
                  go_wp2_with fail
                  go_meet
                  obtain ⟨rfl, hat, hc0, hil, hsi⟩ := look_at Hlk.out
                  have hl0 := look_at Hlook.out
                  have hi0 : i ≠ 0 := fun e => by
                    subst e
                    rw [hl0.2.1] at hat
                    simp only [Prod.mk.injEq] at hat
                    exact Hnx.out (by rw [← hat.2.1]; rfl)
                  refine ⟨_, live, _, cl, rfl, set_Ok Ho.out hsi vv, Upto.mono (upto_set hsi vv Hu.out) (by omega), ?_, Hne.out, by omega, H4.out.sub (by simp)⟩
                  rw [set_look hsi hc0, if_neg (by omega)]; exact Hlook.out
      case rest =>
        obtain ⟨s, live, al, cl, rfl, ho, hu, hlook, hne, hll, hH⟩ := hcut
        obtain ⟨b90, b91⟩ := cells2 (hH.box (k := w2.heap.size) (o := .cells #[.int .i64 0, .int .i64 1] 38) (by simp))
        have z9 := World.block_lt_of_cell? _ _ b90
        dsimp only at z9
        have H4 := Lib.hid (sepR_assoc hH)
        have Ho' := Lib.hid ho
        have Hu' := Lib.hid hu
        have Hlook' := Lib.hid hlook
        have Hne' := Lib.hid hne
        clear hH ho hu hlook hne q0 q1 q2 q3 q4 q5 q6 HA HH Ho Hu Hlook Hne
        have hst := sepR_stable (rowR_stable 38 2 (.slice al live.length cl) live.length (handleCells live)) noneR_stable
        go_wp2_with fail
        refine (get_goes hst H4.out Ho'.out 0 1 Hlook'.out).mono ?_
        rintro e w3 ⟨rfl, h3⟩
        have H5 := Lib.hid h3
        clear h3 b90 b91 z9
        obtain ⟨b90, b91⟩ := cells2 (H5.out.box (k := w2.heap.size) (o := .cells #[.int .i64 0, .int .i64 1] 38) (by simp))
        have z9 := World.block_lt_of_cell? _ _ b90
        dsimp only at z9
        go_wp2_with fail
        refine (class_goes hst H5.out Ho'.out 0 1 Hlook'.out).mono ?_
        rintro e w4 ⟨rfl, h4⟩
        have H6 := Lib.hid h4
        clear h4 b90 b91 z9
        obtain ⟨b90, b91⟩ := cells2 (H6.out.box (k := w.heap.size) (o := .cells #[.int .i64 c, .int .i64 v] 22) (by simp))
        have z9 := World.block_lt_of_cell? _ _ b90
        dsimp only at z9
        go_wp2_with fail
        go_roundw
        case rel => exact ⟨k + 1, s, live, al, cl, by omega, by go_num, rfl, Ho'.out, Upto.mono Hu'.out (by omega), Hlook'.out, Hne'.out, by omega, sepR_assoc H6.out⟩
        case measure => simp [intOf]; omega
    · obtain rfl : k = m := by omega
      obtain ⟨b90, b91⟩ := cells2 (HH.out.box (k := w2.heap.size) (o := .cells #[.int .i64 0, .int .i64 1] 38) (by simp))
      have z9 := World.block_lt_of_cell? _ _ b90
      dsimp only at z9
      have hst := sepR_stable (rowR_stable 38 2 (.slice al live.length cl) live.length (handleCells live)) noneR_stable
      go_wp2_with fail
      refine (free_goes hst (sepR_assoc HH.out) Ho.out 0 1 Hlook.out).mono ?_
      rintro e w3 ⟨rfl, h3⟩
      have H5 := Lib.hid h3
      clear h3 b90 b91 z9
      obtain ⟨b90, b91⟩ := cells2 (H5.out.box (k := w.heap.size) (o := .cells #[.int .i64 c, .int .i64 v] 22) (by simp))
      have z9 := World.block_lt_of_cell? _ _ b90
      dsimp only at z9
      go_wp2_with fail
      refine (awake_any _).mono ?_
      rintro e w4 ⟨rfl, h4⟩
      have H6 := Lib.hid (H5.out.below.trans (h4.mono H5.out.le))
      clear h4
      go_wp2_with fail
      go_ret
      exact ⟨rfl, H6.out⟩
end Go.Proofs.Ytdnjmpmgghpeoaa
