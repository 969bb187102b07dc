/- SlabCounts: what is live and what is left, together. -/
import Derived.Test.YtdnjmpmgghpeoaaSlabLive
import Derived.Test.YtdnjmpmgghpeoaaSlabDead
import Derived.Test.YtdnjmpmgghpeoaaSlabEq
import Derived.Deep.RegionHeld3
namespace Go.Proofs.Ytdnjmpmgghpeoaa
open Go.RowKit
attribute [local go_sem high] handle_eq handle_guard

section
variable {b : Nat} {s : St} {w w0 : World} {B : Nat} {L : List (Nat × Obj)} {Q : World → List Nat → Prop}
theorem Holds.slab (h : Holds B w0 (sepR (slabR b s) Q) w L) : ∃ sv fv, SlabAt w b s sv fv := by
  obtain ⟨F, F1, F2, ⟨sv, fv, hS, _⟩, _⟩ := h.res
  exact ⟨sv, fv, hS⟩
theorem left_still (h : Holds B w0 (sepR (slabR b s) Q) w L) (ho : s.Ok) {x : Int} (hx : s.left = x) : Calls Try.prog 20 #[.pointer (some ⟨b, 0, none⟩)] w (Still (.int .i64 x) w) := by
  obtain ⟨sv, fv, hS⟩ := h.slab
  rw [← hx]
  exact left_any hS ho.room ho.len ho.freed_le
theorem left_at (hQ : Stable Q) (h : Holds B w0 (sepR (slabR b s) Q) w L) (ho : s.Ok) {x : Int} (hx : s.left = x) : Calls Try.prog 20 #[.pointer (some ⟨b, 0, none⟩)] w (Goes (.int .i64 x) B w0 (sepR (slabR b s) Q) L) := by
  rw [← hx]; exact left_goes hQ h ho
theorem live_at (hQ : Stable Q) (h : Holds B w0 (sepR (slabR b s) Q) w L) (ho : s.Ok) {x : Int} (hx : (s.slots.length : Int) - (s.freed.length : Int) = x) : Calls Try.prog 23 #[.pointer (some ⟨b, 0, none⟩), .slice none 0 0] w (Goes (.int .i64 x) B w0 (sepR (slabR b s) Q) L) := by
  rw [← hx]; exact live_goes hQ h ho
theorem live_four_at (hQ : Stable Q) (h : Holds B w0 (sepR (slabR b s) Q) w L) (ho : s.Ok) {x : Int} (hx : (s.slots.length : Int) - (s.freed.length : Int) = x) (gc : Nat) (hgc : w.heap[gc]? = some (.cells #[.int .i64 1, .int .i64 2, .int .i64 3, .int .i64 4] 3)) :
    Calls Try.prog 23 #[.pointer (some ⟨b, 0, none⟩), .slice (some ⟨gc, 0, none⟩) 4 4] w (Goes (.int .i64 x) B w0 (sepR (slabR b s) Q) L) := by
  rw [← hx]; exact live_four hQ h ho gc hgc
end

set_option maxHeartbeats 400000 in
set_option maxRecDepth 100000 in
theorem counts_out (n r : Int) (a : Option Addr) (m cap : Nat) (w : World) (h : n < 1 ∨ 40 < n ∨ r < 0 ∨ n < r ∨ 60 < m) :
    Calls Try.prog 5 #[.agg #[.int .i64 n, .int .i64 r], .slice a m cap] w fun e w' => e = .returned (.bool true) ∧ Below w.heap.size w w' := by
  by_cases h1 : n < 1
  · go_enter Try.func5, Try.ntmps5
    go_wp2_with (go_at_call 10; refine (awake_any _).mono ?_; rintro e w' ⟨rfl, hb⟩)
    go_ret
    exact ⟨rfl, ((Below.refl _ _).alloc (Nat.le_refl _) _).trans (hb.mono (by simp))⟩
  by_cases h2 : 40 < n
  · go_enter Try.func5, Try.ntmps5
    go_wp2_with (go_at_call 10; refine (awake_any _).mono ?_; rintro e w' ⟨rfl, hb⟩)
    go_ret
    exact ⟨rfl, ((Below.refl _ _).alloc (Nat.le_refl _) _).trans (hb.mono (by simp))⟩
  by_cases h3 : r < 0
  · go_enter Try.func5, Try.ntmps5
    go_wp2_with (go_at_call 10; refine (awake_any _).mono ?_; rintro e w' ⟨rfl, hb⟩)
    go_ret
    exact ⟨rfl, ((Below.refl _ _).alloc (Nat.le_refl _) _).trans (hb.mono (by simp))⟩
  by_cases h4 : n < r
  · go_enter Try.func5, Try.ntmps5
    go_wp2_with (go_at_call 10; refine (awake_any _).mono ?_; rintro e w' ⟨rfl, hb⟩)
    go_ret
    exact ⟨rfl, ((Below.refl _ _).alloc (Nat.le_refl _) _).trans (hb.mono (by simp))⟩
  have hd : decide ((m : Int) ≤ 60) = false := decide_eq_false (by omega)
  clear h
  go_enter Try.func5, Try.ntmps5
  go_wp2_with (first | (go_at_call 11; refine (few_any _ _ _ _).mono ?_; rintro e w' ⟨rfl, rfl⟩) | (go_at_call 10; refine (awake_any _).mono ?_; rintro e w' ⟨rfl, hb⟩))
  go_ret
  exact ⟨rfl, ((Below.refl _ _).alloc (Nat.le_refl _) _).trans (hb.mono (by simp))⟩

theorem row_cells {w : World} {g cl : Nat} {live : List (Int × Int)} (h : w.ownsRow 0 38 2 (.slice (some ⟨g, 0, none⟩) live.length cl) live.length (handleCells live)) {j : Nat} {x t : Int} (hx : live[j]? = some (x, t)) :
    g < w.heap.size ∧ w.cell? ⟨g, j * 2, none⟩ = some (.int .i64 x) ∧ w.cell? ⟨g, j * 2 + 1, none⟩ = some (.int .i64 t) := by
  obtain ⟨g', e, hg, x', t', hx', r0, r1⟩ := row_handle h (List.getElem?_eq_some_iff.1 hx).1
  cases e
  rw [hx] at hx'
  cases hx'
  exact ⟨hg, r0, r1⟩

def countsR (b : Nat) (s : St) (lv : Value) (live : List (Int × Int)) (dv : Value) (dead : List (Int × Int)) : World → List Nat → Prop :=
  sepR (slabR b s) (sepR (rowR 38 2 lv live.length (handleCells live)) (rowR 38 2 dv dead.length (handleCells dead)))
theorem countsR_stable (b : Nat) (s : St) (lv : Value) (live : List (Int × Int)) (dv : Value) (dead : List (Int × Int)) : Stable (countsR b s lv live dv dead) :=
  sepR_stable (slabR_stable _ _) (sepR_stable (rowR_stable _ _ _ _ _) (rowR_stable _ _ _ _ _))

def CountsMid (B : Nat) (w0 : World) (b n r : Nat) (L : List (Nat × Obj)) (k : Nat) (lv dv : Value) (wr : World) : Prop :=
  ∃ (s : St) (live dead : List (Int × Int)) (al : Option Addr) (cl : Nat) (ad : Option Addr) (cd : Nat), lv = .slice al live.length cl ∧ dv = .slice ad dead.length cd ∧ s.Ok ∧ s.room = n ∧ s.reserve = r ∧ s.Upto (k : Int) ∧ LiveOk s live ∧ DeadOk s dead ∧ live.length ≤ k ∧ dead.length ≤ k ∧
    Holds B w0 (countsR b s (.slice al live.length cl) live (.slice ad dead.length cd) dead) wr L
def CountsRel (B : Nat) (w0 : World) (b n r : Nat) (L : List (Nat × Obj)) (m : Nat) (lv dv iv : Value) (wr : World) : Prop :=
  ∃ k : Nat, k ≤ m ∧ iv = .int .i64 (k : Int) ∧ CountsMid B w0 b n r L k lv dv wr

def DeadRel (B : Nat) (w0 : World) (R : World → List Nat → Prop) (L : List (Nat × Obj)) (m : Nat) (iv : Value) (wr : World) : Prop :=
  ∃ j : Nat, j ≤ m ∧ iv = .int .i64 (j : Int) ∧ Holds B w0 R wr L

set_option maxHeartbeats 8000000 in
set_option maxRecDepth 100000 in
theorem counts_in (n r : Nat) (a : Option Addr) (m cap : Nat) (l : List OpV) (w : World) (hn : 1 ≤ n) (hn' : n ≤ 40) (hr : r ≤ n) (hm : m ≤ 60) (hl : OpsAt w a m cap l) :
    Calls Try.prog 5 #[.agg #[.int .i64 n, .int .i64 r], .slice a m cap] w fun e w' => e = .returned (.bool true) ∧ Below w.heap.size w w' := by
  have hd : decide ((m : Int) ≤ 60) = true := decide_eq_true (by omega)
  have Hl := Lib.hid hl
  clear hl
  go_enter Try.func5, Try.ntmps5
  go_wp2_with (first | (go_at_call 11; refine (few_any _ _ _ _).mono ?_; rintro e w' ⟨rfl, rfl⟩) | (go_at_call 9; refine Stop.of ?_))
  refine Stop.go ?_
  have hst := (Holds.start w).alloc noneR_stable (.cells #[.int .i64 n, .int .i64 r] 22)
  have Hst := Lib.hid hst
  clear hst
  refine (new_goes noneR_stable Hst.out n r (by omega) (by omega) (by omega)).mono ?_
  rintro e w1 ⟨rfl, h1⟩
  simp only [World.size_alloc] at h1
  have hloop : CountsRel w.heap.size w (w.heap.size + 1) n r [(w.heap.size, .cells #[.int .i64 n, .int .i64 r] 22)] m (.slice none 0 0) (.slice none 0 0) (.int .i64 0) w1 := by
    refine ⟨0, Nat.zero_le _, rfl, ⟨n, r, [], []⟩, [], [], none, 0, none, 0, rfl, rfl, new_Ok (by omega) (by omega), rfl, rfl, new_Upto _ _, liveOk_new _ _, by intro p hp; simp at hp, Nat.le_refl _, Nat.le_refl _, ?_⟩
    exact sepR_unit (sepR_rot ((h1.nilRow 38 2).nilRow 38 2))
  have Hloop := Lib.hid hloop
  clear hloop h1
  go_wp2_with fail
  go_loopw [7, 8, 9] (fun lv dv iv wr => CountsRel w.heap.size w (w.heap.size + 1) n r [(w.heap.size, .cells #[.int .i64 n, .int .i64 r] 22)] m lv dv iv wr) (fun _ _ iv _ => m - (intOf iv).toNat)
  case atStart => exact Hloop.out
  case round =>
    obtain ⟨k, hkm, rfl, s, live, dead, al, cl, ad, cd, rfl, rfl, ho, hro, hre, hu, hlv, hdd, hll, hdl, hH⟩ := hrel
    have HH := Lib.hid hH
    have Ho := Lib.hid ho
    have Hu := Lib.hid hu
    have Hlv := Lib.hid hlv
    have Hdd := Lib.hid hdd
    have Hro := Lib.hid hro
    have Hre := Lib.hid hre
    have hlv1 := hlv.len
    have hsl := ho.len
    have hfl := ho.freed_le
    rw [hro] at hsl
    have hll' : live.length ≤ 40 := by omega
    obtain ⟨lf, hlf⟩ : ∃ x, s.left = x := ⟨_, rfl⟩
    have hlfe : lf = (n : Int) - live.length := by rw [← hlf]; unfold St.left; rw [hro]; omega
    have Hlf := Lib.hid hlf
    have hlf40 : lf ≤ 40 := by omega
    have hlf00 : 0 ≤ lf := by omega
    have Hlfe := Lib.hid hlfe
    clear hH ho hu hlv hdd hro hre Hloop hlv1 hsl hlf hlfe
    have hst := countsR_stable (w.heap.size + 1) s (.slice al live.length cl) live (.slice ad dead.length cd) dead
    by_cases hlt : k < m
    · obtain ⟨bl, off, ⟨ask, cls, urg, vv, att, hs, ht⟩, rfl, hblt, hok, hwf, p0, p1, p2, p3, p4, p5, p6⟩ := Hl.out.at_ hlt
      have q0 := (HH.out.oldCell hblt).trans p0
      have q1 := (HH.out.oldCell hblt).trans p1
      have q2 := (HH.out.oldCell hblt).trans p2
      have q3 := (HH.out.oldCell hblt).trans p3
      have q4 := (HH.out.oldCell hblt).trans p4
      have q5 := (HH.out.oldCell hblt).trans p5
      have q6 := (HH.out.oldCell hblt).trans p6
      dsimp only at q0 q1 q2 q3 q4 q5 q6
      have hble := HH.out.le
      have hlt' : bl < wr.heap.size := by omega
      clear hok hwf p0 p1 p2 p3 p4 p5 p6
      have hA := HH.out.alloc hst (.cells #[.int .i64 ask, .int .i64 cls, .bool urg, .int .i64 vv, .int .i64 att, .int .i64 hs, .int .i64 ht] 40)
      have HA := Lib.hid hA
      clear hA
      go_wp2_with fail
      refine (left_goes (sepR_stable (rowR_stable _ _ _ _ _) (rowR_stable _ _ _ _ _)) HA.out Ho.out).mono ?_
      rintro e wL ⟨rfl, hL⟩
      rw [Hlf.out]
      have HL := Lib.hid hL
      obtain ⟨o0, o1, o2, o3, o4, o5, o6⟩ := cells7 (hL.box (k := wr.heap.size) (o := .cells #[.int .i64 ask, .int .i64 cls, .bool urg, .int .i64 vv, .int .i64 att, .int .i64 hs, .int .i64 ht] 40) (by simp))
      have z0 := World.block_lt_of_cell? _ _ o0
      dsimp only at z0
      clear hL q0 q1 q2 q3 q4 q5 q6
      go_upto_if 82 with fail
      go_cut [7, 8, 12, 13, 14, 15, 16, 17, 18, 19] from 68 to 263 (fun lv dv _ _ _ _ _ _ _ _ wx => CountsMid w.heap.size w (w.heap.size + 1) n r [(w.heap.size, .cells #[.int .i64 n, .int .i64 r] 22)] (k + 1) lv dv wx)
      case first =>
        have hsz2 : Stable (countsR (w.heap.size + 1) s (.slice al live.length cl) live (.slice ad dead.length cd) dead) := hst
        by_cases hask : ask = 0
        · as_aux_lemma =>
          have hb : (ask == 0) = true := by simpa using hask
          obtain ⟨rv, s', he⟩ : ∃ rv s', s.takes cls urg vv = (rv, s') := ⟨_, _, rfl⟩
          have Hcs := Lib.hid (takes_cases Ho.out he)
          have He := Lib.hid he
          clear he hask
          go_wp2_with fail
          refine (take_goes (sepR_stable (rowR_stable _ _ _ _ _) (rowR_stable _ _ _ _ _)) HL.out Ho.out cls vv urg rv s' (by have := upto_turn Ho.out Hu.out; omega) He.out).mono ?_
          rintro e w3 ⟨rfl, h3⟩
          rcases Hcs.out with ⟨ec, hec, rfl, rfl⟩ | ⟨rfl, rfl, hc1, hc2, hlf0, hful⟩
          · have H4 := Lib.hid (h3.alloc hst (.cells #[.int .i64 0, .int .i64 0] 38))
            clear h3 o0 o1 o2 o3 o4 o5 o6 z0
            go_wp2_with fail
            go_meet
            exact ⟨s', live, dead, al, cl, ad, cd, rfl, rfl, Ho.out, Hro.out, Hre.out, Upto.mono Hu.out (by omega), Hlv.out, Hdd.out, by omega, by omega, H4.out.sub (by simp)⟩
          · have hst' := countsR_stable (w.heap.size + 1) (s.take cls vv) (.slice al live.length cl) live (.slice ad dead.length cd) dead
            have hlfp : 0 < lf := by rw [← Hlf.out]; exact hlf0
            have hres : urg = false → (r : Int) ≤ lf - 1 := by
              intro e
              subst e
              have h1 : s.isFull false = false := hful
              have h2 := Hlf.out
              have h3' := Hre.out
              simp only [St.isFull] at h1
              simp at h1
              omega
            have H4 := Lib.hid (h3.alloc hst' (.cells #[.int .i64 (s.pick.1 : Int), .int .i64 s.turn] 38))
            have Hlf0 := Lib.hid hlf0
            have Hres := Lib.hid hres
            have hlt4 : (s.take cls vv).left = lf - 1 := by rw [take_left, Hlf.out]
            have Hlt4 := Lib.hid hlt4
            have hOk' := Lib.hid (take_Ok Ho.out hlf0 hc1 hc2 (v := vv))
            clear h3 hlf0 hful hres hlt4 o0 o1 o2 o3 o4 o5 o6 z0
            obtain ⟨o0, o1, o2, o3, o4, o5, o6⟩ := cells7 (H4.out.box (k := wr.heap.size) (o := .cells #[.int .i64 ask, .int .i64 cls, .bool urg, .int .i64 vv, .int .i64 att, .int .i64 hs, .int .i64 ht] 40) (by simp))
            have z0 := World.block_lt_of_cell? _ _ o0
            dsimp only at z0
            obtain ⟨t0, t1⟩ := cells2 (H4.out.box (k := w.heap.size) (o := .cells #[.int .i64 n, .int .i64 r] 22) (by simp))
            have z1 := World.block_lt_of_cell? _ _ t0
            dsimp only at z1
            go_upto_region 16 with fail
            go_cut [116] from 96 to 116 (fun c wx => c = .bool false ∧ Holds w.heap.size w (countsR (w.heap.size + 1) (s.take cls vv) (.slice al live.length cl) live (.slice ad dead.length cd) dead) wx [(w3.heap.size, .cells #[.int .i64 (s.pick.1 : Int), .int .i64 s.turn] 38), (w.heap.size, .cells #[.int .i64 n, .int .i64 r] 22)])
            case first =>
              have hlf1 : (lf == 0) = false := by simp; omega
              have hw1 : IntKind.i64.wrap (lf - 1) = lf - 1 := IntWalk.i64_in _ (by omega)
              cases urg with
              | true =>
                go_wp2_with fail
                go_quiet ((go_at_call 20; exact Calls.quiet_of (left_still (H4.out.drewN hst' _) hOk'.out Hlt4.out)))
                go_wp2
                go_meet
                exact ⟨rfl, (H4.out.drewN hst' _).sub (by simp)⟩
              | false =>
                have hr1 := Hres.out rfl
                have hdr : decide (lf - 1 < (r : Int)) = false := decide_eq_false (by omega)
                go_wp2_with fail
                go_quiet ((go_at_call 20; exact Calls.quiet_of (left_still (H4.out.drewN hst' _) hOk'.out Hlt4.out)))
                go_wp2
                go_meet
                exact ⟨rfl, (H4.out.drewN hst' _).sub (by simp)⟩
            case rest =>
              obtain ⟨rfl, hX⟩ := hcut
              have HX := Lib.hid hX
              clear hX H4 HL HA HH o0 o1 o2 o3 o4 o5 o6 z0 t0 t1 z1
              go_wp2_with fail
              go_loopw [14] (fun iv wy => DeadRel w.heap.size w (countsR (w.heap.size + 1) (s.take cls vv) (.slice al live.length cl) live (.slice ad dead.length cd) dead) [(w3.heap.size, .cells #[.int .i64 (s.pick.1 : Int), .int .i64 s.turn] 38), (w.heap.size, .cells #[.int .i64 n, .int .i64 r] 22)] live.length iv wy) (fun iv _ => live.length - (intOf iv).toNat)
              case atStart => exact ⟨0, Nat.zero_le _, rfl, HX.out⟩
              case round =>
                obtain ⟨j, hjm, rfl, hY⟩ := hrel
                have HY := Lib.hid hY
                obtain ⟨b0, b1⟩ := cells2 (hY.box (k := w3.heap.size) (o := .cells #[.int .i64 (s.pick.1 : Int), .int .i64 s.turn] 38) (by simp))
                have z3 := World.block_lt_of_cell? _ _ b0
                dsimp only at z3
                by_cases hjl : j < live.length
                · obtain ⟨gl, rfl, hgl, x, t, hx, r0, r1⟩ := row_handle (sepR_assoc hY).row hjl
                  have hne : (x == (s.pick.1 : Int)) = false := beq_eq_false_iff_ne.2 (liveOk_ne Ho.out Hlv.out (List.mem_of_getElem? hx))
                  clear hY hx
                  go_wp2_with fail
                  go_quiet (fail)
                  go_wp2
                  go_roundw
                  case rel => exact ⟨j + 1, by omega, by go_num, HY.out.drewN hst' _⟩
                  case measure => simp [intOf]; omega
                · obtain rfl : j = live.length := by omega
                  clear hY b0 b1 z3 HX
                  go_wp2_with fail
                  go_loopw [15] (fun iv wz => DeadRel w.heap.size w (countsR (w.heap.size + 1) (s.take cls vv) (.slice al live.length cl) live (.slice ad dead.length cd) dead) [(w3.heap.size, .cells #[.int .i64 (s.pick.1 : Int), .int .i64 s.turn] 38), (w.heap.size, .cells #[.int .i64 n, .int .i64 r] 22)] dead.length iv wz) (fun iv _ => dead.length - (intOf iv).toNat)
                  case atStart => exact ⟨0, Nat.zero_le _, rfl, HY.out⟩
                  case round =>
                    obtain ⟨i, him, rfl, hZ⟩ := hrel
                    have HZ := Lib.hid hZ
                    obtain ⟨b0, b1⟩ := cells2 (hZ.box (k := w3.heap.size) (o := .cells #[.int .i64 (s.pick.1 : Int), .int .i64 s.turn] 38) (by simp))
                    have z3 := World.block_lt_of_cell? _ _ b0
                    dsimp only at z3
                    by_cases hil : i < dead.length
                    · obtain ⟨gl, rfl, hgl, x, t, hx, r0, r1⟩ := row_handle (sepR_rot hZ).row hil
                      have hne := dead_new Ho.out Hdd.out _ (List.mem_of_getElem? hx)
                      have hne2 : (x == (s.pick.1 : Int) && t == s.turn) = false := by
                        rw [Bool.and_eq_false_iff, beq_eq_false_iff_ne, beq_eq_false_iff_ne]
                        by_cases e1 : x = (s.pick.1 : Int)
                        · exact .inr fun e2 => hne (by rw [e1, e2])
                        · exact .inl e1
                      clear hZ hx hne
                      go_wp2_with fail
                      go_quiet (fail)
                      go_wp2
                      go_roundw
                      case rel => exact ⟨i + 1, by omega, by go_num, HZ.out.drewN hst' _⟩
                      case measure => simp [intOf]; omega
                    · obtain rfl : i = dead.length := by omega
                      clear hZ HY
                      go_wp2_with (at_builtin; refine Stop.of ?_)
                      refine Stop.go ?_
                      obtain ⟨i1, hj0, hj1, hj2, hj3⟩ := info_parts infoHandle
                      have h5 := (sepR_assoc HZ.out).alloc (sepR_stable (rowR_stable _ _ _ _ _) (sepR_stable (slabR_stable _ _) (rowR_stable _ _ _ _ _))) (.cells #[.int .i64 (s.pick.1 : Int), .int .i64 s.turn] 38)
                      refine wpList_append_foot _ rfl _ _ 33 rfl 38 i1 (.agg #[.int .i64 0, .int .i64 0]) 2 16 Try.underlying33 hj0 hj1 hj2 hj3 rfl (by decide) (.slice al live.length cl) live.length (handleCells live) rfl h5.row ⟨_, 0, none⟩ 1 1 [.int .i64 (s.pick.1 : Int), .int .i64 s.turn] rfl rfl (cells_at _ _ _ _ (by simp)) (by simp [Value.oneCell']) (by unfold maxLen; omega) (by omega) ?_
                      intro al' cl' w4 hown hF hnew
                      have H6 := Lib.hid (sepR_assoc (h5.appended (sepR_stable (slabR_stable _ _) (rowR_stable _ _ _ _ _)) hown hF hnew))
                      clear hown hF hnew h5
                      go_wp2_with fail
                      go_meet
                      refine ⟨s.take cls vv, live ++ [((s.pick.1 : Int), s.turn)], dead, al', cl', ad, cd, by simp, rfl, hOk'.out, (take_room s cls vv).1.trans Hro.out, (take_room s cls vv).2.trans Hre.out, upto_take Ho.out Hu.out cls vv, liveOk_take Ho.out Hlv.out (by omega), dead_take Ho.out Hdd.out, by simp; omega, by omega, ?_⟩
                      have h7 := H6.out.sub (M := [(w.heap.size, .cells #[.int .i64 n, .int .i64 r] 22)]) (by simp)
                      unfold countsR
                      simpa [handleCells_append, handleCells] using h7
        · have hb : (ask == 0) = false := by simpa using hask
          clear hask
          by_cases hask1 : ask = 1
          · have hb1 : (ask == 1) = true := by simpa using hask1
            clear hask1
            by_cases hlv0 : live = []
            · subst hlv0
              go_wp2_with fail
              go_meet
              exact ⟨s, [], dead, al, cl, ad, cd, rfl, rfl, Ho.out, Hro.out, Hre.out, Upto.mono Hu.out (by omega), Hlv.out, Hdd.out, by simp, by omega, HL.out.sub (by simp)⟩
            · as_aux_lemma =>
              have hpos : 0 < live.length := List.length_pos_iff.2 hlv0
              obtain ⟨j, hj, hjl⟩ := idx_mod att live.length hpos (by omega)
              have hrow := (sepR_assoc HL.out).row
              obtain ⟨gl, rfl, hgl, x, t, hx, r0, r1⟩ := row_handle hrow hjl
              obtain ⟨gl', cap', hv', _, hcl1, hcl2⟩ := row_some hrow hpos
              simp only [Value.slice.injEq, Option.some.injEq, Addr.mk.injEq, and_true, true_and] at hv'
              obtain ⟨rfl, rfl⟩ := hv'
              obtain ⟨i, c', v', hlk⟩ := Hlv.out.look _ (List.mem_of_getElem? hx)
              dsimp only at hlk
              have hla := look_at hlk
              have hat1 := (ok_at Ho.out i).2.2.2 (by rw [hla.2.1]; exact hla.2.2.1)
              rw [hla.2.1] at hat1
              have hOk' := Lib.hid (free_Ok Ho.out hla.2.2.2.1 (by rw [hla.2.1]; exact hla.2.2.1) hat1)
              have Hlf1 := Lib.hid (show (s.free i t).left = lf + 1 by rw [free_left, Hlf.out])
              have Hx := Lib.hid hx
              have Hlk := Lib.hid hlk
              clear hx hlk hrow hlv0 hla hat1
              go_wp2_with fail
              refine (free_goes (sepR_stable (rowR_stable _ _ _ _ _) (rowR_stable _ _ _ _ _)) HL.out Ho.out x t Hlk.out).mono ?_
              rintro e w3 ⟨rfl, h3⟩
              have H3 := Lib.hid h3
              have hw1 : IntKind.i64.wrap (lf + 1) = lf + 1 := IntWalk.i64_in _ (by omega)
              clear h3 r0 r1 o0 o1 o2 o3 o4 o5 o6 z0
              go_wp2_with fail
              refine (left_at (sepR_stable (rowR_stable _ _ _ _ _) (rowR_stable _ _ _ _ _)) H3.out hOk'.out Hlf1.out).mono ?_
              rintro e w4 ⟨rfl, h4⟩
              clear hgl
              obtain ⟨hgl, r0, r1⟩ := row_cells (sepR_assoc h4).row Hx.out
              have H4 := Lib.hid h4
              clear h4
              go_wp2_with (at_builtin; refine Stop.of ?_)
              refine Stop.go ?_
              obtain ⟨i1, hj0, hj1, hj2, hj3⟩ := info_parts infoHandle
              have h5 := (sepR_rot H4.out).alloc (sepR_stable (rowR_stable _ _ _ _ _) (sepR_stable (slabR_stable _ _) (rowR_stable _ _ _ _ _))) (.cells #[.int .i64 x, .int .i64 t] 38)
              refine wpList_append_foot _ rfl _ _ 33 rfl 38 i1 (.agg #[.int .i64 0, .int .i64 0]) 2 16 Try.underlying33 hj0 hj1 hj2 hj3 rfl (by decide) (.slice ad dead.length cd) dead.length (handleCells dead) rfl h5.row ⟨_, 0, none⟩ 1 1 [.int .i64 x, .int .i64 t] rfl rfl (cells_at _ _ _ _ (by simp)) (by simp [Value.oneCell']) (by unfold maxLen; omega) (by omega) ?_
              intro ad' cd' w5 hown hF hnew
              have h6 := sepR_tor (h5.appended (sepR_stable (slabR_stable _ _) (rowR_stable _ _ _ _ _)) hown hF hnew)
              obtain ⟨D, hD⟩ : ∃ D, D = dead ++ [(x, t)] := ⟨_, rfl⟩
              have hDl : D.length = dead.length + 1 := by rw [hD]; simp
              have h6' : Holds w.heap.size w (countsR (w.heap.size + 1) (s.free i t) (.slice (some ⟨gl, 0, none⟩) live.length cl) live (.slice ad' D.length cd') D) w5 [(w.heap.size, .cells #[.int .i64 n, .int .i64 r] 22)] := by
                rw [hD]
                unfold countsR
                simpa [handleCells_append, handleCells] using h6.sub (M := [(w.heap.size, .cells #[.int .i64 n, .int .i64 r] 22)]) (by simp)
              rw [← hDl]
              have H6 := Lib.hid h6'
              have HD := Lib.hid hD
              have Hdl := Lib.hid hDl
              have hDl2 : D.length ≤ k + 1 := by omega
              have hst6 := countsR_stable (w.heap.size + 1) (s.free i t) (.slice (some ⟨gl, 0, none⟩) live.length cl) live (.slice ad' D.length cd') D
              clear hown hF hnew h5 h6 h6' r0 r1 hD hDl
              go_wp2_with (at_builtin; refine Stop.of ?_)
              refine Stop.go ?_
              have hrow3 := (sepR_assoc H6.out).row
              have htl : (handleCells (live.take j)).length = j * 2 := by rw [handleCells_length, List.length_take]; omega
              refine wpList_append_foot _ rfl _ _ 33 rfl 38 i1 (.agg #[.int .i64 0, .int .i64 0]) 2 16 Try.underlying33 hj0 hj1 hj2 hj3 rfl (by decide) (.slice none 0 0) 0 [] rfl (World.ownsRow_nil _ _ _ _) ⟨gl, 0, none⟩ j cl (handleCells (live.take j)) rfl htl (cells_first hrow3 j) (handleCells_one _) (by unfold maxLen; omega) (by omega) ?_
              intro ar cr w6 hown hF hnew
              have H7 := Lib.hid ((H6.out.nilRow 38 2).appended hst6 hown hF hnew)
              clear hown hF hnew hrow3 htl
              simp only [Nat.zero_add, List.nil_append] at H7 ⊢
              have hrow4 := (sepR_assoc (show Holds w.heap.size w (sepR (slabR (w.heap.size + 1) (s.free i t)) (sepR (rowR 38 2 (.slice (some ⟨gl, 0, none⟩) live.length cl) live.length (handleCells live)) (rowR 38 2 (.slice ad' D.length cd') D.length (handleCells D)))) w6 _ from H7.out.drop)).row
              by_cases hcle : cl = j + 1
              · subst hcle
                have hle : live.length = j + 1 := by omega
                have Hle := Lib.hid hle
                have hsl0 : live.length - (j + 1) = 0 := by omega
                have Hrow4 := Lib.hid hrow4
                clear hle hrow4
                go_wp2_with (at_builtin; refine Stop.of ?_)
                refine Stop.go ?_
                have hrow4 := Hrow4.out
                refine wpList_append_foot _ rfl _ _ 33 rfl 38 i1 (.agg #[.int .i64 0, .int .i64 0]) 2 16 Try.underlying33 hj0 hj1 hj2 hj3 rfl (by decide) (.slice ar j cr) j (handleCells (live.take j)) rfl H7.out.row ⟨gl, 0, none⟩ 0 0 [] rfl rfl (by simp) (by simp) (by unfold maxLen; omega) (by omega) ?_
                intro al' cl' w7 hown hF hnew
                have H8 := Lib.hid ((sepR_swapdrop (H7.out.appended hst6 hown hF hnew)).sub (M := [(w.heap.size, .cells #[.int .i64 n, .int .i64 r] 22)]) (by simp))
                clear hown hF hnew hrow4
                go_wp2_with fail
                go_meet
                obtain ⟨rfl, hat, hc0, hil, hsi⟩ := look_at Hlk.out
                refine ⟨s.free i t, live.take j ++ live.drop (j + 1), D, al', cl', ad', cd', ?_, rfl, hOk'.out, Hro.out, Hre.out, Upto.mono (upto_free hil Hu.out (by rw [hat])) (by omega), liveOk_free Hlv.out Hx.out Hlk.out, by rw [HD.out]; exact dead_free Hlk.out Hdd.out, by simp; omega, hDl2, ?_⟩
                · congr 1; simp; omega
                · have e1 : (live.take j ++ live.drop (j + 1)).length = j + 0 := by simp; omega
                  unfold countsR
                  have e2 : live.drop (j + 1) = [] := List.drop_eq_nil_of_le (by have := Hle.out; omega)
                  rw [handleCells_append, e1, e2]
                  exact H8.out
              · have htl : (handleCells (live.drop (j + 1))).length = (live.length - (j + 1)) * 2 := by rw [handleCells_length, List.length_drop]
                have Htl := Lib.hid htl
                have Hrow4 := Lib.hid hrow4
                clear htl hrow4
                go_wp2_with (at_builtin; refine Stop.of ?_)
                refine Stop.go ?_
                have hrow4 := Hrow4.out
                refine wpList_append_foot _ rfl _ _ 33 rfl 38 i1 (.agg #[.int .i64 0, .int .i64 0]) 2 16 Try.underlying33 hj0 hj1 hj2 hj3 rfl (by decide) (.slice ar j cr) j (handleCells (live.take j)) rfl H7.out.row ⟨gl, (j + 1) * 2, none⟩ (live.length - (j + 1)) (cl - (j + 1)) (handleCells (live.drop (j + 1))) rfl Htl.out (cells_last hrow4 (j + 1)) (handleCells_one _) (by unfold maxLen; omega) (by omega) ?_
                intro al' cl' w7 hown hF hnew
                have H8 := Lib.hid ((sepR_swapdrop (H7.out.appended hst6 hown hF hnew)).sub (M := [(w.heap.size, .cells #[.int .i64 n, .int .i64 r] 22)]) (by simp))
                clear hown hF hnew hrow4
                go_wp2_with fail
                go_meet
                obtain ⟨rfl, hat, hc0, hil, hsi⟩ := look_at Hlk.out
                refine ⟨s.free i t, live.take j ++ live.drop (j + 1), D, al', cl', ad', cd', ?_, rfl, hOk'.out, Hro.out, Hre.out, Upto.mono (upto_free hil Hu.out (by rw [hat])) (by omega), liveOk_free Hlv.out Hx.out Hlk.out, by rw [HD.out]; exact dead_free Hlk.out Hdd.out, by simp; omega, hDl2, ?_⟩
                · congr 1; simp; omega
                · have e1 : (live.take j ++ live.drop (j + 1)).length = j + (live.length - (j + 1)) := by simp; omega
                  unfold countsR
                  rw [handleCells_append, e1]
                  exact H8.out
          · have hb1 : (ask == 1) = false := by simpa using hask1
            clear hask1
            go_wp2_with fail
            go_meet
            exact ⟨s, live, dead, al, cl, ad, cd, rfl, rfl, Ho.out, Hro.out, Hre.out, Upto.mono Hu.out (by omega), Hlv.out, Hdd.out, by omega, by omega, HL.out.sub (by simp)⟩
      case rest =>
        obtain ⟨s2, live2, dead2, al2, cl2, ad2, cd2, rfl, rfl, ho2, hro2, hre2, hu2, hlv2, hdd2, hll2, hdl2, hH2⟩ := hcut
        have X2 := Lib.hid hH2
        have Ho2 := Lib.hid ho2
        have Hlv2 := Lib.hid hlv2
        have Hdd2 := Lib.hid hdd2
        have Hu2 := Lib.hid hu2
        have Hro2 := Lib.hid hro2
        have Hre2 := Lib.hid hre2
        have hl2len := hlv2.len
        have hsl2 := ho2.len
        rw [hro2] at hsl2
        have hll2' : live2.length ≤ 40 := by omega
        have hx2 : (s2.slots.length : Int) - (s2.freed.length : Int) = (live2.length : Int) := by omega
        obtain ⟨lf2, hlf2⟩ : ∃ x, s2.left = x := ⟨_, rfl⟩
        have hsum : (live2.length : Int) + lf2 = (n : Int) := by rw [← hlf2]; unfold St.left; rw [hro2]; omega
        have hw2 : IntKind.i64.wrap ((live2.length : Int) + lf2) = (n : Int) := by rw [hsum]; exact IntWalk.i64_in _ (by omega)
        have Hx2 := Lib.hid hx2
        have Hlf2 := Lib.hid hlf2
        have Hw2 := Lib.hid hw2
        have hst2 := countsR_stable (w.heap.size + 1) s2 (.slice al2 live2.length cl2) live2 (.slice ad2 dead2.length cd2) dead2
        obtain ⟨t0, t1⟩ := cells2 (hH2.box (k := w.heap.size) (o := .cells #[.int .i64 n, .int .i64 r] 22) (by simp))
        have z1 := World.block_lt_of_cell? _ _ t0
        dsimp only at z1
        clear hH2 ho2 hlv2 hdd2 hu2 hro2 hre2 hl2len hsl2 hx2 hlf2 hsum hw2 HL HA HH Ho Hu Hlv Hdd Hro Hre Hlf Hlfe o0 o1 o2 o3 o4 o5 o6 z0
        go_upto_region 38 with fail
        go_cut [224] from 202 to 224 (fun c wx => c = .bool false ∧ Holds w.heap.size w (countsR (w.heap.size + 1) s2 (.slice al2 live2.length cl2) live2 (.slice ad2 dead2.length cd2) dead2) wx [(w.heap.size, .cells #[.int .i64 n, .int .i64 r] 22)])
        case first => as_aux_lemma =>
          have hw2 := Hw2.out
          have hQ2 := sepR_stable (rowR_stable 38 2 (.slice al2 live2.length cl2) live2.length (handleCells live2)) (rowR_stable 38 2 (.slice ad2 dead2.length cd2) dead2.length (handleCells dead2))
          have X2d := Lib.hid (X2.out.drew hst2)
          go_region_held3 (fun w' => w'.cell? ⟨w.heap.size, 0, none⟩ = some (.int .i64 (n : Int)))
            (first | go_keep | exact (cells2 ((H5.out.alloc hst2 _).box (k := w.heap.size) (o := .cells #[.int .i64 n, .int .i64 r] 22) (by simp))).1)
            ((first
              | (go_at_call 23; refine (live_four_at hQ2 (H5.out.alloc hst2 _) Ho2.out Hx2.out _ (obj_new _ _)).mono ?_; rintro e w6 ⟨rfl, h6⟩; have c6 := (cells2 (h6.box (k := w.heap.size) (o := .cells #[.int .i64 n, .int .i64 r] 22) (by simp))).1; have H6 := Lib.hid h6; clear h6)
              | (go_at_call 23; refine (live_at hQ2 H4.out Ho2.out Hx2.out).mono ?_; rintro e w5 ⟨rfl, h5⟩; have c5 := (cells2 (h5.box (k := w.heap.size) (o := .cells #[.int .i64 n, .int .i64 r] 22) (by simp))).1; have H5 := Lib.hid h5; clear h5)
              | (go_at_call 20; refine (left_at hQ2 H3.out Ho2.out Hlf2.out).mono ?_; rintro e w4 ⟨rfl, h4⟩; have c4 := (cells2 (h4.box (k := w.heap.size) (o := .cells #[.int .i64 n, .int .i64 r] 22) (by simp))).1; have H4 := Lib.hid h4; clear h4)
              | (go_at_call 23; refine (live_at hQ2 (by first | exact X2d.out | exact X2.out) Ho2.out Hx2.out).mono ?_; rintro e w3 ⟨rfl, h3⟩; have c3 := (cells2 (h3.box (k := w.heap.size) (o := .cells #[.int .i64 n, .int .i64 r] 22) (by simp))).1; have H3 := Lib.hid h3; clear h3)))
          all_goals
            go_wp2
            go_meet
            exact ⟨rfl, H6.out.sub (by simp)⟩
        case rest => as_aux_lemma =>
          obtain ⟨rfl, hX⟩ := hcut
          have HX := Lib.hid hX
          clear hX X2 t0 t1 z1
          go_wp2_with fail
          go_loopw [20] (fun iv wy => DeadRel w.heap.size w (countsR (w.heap.size + 1) s2 (.slice al2 live2.length cl2) live2 (.slice ad2 dead2.length cd2) dead2) [(w.heap.size, .cells #[.int .i64 n, .int .i64 r] 22)] dead2.length iv wy) (fun iv _ => dead2.length - (intOf iv).toNat)
          case atStart => exact ⟨0, Nat.zero_le _, rfl, HX.out⟩
          case round =>
            obtain ⟨j, hjm, rfl, hY⟩ := hrel
            have HY := Lib.hid hY
            by_cases hjl : j < dead2.length
            · obtain ⟨gd, rfl, hgl, x, t, hx, r0, r1⟩ := row_handle (sepR_rot hY).row hjl
              have Hdk := Lib.hid (dead_look (Hdd2.out _ (List.mem_of_getElem? hx)))
              have Hx := Lib.hid hx
              clear hY hx
              go_wp2_with fail
              refine (get_stale (sepR_stable (rowR_stable _ _ _ _ _) (rowR_stable _ _ _ _ _)) HY.out Ho2.out x t Hdk.out).mono ?_
              rintro e w3 ⟨rfl, h3⟩
              clear hgl r0 r1
              obtain ⟨hgl, r0, r1⟩ := row_cells (sepR_rot h3).row Hx.out
              have H3 := Lib.hid h3
              clear h3
              go_wp2_with fail
              refine (free_stale (sepR_stable (rowR_stable _ _ _ _ _) (rowR_stable _ _ _ _ _)) H3.out Ho2.out x t Hdk.out).mono ?_
              rintro e w4 ⟨rfl, h4⟩
              clear hgl r0 r1
              obtain ⟨hgl, r0, r1⟩ := row_cells (sepR_rot h4).row Hx.out
              have H4 := Lib.hid h4
              clear h4
              go_wp2_with fail
              refine (set_stale (sepR_stable (rowR_stable _ _ _ _ _) (rowR_stable _ _ _ _ _)) H4.out Ho2.out x t 1 Hdk.out).mono ?_
              rintro e w5 ⟨rfl, h5⟩
              have H5 := Lib.hid h5
              clear h5
              go_wp2_with fail
              go_roundw
              case rel => exact ⟨j + 1, by omega, by go_num, H5.out⟩
              case measure => simp [intOf]; omega
            · clear hY
              go_wp2_with fail
              go_roundw
              case rel => exact ⟨k + 1, by omega, by go_num, s2, live2, dead2, al2, cl2, ad2, cd2, rfl, rfl, Ho2.out, Hro2.out, Hre2.out, Hu2.out, Hlv2.out, Hdd2.out, hll2, hdl2, HY.out⟩
              case measure => simp [intOf]; omega
    · as_aux_lemma =>
      obtain rfl : k = m := by omega
      go_wp2_with fail
      go_loopw [25] (fun iv wy => DeadRel w.heap.size w (countsR (w.heap.size + 1) s (.slice al live.length cl) live (.slice ad dead.length cd) dead) [(w.heap.size, .cells #[.int .i64 n, .int .i64 r] 22)] live.length iv wy) (fun iv _ => live.length - (intOf iv).toNat)
      case atStart => exact ⟨0, Nat.zero_le _, rfl, HH.out⟩
      case round =>
        obtain ⟨j, hjm, rfl, hY⟩ := hrel
        have HY := Lib.hid hY
        by_cases hjl : j < live.length
        · obtain ⟨gl, rfl, hgl, x, t, hx, r0, r1⟩ := row_handle (sepR_assoc hY).row hjl
          obtain ⟨i, c', v', hlk⟩ := Hlv.out.look _ (List.mem_of_getElem? hx)
          dsimp only at hlk
          have Hlk := Lib.hid hlk
          clear hY hx hlk
          go_wp2_with fail
          refine (get_goes (sepR_stable (rowR_stable _ _ _ _ _) (rowR_stable _ _ _ _ _)) HY.out Ho.out x t Hlk.out).mono ?_
          rintro e w3 ⟨rfl, h3⟩
          have H3 := Lib.hid h3
          clear h3 hgl r0 r1
          go_wp2_with fail
          go_roundw
          case rel => exact ⟨j + 1, by omega, by go_num, H3.out⟩
          case measure => simp [intOf]; omega
        · clear hY
          go_wp2_with fail
          refine (awake_any _).mono ?_
          rintro e w4 ⟨rfl, h4⟩
          have H6 := Lib.hid (HY.out.below.trans (h4.mono HY.out.le))
          clear h4
          go_wp2_with fail
          go_ret
          exact ⟨rfl, H6.out⟩
end Go.Proofs.Ytdnjmpmgghpeoaa
