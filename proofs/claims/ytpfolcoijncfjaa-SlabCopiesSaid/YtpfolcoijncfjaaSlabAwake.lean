/- The chapter's example, walked. -/
import Derived.Test.YtpfolcoijncfjaaSlabC
namespace Go.Proofs.Ytpfolcoijncfjaa
open Go.RowKit

set_option maxHeartbeats 2000000 in
set_option maxRecDepth 100000 in
theorem awake_any (w : World) : Calls Try.prog 10 #[] w fun e w' => e = .returned (.bool true) ∧ Below w.heap.size w w' := by
  have e2 : St.takes ⟨3, 1, [], []⟩ 1 false 5 = (.tuple #[.agg #[.int .i64 0, .int .i64 1], .int .i64 0], ⟨3, 1, [(1, 1, 5)], []⟩) := rfl
  have o1 := new_Ok (n := 3) (r := 1) (by decide) (by decide)
  have o2 := takes_Ok o1 e2
  have e3 : St.takes ⟨3, 1, [(1, 1, 5)], []⟩ 3 false 6 = (.tuple #[.agg #[.int .i64 1, .int .i64 1], .int .i64 0], ⟨3, 1, [(1, 1, 5), (3, 1, 6)], []⟩) := rfl
  have o3 := takes_Ok o2 e3
  have e4 : St.takes ⟨3, 1, [(1, 1, 5), (3, 1, 6)], []⟩ 1 false 7 = (.tuple #[.agg #[.int .i64 0, .int .i64 0], .int .i64 11], ⟨3, 1, [(1, 1, 5), (3, 1, 6)], []⟩) := rfl
  have e5 : St.takes ⟨3, 1, [(1, 1, 5), (3, 1, 6)], []⟩ 4 true 7 = (.tuple #[.agg #[.int .i64 2, .int .i64 1], .int .i64 0], ⟨3, 1, [(1, 1, 5), (3, 1, 6), (4, 1, 7)], []⟩) := rfl
  have o5 := takes_Ok o3 e5
  have l6 : St.look ⟨3, 1, [(1, 1, 5), (3, 1, 6), (4, 1, 7)], []⟩ 0 1 = some (0, 1, 5) := rfl
  have o6 := free_Ok o5 (i := 0) (t := 1) (by decide) (by decide) (by decide)
  have e7 : St.takes (St.free ⟨3, 1, [(1, 1, 5), (3, 1, 6), (4, 1, 7)], []⟩ 0 1) 1 true 8 = (.tuple #[.agg #[.int .i64 0, .int .i64 2], .int .i64 0], ⟨3, 1, [(1, 2, 8), (3, 1, 6), (4, 1, 7)], []⟩) := rfl
  have o7 := takes_Ok o6 e7
  have l8 : St.look ⟨3, 1, [(1, 2, 8), (3, 1, 6), (4, 1, 7)], []⟩ 0 1 = none := rfl
  have E2 := Lib.hid e2
  have E3 := Lib.hid e3
  have E4 := Lib.hid e4
  have E5 := Lib.hid e5
  have L6 := Lib.hid l6
  have E7 := Lib.hid e7
  have L8 := Lib.hid l8
  have O1 := Lib.hid o1
  have O2 := Lib.hid o2
  have O3 := Lib.hid o3
  have O5 := Lib.hid o5
  have O6 := Lib.hid o6
  have O7 := Lib.hid o7
  clear e2 e3 e4 e5 l6 e7 l8 o1 o2 o3 o5 o6 o7
  go_enter Try.func10, Try.ntmps10
  go_wp2_with fail
  refine (new_goes noneR_stable (Holds.start w) 3 1 (by decide) (by decide) (by decide)).mono ?_
  rintro e w1 ⟨rfl, h1⟩
  have H1 := Lib.hid h1
  clear h1
  go_wp2_with fail
  refine (take_goes noneR_stable H1.out O1.out 1 5 false _ _ (by decide) E2.out).mono ?_
  rintro e w2 ⟨rfl, h2⟩
  have H2 := Lib.hid h2
  clear h2
  go_wp2_with fail
  refine (take_goes noneR_stable (H2.out.alloc (sepR_stable (slabR_stable _ _) noneR_stable) _) O2.out 3 6 false _ _ (by decide) E3.out).mono ?_
  rintro e w3 ⟨rfl, h3⟩
  have H3 := Lib.hid h3
  clear h3
  go_wp2_with fail
  refine (take_goes noneR_stable (H3.out.alloc (sepR_stable (slabR_stable _ _) noneR_stable) _) O3.out 1 7 false _ _ (by decide) E4.out).mono ?_
  rintro e w4 ⟨rfl, h4⟩
  have H4 := Lib.hid h4
  clear h4
  go_wp2_with fail
  refine (take_goes noneR_stable (H4.out.alloc (sepR_stable (slabR_stable _ _) noneR_stable) _) O3.out 4 7 true _ _ (by decide) E5.out).mono ?_
  rintro e w5 ⟨rfl, h5⟩
  have H5 := Lib.hid h5
  clear h5
  obtain ⟨c60, c61⟩ := cells2 ((H5.out.alloc (sepR_stable (slabR_stable _ _) noneR_stable) (.cells #[.int .i64 2, .int .i64 1] 38)).box (k := w2.heap.size) (o := .cells #[.int .i64 0, .int .i64 1] 38) (by simp))
  have z6 := World.block_lt_of_cell? _ _ c60
  dsimp only at z6
  go_wp2_with fail
  refine (free_goes noneR_stable (H5.out.alloc (sepR_stable (slabR_stable _ _) noneR_stable) _) O5.out 0 1 L6.out).mono ?_
  rintro e w6 ⟨rfl, h6⟩
  have H6 := Lib.hid h6
  clear h6 c60 c61 z6
  go_wp2_with fail
  refine (take_goes noneR_stable H6.out O6.out 1 8 true _ _ (by decide) E7.out).mono ?_
  rintro e w7 ⟨rfl, h7⟩
  have H7 := Lib.hid h7
  clear h7
  obtain ⟨c60, c61⟩ := cells2 ((H7.out.alloc (sepR_stable (slabR_stable _ _) noneR_stable) (.cells #[.int .i64 0, .int .i64 2] 38)).box (k := w2.heap.size) (o := .cells #[.int .i64 0, .int .i64 1] 38) (by simp))
  have z6 := World.block_lt_of_cell? _ _ c60
  dsimp only at z6
  go_wp2_with fail
  refine (get_stale noneR_stable (H7.out.alloc (sepR_stable (slabR_stable _ _) noneR_stable) _) O7.out 0 1 L8.out).mono ?_
  rintro e w8 ⟨rfl, h8⟩
  clear c60 c61 z6
  obtain ⟨c20, c21⟩ := cells2 (h8.box (k := w2.heap.size) (o := .cells #[.int .i64 0, .int .i64 1] 38) (by simp))
  obtain ⟨c30, c31⟩ := cells2 (h8.box (k := w3.heap.size) (o := .cells #[.int .i64 1, .int .i64 1] 38) (by simp))
  obtain ⟨c50, c51⟩ := cells2 (h8.box (k := w5.heap.size) (o := .cells #[.int .i64 2, .int .i64 1] 38) (by simp))
  obtain ⟨c70, c71⟩ := cells2 (h8.box (k := w7.heap.size) (o := .cells #[.int .i64 0, .int .i64 2] 38) (by simp))
  have z2 := World.block_lt_of_cell? _ _ c20
  have z3 := World.block_lt_of_cell? _ _ c30
  have z5 := World.block_lt_of_cell? _ _ c50
  have z7 := World.block_lt_of_cell? _ _ c70
  dsimp only at z2 z3 z5 z7
  have H8 := Lib.hid h8
  clear h8
  go_wp2_with fail
  refine (live_goes noneR_stable H8.out O7.out).mono ?_
  rintro e w9 ⟨rfl, h9⟩
  have H9 := Lib.hid h9
  clear h9
  go_wp2
  go_ret
  exact ⟨rfl, H9.out.below⟩
end Go.Proofs.Ytpfolcoijncfjaa
