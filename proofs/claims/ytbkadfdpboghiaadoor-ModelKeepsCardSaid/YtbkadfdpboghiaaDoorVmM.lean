/- Package code, as package vm calls it: May. -/
import Derived.Test.YtbkadfdpboghiaaDoorVmT
namespace Go.Proofs.YtbkadfdpboghiaaDoor
open Go.RowKit Go.Maps

theorem cells5 {w : World} {b : Nat} {x0 x1 x2 x3 x4 : Value} {t : TypeId} {f : Nat × Nat} (h : w.heap[b]? = some (.cells #[x0, x1, x2, x3, x4] t f)) :
    w.cell? ⟨b, 0, none⟩ = some x0 ∧ w.cell? ⟨b, 1, none⟩ = some x1 ∧ w.cell? ⟨b, 2, none⟩ = some x2 ∧ w.cell? ⟨b, 3, none⟩ = some x3 ∧ w.cell? ⟨b, 4, none⟩ = some x4 := by
  refine ⟨?_, ?_, ?_, ?_, ?_⟩ <;> (rw [cell_of_obj h]; rfl)
def intOf : Value → Int
  | .int _ n => n
  | _ => 0

/-- May an instruction's i-th number be what it is? -/
def okN (x : Ins) (many : Int) (i : Nat) : Bool := fitsB (sortK (opK x.op) i) (x.num i) many
def isOp (op : Int) : Prop := 1 ≤ op ∧ op ≤ 15
instance (op : Int) : Decidable (isOp op) := by unfold isOp; infer_instance
def mayE (x : Ins) (many : Int) : Int := if isOp x.op then if okN x many 0 = true ∧ okN x many 1 = true ∧ okN x many 2 = true ∧ okN x many 3 = true then 0 else 10 else 15
theorem mayE_none {x : Ins} {many : Int} (h : ¬ isOp x.op) : mayE x many = 15 := if_neg h
theorem mayE_bad {x : Ins} {many : Int} (h : isOp x.op) {k : Nat} (hk : k < 4) (hb : okN x many k = false) : mayE x many = 10 := by
  unfold mayE
  rw [if_pos h, if_neg]
  rintro ⟨h0, h1, h2, h3⟩
  have : k = 0 ∨ k = 1 ∨ k = 2 ∨ k = 3 := by omega
  rcases this with rfl | rfl | rfl | rfl <;> simp_all
theorem mayE_ok {x : Ins} {many : Int} (h : isOp x.op) (hb : ∀ k, k < 4 → okN x many k = true) : mayE x many = 0 := by
  unfold mayE
  rw [if_pos h, if_pos ⟨hb 0 (by omega), hb 1 (by omega), hb 2 (by omega), hb 3 (by omega)⟩]
theorem tell_op (op : Int) (h : isOp op) {w : World} (hO : Ops w) : Calls Tryd.prog 53 #[.int .i64 op] w (Tells (.tuple #[toldV (opK op), .bool true]) w) := by
  have := tell_any op hO
  rwa [decide_eq_true (p := 1 ≤ op ∧ op ≤ 15) h] at this
theorem tell_no (op : Int) (h : ¬ isOp op) {w : World} (hO : Ops w) : Calls Tryd.prog 53 #[.int .i64 op] w (Tells (.tuple #[toldV (opK op), .bool false]) w) := by
  have := tell_any op hO
  rwa [decide_eq_false (p := 1 ≤ op ∧ op ≤ 15) h] at this

set_option maxRecDepth 100000 in
theorem idx_num (x : Ins) (k : Nat) (hk : k < 4) : ∀ w, (Instr.index 46 (.agg #[.int .i64 x.a, .int .i64 x.b, .int .i64 x.c, .int .i64 x.d]) (.int .i64 (k : Int))).run Tryd.prog w = .ok (.int .i64 (x.num k)) w := by
  obtain rfl | rfl | rfl | rfl : k = 0 ∨ k = 1 ∨ k = 2 ∨ k = 3 := by omega
  · exact fun w => by kernel_rfl
  · exact fun w => by kernel_rfl
  · exact fun w => by kernel_rfl
  · exact fun w => by kernel_rfl

set_option maxHeartbeats 1000000 in
theorem may_any (x : Ins) (many : Int) {w : World} (hO : Ops w) : Calls Tryd.prog 51 #[x.val, .int .i64 many] w (Tells (.int .i64 (mayE x many)) w) := by
  have HO := Lib.hid hO
  clear hO
  have H0 := Lib.hid ((Holds.start w).alloc noneR_stable (.cells #[.int .i64 x.op, .int .i64 x.a, .int .i64 x.b, .int .i64 x.c, .int .i64 x.d] 58))
  by_cases h : isOp x.op
  · have h' := h
    have Hop := Lib.hid h'
    clear h'
    go_enter Tryd.func51, Tryd.ntmps51
    go_wp2_with fail
    refine (tell_op x.op Hop.out (HO.out.frm ((Frm.refl _ _).alloc _))).mono ?_
    rintro e w1 ⟨rfl, hF⟩
    have H1 := Lib.hid ((H0.out.made noneR_stable hF).alloc noneR_stable (.cells #[.string (tx (wordK (opK x.op))), .int .i64 (manyK (opK x.op) : Nat), .int .i64 (lastK (opK x.op) : Nat)] 104))
    clear hF
    obtain ⟨p0, p1, p2, p3, p4⟩ := cells5 (H1.out.box (k := w.heap.size) (o := .cells #[.int .i64 x.op, .int .i64 x.a, .int .i64 x.b, .int .i64 x.c, .int .i64 x.d] 58) (by simp))
    have z0 := World.block_lt_of_cell? _ _ p0
    dsimp only at z0
    go_wp2_with fail
    refine (list_any x _).mono ?_
    rintro e w2 ⟨rfl, hF⟩
    have H2 := Lib.hid (H1.out.made noneR_stable hF)
    clear hF p0 p1 p2 p3 p4 z0
    go_wp2_with fail
    go_loopw [19] (fun iv wr => ∃ k : Nat, k ≤ 4 ∧ iv = .int .i64 (k : Int) ∧ (∀ j, j < k → okN x many j = true) ∧ Holds w.heap.size w noneR wr [(w1.heap.size, .cells #[.string (tx (wordK (opK x.op))), .int .i64 (manyK (opK x.op) : Nat), .int .i64 (lastK (opK x.op) : Nat)] 104)]) (fun iv _ => 4 - (intOf iv).toNat)
    case atStart => exact ⟨0, by omega, rfl, by simp, H2.out.sub (by simp)⟩
    case round =>
      obtain ⟨k, hk, rfl, hok, hh⟩ := hrel
      have H3 := Lib.hid hh
      have Hk := Lib.hid hok
      clear hh hok
      by_cases hlt : k < 4
      · have hidx := idx_num x k hlt
        obtain ⟨p0, p1, p2⟩ := cells3 (H3.out.box (k := w1.heap.size) (o := .cells #[.string (tx (wordK (opK x.op))), .int .i64 (manyK (opK x.op) : Nat), .int .i64 (lastK (opK x.op) : Nat)] 104) (by simp))
        go_wp2_with fail
        refine (toldsort_any (opK x.op) k (opK_lt _) hlt _).mono ?_
        rintro e w3 ⟨rfl, hF⟩
        have H4 := Lib.hid (H3.out.made noneR_stable hF)
        clear hF p0 p1 p2 hidx
        go_wp2_with fail
        refine (fits_any _ (sortK_le (opK_lt _) k) _ _ _).mono ?_
        rintro e w4 ⟨rfl, rfl⟩
        by_cases hf : okN x many k = true
        · have hf' : fitsB (sortK (opK x.op) k) (x.num k) many = true := hf
          go_wp2_with fail
          go_roundw
          case rel => exact ⟨k + 1, by omega, by go_num, fun j hj => by rcases Nat.lt_succ_iff_lt_or_eq.1 hj with h1 | rfl; exact Hk.out j h1; exact hf, H4.out⟩
          case measure => simp [intOf]; omega
        · have hf' : fitsB (sortK (opK x.op) k) (x.num k) many = false := by simpa [okN] using hf
          go_wp2_with fail
          go_ret
          rw [mayE_bad Hop.out hlt hf']
          exact ⟨rfl, Frm.of_below H4.out.below (Nat.le_refl _)⟩
      · obtain rfl : k = 4 := by omega
        go_wp2_with fail
        go_ret
        rw [mayE_ok Hop.out Hk.out]
        exact ⟨rfl, Frm.of_below H3.out.below (Nat.le_refl _)⟩
  · have Hop := Lib.hid h
    clear h
    rw [mayE_none Hop.out]
    go_enter Tryd.func51, Tryd.ntmps51
    go_wp2_with fail
    refine (tell_no x.op Hop.out (HO.out.frm ((Frm.refl _ _).alloc _))).mono ?_
    rintro e w1 ⟨rfl, hF⟩
    have H1 := Lib.hid ((H0.out.made noneR_stable hF).alloc noneR_stable (.cells #[.string (tx (wordK (opK x.op))), .int .i64 (manyK (opK x.op) : Nat), .int .i64 (lastK (opK x.op) : Nat)] 104))
    clear hF
    go_wp2_with fail
    go_ret
    exact ⟨rfl, Frm.of_below H1.out.below (Nat.le_refl _)⟩

abbrev Ins.at_ (w : World) (a : Option Addr) (n c : Nat) (l : List Ins) : Prop := SlAt Ins.enc 5 w a n c l
theorem insAt {w : World} {a : Option Addr} {n c : Nat} {l : List Ins} (h : Ins.at_ w a n c l) {i : Nat} (hi : i < n) : ∃ b off x, a = some ⟨b, off, none⟩ ∧ b < w.heap.size ∧ l[i]? = some x ∧
    w.cell? ⟨b, off + i * 5, none⟩ = some (.int .i64 x.op) ∧ w.cell? ⟨b, off + i * 5 + 1, none⟩ = some (.int .i64 x.a) ∧ w.cell? ⟨b, off + i * 5 + 2, none⟩ = some (.int .i64 x.b) ∧ w.cell? ⟨b, off + i * 5 + 3, none⟩ = some (.int .i64 x.c) ∧ w.cell? ⟨b, off + i * 5 + 4, none⟩ = some (.int .i64 x.d) := by
  obtain ⟨b, off, x, h1, h2, h3, h4⟩ := h.at_ hi
  exact ⟨b, off, x, h1, h2, h3, h4 0 _ rfl, h4 1 _ rfl, h4 2 _ rfl, h4 3 _ rfl, h4 4 _ rfl⟩

end Go.Proofs.YtbkadfdpboghiaaDoor
