/- Package code: May, Check, Sends. -/
import Derived.Test.YtodjiicneijkkaaDoorCodeT
namespace Go.Proofs.YtodjiicneijkkaaDoor
open Go.RowKit Go.Maps

theorem cells5 {w : World} {b : Nat} {x0 x1 x2 x3 x4 : Value} {t : TypeId} {f : Nat × Nat} (h : w.heap[b]? = some (.cells #[x0, x1, x2, x3, x4] t f)) :
    w.cell? ⟨b, 0, none⟩ = some x0 ∧ w.cell? ⟨b, 1, none⟩ = some x1 ∧ w.cell? ⟨b, 2, none⟩ = some x2 ∧ w.cell? ⟨b, 3, none⟩ = some x3 ∧ w.cell? ⟨b, 4, none⟩ = some x4 := by
  refine ⟨?_, ?_, ?_, ?_, ?_⟩ <;> (rw [cell_of_obj h]; rfl)
def intOf : Value → Int
  | .int _ n => n
  | _ => 0

/-- May an instruction's i-th number be what it is? -/
def okN (x : Ins) (many : Int) (i : Nat) : Bool := fitsB (sortK (opK x.op) i) (x.num i) many
def isOp (op : Int) : Prop := 1 ≤ op ∧ op ≤ 15
instance (op : Int) : Decidable (isOp op) := by unfold isOp; infer_instance
def mayE (x : Ins) (many : Int) : Int := if isOp x.op then if okN x many 0 = true ∧ okN x many 1 = true ∧ okN x many 2 = true ∧ okN x many 3 = true then 0 else 10 else 15
theorem mayE_none {x : Ins} {many : Int} (h : ¬ isOp x.op) : mayE x many = 15 := if_neg h
theorem mayE_bad {x : Ins} {many : Int} (h : isOp x.op) {k : Nat} (hk : k < 4) (hb : okN x many k = false) : mayE x many = 10 := by
  unfold mayE
  rw [if_pos h, if_neg]
  rintro ⟨h0, h1, h2, h3⟩
  have : k = 0 ∨ k = 1 ∨ k = 2 ∨ k = 3 := by omega
  rcases this with rfl | rfl | rfl | rfl <;> simp_all
theorem mayE_ok {x : Ins} {many : Int} (h : isOp x.op) (hb : ∀ k, k < 4 → okN x many k = true) : mayE x many = 0 := by
  unfold mayE
  rw [if_pos h, if_pos ⟨hb 0 (by omega), hb 1 (by omega), hb 2 (by omega), hb 3 (by omega)⟩]
theorem tell_op (op : Int) (h : isOp op) {w : World} (hO : Ops w) : Calls Tryd.prog 21 #[.int .i64 op] w (Tells (.tuple #[toldV (opK op), .bool true]) w) := by
  have := tell_any op hO
  rwa [decide_eq_true (p := 1 ≤ op ∧ op ≤ 15) h] at this
theorem tell_no (op : Int) (h : ¬ isOp op) {w : World} (hO : Ops w) : Calls Tryd.prog 21 #[.int .i64 op] w (Tells (.tuple #[toldV (opK op), .bool false]) w) := by
  have := tell_any op hO
  rwa [decide_eq_false (p := 1 ≤ op ∧ op ≤ 15) h] at this

set_option maxRecDepth 100000 in
theorem idx_num (x : Ins) (k : Nat) (hk : k < 4) : ∀ w, (Instr.index 55 (.agg #[.int .i64 x.a, .int .i64 x.b, .int .i64 x.c, .int .i64 x.d]) (.int .i64 (k : Int))).run Tryd.prog w = .ok (.int .i64 (x.num k)) w := by
  obtain rfl | rfl | rfl | rfl : k = 0 ∨ k = 1 ∨ k = 2 ∨ k = 3 := by omega
  · exact fun w => by kernel_rfl
  · exact fun w => by kernel_rfl
  · exact fun w => by kernel_rfl
  · exact fun w => by kernel_rfl

set_option maxHeartbeats 1000000 in
theorem may_any (x : Ins) (many : Int) {w : World} (hO : Ops w) : Calls Tryd.prog 12 #[x.val, .int .i64 many] w (Tells (.int .i64 (mayE x many)) w) := by
  have HO := Lib.hid hO
  clear hO
  have H0 := Lib.hid ((Holds.start w).alloc noneR_stable (.cells #[.int .i64 x.op, .int .i64 x.a, .int .i64 x.b, .int .i64 x.c, .int .i64 x.d] 23))
  by_cases h : isOp x.op
  · have h' := h
    have Hop := Lib.hid h'
    clear h'
    go_enter Tryd.func12, Tryd.ntmps12
    go_wp2_with fail
    refine (tell_op x.op Hop.out (HO.out.frm ((Frm.refl _ _).alloc _))).mono ?_
    rintro e w1 ⟨rfl, hF⟩
    have H1 := Lib.hid ((H0.out.made noneR_stable hF).alloc noneR_stable (.cells #[.string (tx (wordK (opK x.op))), .int .i64 (manyK (opK x.op) : Nat), .int .i64 (lastK (opK x.op) : Nat)] 51))
    clear hF
    obtain ⟨p0, p1, p2, p3, p4⟩ := cells5 (H1.out.box (k := w.heap.size) (o := .cells #[.int .i64 x.op, .int .i64 x.a, .int .i64 x.b, .int .i64 x.c, .int .i64 x.d] 23) (by simp))
    have z0 := World.block_lt_of_cell? _ _ p0
    dsimp only at z0
    go_wp2_with fail
    refine (list_any x _).mono ?_
    rintro e w2 ⟨rfl, hF⟩
    have H2 := Lib.hid (H1.out.made noneR_stable hF)
    clear hF p0 p1 p2 p3 p4 z0
    go_wp2_with fail
    go_loopw [19] (fun iv wr => ∃ k : Nat, k ≤ 4 ∧ iv = .int .i64 (k : Int) ∧ (∀ j, j < k → okN x many j = true) ∧ Holds w.heap.size w noneR wr [(w1.heap.size, .cells #[.string (tx (wordK (opK x.op))), .int .i64 (manyK (opK x.op) : Nat), .int .i64 (lastK (opK x.op) : Nat)] 51)]) (fun iv _ => 4 - (intOf iv).toNat)
    case atStart => exact ⟨0, by omega, rfl, by simp, H2.out.sub (by simp)⟩
    case round =>
      obtain ⟨k, hk, rfl, hok, hh⟩ := hrel
      have H3 := Lib.hid hh
      have Hk := Lib.hid hok
      clear hh hok
      by_cases hlt : k < 4
      · have hidx := idx_num x k hlt
        obtain ⟨p0, p1, p2⟩ := cells3 (H3.out.box (k := w1.heap.size) (o := .cells #[.string (tx (wordK (opK x.op))), .int .i64 (manyK (opK x.op) : Nat), .int .i64 (lastK (opK x.op) : Nat)] 51) (by simp))
        go_wp2_with fail
        refine (sort_any (opK x.op) k (opK_lt _) hlt _).mono ?_
        rintro e w3 ⟨rfl, hF⟩
        have H4 := Lib.hid (H3.out.made noneR_stable hF)
        clear hF p0 p1 p2 hidx
        go_wp2_with fail
        refine (fits_any _ (sortK_le (opK_lt _) k) _ _ _).mono ?_
        rintro e w4 ⟨rfl, rfl⟩
        by_cases hf : okN x many k = true
        · have hf' : fitsB (sortK (opK x.op) k) (x.num k) many = true := hf
          go_wp2_with fail
          go_roundw
          case rel => exact ⟨k + 1, by omega, by go_num, fun j hj => by rcases Nat.lt_succ_iff_lt_or_eq.1 hj with h1 | rfl; exact Hk.out j h1; exact hf, H4.out⟩
          case measure => simp [intOf]; omega
        · have hf' : fitsB (sortK (opK x.op) k) (x.num k) many = false := by simpa [okN] using hf
          go_wp2_with fail
          go_ret
          rw [mayE_bad Hop.out hlt hf']
          exact ⟨rfl, Frm.of_below H4.out.below (Nat.le_refl _)⟩
      · obtain rfl : k = 4 := by omega
        go_wp2_with fail
        go_ret
        rw [mayE_ok Hop.out Hk.out]
        exact ⟨rfl, Frm.of_below H3.out.below (Nat.le_refl _)⟩
  · have Hop := Lib.hid h
    clear h
    rw [mayE_none Hop.out]
    go_enter Tryd.func12, Tryd.ntmps12
    go_wp2_with fail
    refine (tell_no x.op Hop.out (HO.out.frm ((Frm.refl _ _).alloc _))).mono ?_
    rintro e w1 ⟨rfl, hF⟩
    have H1 := Lib.hid ((H0.out.made noneR_stable hF).alloc noneR_stable (.cells #[.string (tx (wordK (opK x.op))), .int .i64 (manyK (opK x.op) : Nat), .int .i64 (lastK (opK x.op) : Nat)] 51))
    clear hF
    go_wp2_with fail
    go_ret
    exact ⟨rfl, Frm.of_below H1.out.below (Nat.le_refl _)⟩

/-- The first instruction that may not be, from the k-th on (k: how many were before). -/
def firstBad (many : Int) : Nat → List Ins → Int × Int
  | _, [] => (0, 0)
  | k, x :: l => if mayE x many = 0 then firstBad many (k + 1) l else ((k : Int) + 1, mayE x many)
def checkP (p : List Ins) : Int × Int := if 64 < p.length then (0, 11) else firstBad p.length 0 p
theorem firstBad_step {many : Int} {l : List Ins} {k j : Nat} {x : Ins} (hx : l[j]? = some x) (h0 : mayE x many = 0) : firstBad many (k + j) (l.drop j) = firstBad many (k + (j + 1)) (l.drop (j + 1)) := by
  rw [List.drop_eq_getElem_cons (List.getElem?_eq_some_iff.1 hx).1, (List.getElem?_eq_some_iff.1 hx).2, firstBad, if_pos h0]; rfl
theorem firstBad_hit {many : Int} {l : List Ins} {k j : Nat} {x : Ins} (hx : l[j]? = some x) (h0 : mayE x many ≠ 0) : firstBad many (k + j) (l.drop j) = (((k + j : Nat) : Int) + 1, mayE x many) := by
  rw [List.drop_eq_getElem_cons (List.getElem?_eq_some_iff.1 hx).1, (List.getElem?_eq_some_iff.1 hx).2, firstBad, if_neg h0]
abbrev Ins.at_ (w : World) (a : Option Addr) (n c : Nat) (l : List Ins) : Prop := SlAt Ins.enc 5 w a n c l
theorem insAt {w : World} {a : Option Addr} {n c : Nat} {l : List Ins} (h : Ins.at_ w a n c l) {i : Nat} (hi : i < n) : ∃ b off x, a = some ⟨b, off, none⟩ ∧ b < w.heap.size ∧ l[i]? = some x ∧
    w.cell? ⟨b, off + i * 5, none⟩ = some (.int .i64 x.op) ∧ w.cell? ⟨b, off + i * 5 + 1, none⟩ = some (.int .i64 x.a) ∧ w.cell? ⟨b, off + i * 5 + 2, none⟩ = some (.int .i64 x.b) ∧ w.cell? ⟨b, off + i * 5 + 3, none⟩ = some (.int .i64 x.c) ∧ w.cell? ⟨b, off + i * 5 + 4, none⟩ = some (.int .i64 x.d) := by
  obtain ⟨b, off, x, h1, h2, h3, h4⟩ := h.at_ hi
  exact ⟨b, off, x, h1, h2, h3, h4 0 _ rfl, h4 1 _ rfl, h4 2 _ rfl, h4 3 _ rfl, h4 4 _ rfl⟩

set_option maxHeartbeats 1000000 in
theorem check_any {a : Option Addr} {n c : Nat} {l : List Ins} {w : World} (hO : Ops w) (hl : Ins.at_ w a n c l) : Calls Tryd.prog 15 #[.slice a n c] w (Tells (.tuple #[.int .i64 (checkP l).1, .int .i64 (checkP l).2]) w) := by
  have hn : l.length = n := hl.1
  have HO := Lib.hid hO
  have HL := Lib.hid hl
  have hcap := hl.2.2.1
  have hcap' := hl.2.1
  simp only [maxLen] at hcap
  clear hO hl
  by_cases h64 : 64 < n
  · have g1 : decide ((n : Int) > 64) = true := by rw [decide_eq_true_eq]; omega
    have e : checkP l = (0, 11) := if_pos (by omega)
    rw [e]
    clear e hn
    go_enter Tryd.func15, Tryd.ntmps15
    go_wp2_with fail
    go_ret2
    exact ⟨rfl, Frm.refl _ _⟩
  · have g1 : decide ((n : Int) > 64) = false := by rw [decide_eq_false_iff_not]; omega
    have e : checkP l = firstBad n 0 l := by unfold checkP; rw [if_neg (by omega), hn]
    rw [e]
    clear e
    have Hn := Lib.hid hn
    clear hn
    go_enter Tryd.func15, Tryd.ntmps15
    go_wp2_with fail
    go_loopw [12] (fun iv wr => ∃ k : Nat, k ≤ n ∧ iv = .int .i64 (k : Int) ∧ firstBad n 0 l = firstBad n k (l.drop k) ∧ Frm [] w wr) (fun iv _ => n - (intOf iv).toNat)
    case atStart => exact ⟨0, by omega, rfl, by simp, Frm.refl _ _⟩
    case round =>
      obtain ⟨k, hk, rfl, hb, hF⟩ := hrel
      have HF := Lib.hid hF
      have Hb := Lib.hid hb
      clear hF hb
      by_cases hlt : k < n
      · obtain ⟨b, off, x, rfl, hbl, hx, p0, p1, p2, p3, p4⟩ := insAt (SlAt.frm HL.out HF.out) hlt
        have Hx := Lib.hid hx
        clear hx
        have H0 := Lib.hid ((Holds.start wr).alloc noneR_stable (.cells #[.int .i64 x.op, .int .i64 x.a, .int .i64 x.b, .int .i64 x.c, .int .i64 x.d] 23))
        go_wp2_with fail
        refine (may_any x n (HO.out.frm (HF.out.alloc _))).mono ?_
        rintro e w1 ⟨rfl, hF1⟩
        have HF1 := Lib.hid ((HF.out.alloc _).trans (T := []) hF1 (by simp))
        clear hF1 p0 p1 p2 p3 p4
        by_cases hm : mayE x n = 0
        · have hm' : (mayE x n == 0) = true := by rw [beq_iff_eq]; exact hm
          go_wp2_with fail
          go_roundw
          case rel => exact ⟨k + 1, by omega, by go_num, by rw [Hb.out]; have := firstBad_step (k := 0) (many := n) Hx.out hm; simpa using this, HF1.out⟩
          case measure => simp [intOf]; omega
        · have hm' : (mayE x n == 0) = false := by rw [beq_eq_false_iff_ne]; exact hm
          have hw : IntKind.i64.wrap ((k : Int) + 1) = (k : Int) + 1 := IntWalk.i64_in _ (by omega)
          go_wp2_with fail
          go_ret2
          have := firstBad_hit (k := 0) (many := n) Hx.out hm
          rw [Nat.zero_add] at this
          rw [Hb.out, this]
          exact ⟨rfl, HF1.out⟩
      · obtain rfl : k = n := by omega
        have hd : l.drop k = [] := List.drop_eq_nil_of_le (by have := Hn.out; omega)
        have Hd := Lib.hid hd
        clear hd
        go_wp2_with fail
        go_ret2
        rw [Hb.out, Hd.out]
        exact ⟨rfl, HF.out⟩

def sendsP (l : List Ins) : Nat := (l.filter fun x => x.op == 14).length
set_option maxHeartbeats 1000000 in
theorem sends_any {a : Option Addr} {n c : Nat} {l : List Ins} {w : World} (hl : Ins.at_ w a n c l) : Calls Tryd.prog 17 #[.slice a n c] w (Tells (.int .i64 (sendsP l : Nat)) w) := by
  have hn : l.length = n := hl.1
  have HL := Lib.hid hl
  have hcap := hl.2.2.1
  have hcap' := hl.2.1
  simp only [maxLen] at hcap
  have Hn := Lib.hid hn
  clear hl hn
  go_enter Tryd.func17, Tryd.ntmps17
  go_wp2_with fail
  go_loopw [3, 8] (fun sv iv wr => ∃ k : Nat, k ≤ n ∧ iv = .int .i64 (k : Int) ∧ sv = .int .i64 (sendsP (l.take k) : Nat) ∧ Frm [] w wr) (fun _ iv _ => n - (intOf iv).toNat)
  case atStart => exact ⟨0, by omega, rfl, rfl, Frm.refl _ _⟩
  case round =>
    obtain ⟨k, hk, rfl, rfl, hF⟩ := hrel
    have HF := Lib.hid hF
    clear hF
    by_cases hlt : k < n
    · obtain ⟨b, off, x, rfl, hbl, hx, p0, p1, p2, p3, p4⟩ := insAt (SlAt.frm HL.out HF.out) hlt
      have hle : sendsP (l.take k) ≤ k := by unfold sendsP; exact Nat.le_trans (List.length_filter_le _ _) (by rw [List.length_take]; omega)
      have ht : l.take (k + 1) = l.take k ++ [x] := by rw [List.take_add_one, hx]; rfl
      by_cases h14 : x.op = 14
      · have hs : sendsP (l.take (k + 1)) = sendsP (l.take k) + 1 := by rw [ht]; unfold sendsP; rw [List.filter_append, List.length_append]; simp [h14]
        have g : (x.op == 14) = true := by rw [beq_iff_eq]; exact h14
        have Hs := Lib.hid hs
        clear hs ht hx h14
        generalize sendsP (l.take k) = m at *
        have hw : IntKind.i64.wrap ((m : Int) + 1) = (m : Int) + 1 := IntWalk.i64_in _ (by omega)
        go_wp2_with fail
        go_roundw
        case rel => exact ⟨k + 1, by omega, by go_num, by rw [Hs.out]; push_cast; rfl, HF.out.alloc _⟩
        case measure => simp [intOf]; omega
      · have hs : sendsP (l.take (k + 1)) = sendsP (l.take k) := by rw [ht]; unfold sendsP; rw [List.filter_append, List.length_append]; simp [h14]
        have g : (x.op == 14) = false := by rw [beq_eq_false_iff_ne]; exact h14
        have Hs := Lib.hid hs
        clear hs ht hx h14
        go_wp2_with fail
        go_roundw
        case rel => exact ⟨k + 1, by omega, by go_num, by rw [Hs.out], HF.out.alloc _⟩
        case measure => simp [intOf]; omega
    · obtain rfl : k = n := by omega
      go_wp2_with fail
      go_ret
      rw [List.take_of_length_le (by have := Hn.out; omega)]
      exact ⟨rfl, HF.out⟩
end Go.Proofs.YtodjiicneijkkaaDoor
