/- Package code: read: the instruction that a line is. -/
import Derived.Test.YtodjiicneijkkaaDoorCodeR
namespace Go.Proofs.YtodjiicneijkkaaDoor
open Go.RowKit Go.Maps

def parts (t : Bs) : List Bs := Lib.splitN t [32] 6
theorem splitK_pos (sep : Bs) (sv k : Nat) (s : Bs) : 1 ≤ (Lib.splitK sep sv k s).length := by
  cases k with
  | zero => simp [Lib.splitK]
  | succ k => unfold Lib.splitK; split <;> simp
theorem splitK_le (sep : Bs) (sv : Nat) : ∀ (k : Nat) (s : Bs), (Lib.splitK sep sv k s).length ≤ k + 1
  | 0, s => by simp [Lib.splitK]
  | k + 1, s => by
    unfold Lib.splitK
    split
    · simp
    · have := splitK_le sep sv k (s.drop ((Lib.index s sep).toNat + sep.length))
      simp only [List.length_cons]; omega
theorem splitK_short (sep : Bs) (sv : Nat) : ∀ (k : Nat) (s t : Bs), t ∈ Lib.splitK sep sv k s → t.length ≤ s.length
  | 0, s, t, h => by simp [Lib.splitK] at h; subst h; exact Nat.le_refl _
  | k + 1, s, t, h => by
    unfold Lib.splitK at h
    split at h
    · simp at h; subst h; exact Nat.le_refl _
    · rcases List.mem_cons.1 h with rfl | h
      · rw [List.length_take]; omega
      · have := splitK_short sep sv k _ t h
        rw [List.length_drop] at this; omega
theorem parts_pos (t : Bs) : 1 ≤ (parts t).length := splitK_pos _ _ _ _
theorem parts_le (t : Bs) : (parts t).length ≤ 6 := by
  have := splitK_le [32] 0 (min 6 (t.length + 1) - 1) t
  unfold parts Lib.splitN
  omega
theorem parts_short {t u : Bs} (h : u ∈ parts t) : u.length ≤ t.length := splitK_short _ _ _ _ _ h
theorem tx_data (s : ByteArray) : tx s.data.toList = s := by unfold tx; simp
theorem splitB_parts (t : Bs) : Lib.splitB ⟨#[32]⟩ 0 (min 6 ((tx t).size + 1) - 1) (tx t) = (parts t).map tx := by
  have h := Lib.splitB_data ⟨#[32]⟩ 0 (min 6 ((tx t).size + 1) - 1) (tx t)
  have h2 : (Lib.splitB ⟨#[32]⟩ 0 (min 6 ((tx t).size + 1) - 1) (tx t)).map (fun s => tx s.data.toList) = (parts t).map tx := by
    have := congrArg (List.map tx) h
    rw [List.map_map] at this
    refine Eq.trans this ?_
    rw [tx_size]
    rfl
  rw [← h2]
  conv => lhs; rw [← List.map_id (Lib.splitB _ _ _ _)]
  exact List.map_congr_left fun s _ => (tx_data s).symm
theorem splitN_any (t : Bs) (ht : t.length ≤ 10000) {w : World} (hf : Facts w) : Calls Tryd.prog 40 #[.string (tx t), .string ⟨#[32]⟩, .int .i64 6] w fun e w' =>
    e = .returned (.slice (some ⟨w.heap.size, 0, none⟩) (parts t).length (min 6 (t.length + 1))) ∧ w' = w.alloc (.cells (Lib.cellsOf ((parts t).map tx) (min 6 (t.length + 1))) 9) := by
  obtain ⟨m, hm⟩ := hf.maxl
  have h := Tryd.strings_SplitN (tx t) ⟨#[32]⟩ 6 m w (by rw [tx_size]; omega) hm (by decide) (by omega) (by omega)
  rw [splitB_parts, List.length_map, tx_size] at h
  exact h
theorem part_cell {w : World} {b : Nat} {ds : List Bs} {N : Nat} {t : TypeId} {fr : Nat × Nat} (h : w.heap[b]? = some (.cells (Lib.cellsOf (ds.map tx) N) t fr)) {i : Nat} {u : Bs} (hu : ds[i]? = some u) : w.cell? ⟨b, i, none⟩ = some (.string (tx u)) := by
  rw [cell_of_obj h]
  have hi := (List.getElem?_eq_some_iff.1 hu).1
  unfold Lib.cellsOf
  rw [List.getElem?_toArray, List.getElem?_append_left (by simpa using hi), List.getElem?_map, List.getElem?_map, hu]
  rfl

def nums : List Bs → Option (List Int)
  | [] => some []
  | t :: l => match numR t, nums l with
    | some v, some vs => some (v :: vs)
    | _, _ => none
theorem nums_snoc {l : List Bs} {vs : List Int} (h : nums l = some vs) {t : Bs} {v : Int} (ht : numR t = some v) : nums (l ++ [t]) = some (vs ++ [v]) := by
  induction l generalizing vs with
  | nil => simp [nums] at h ⊢; subst h; simp [ht]
  | cons a l ih =>
    simp only [List.cons_append, nums] at h ⊢
    cases ha : numR a with
    | none => simp [ha] at h
    | some x =>
      cases hl : nums l with
      | none => simp [ha, hl] at h
      | some xs =>
        simp [ha, hl] at h
        subst h
        rw [ih hl]
        rfl
theorem nums_bad {l : List Bs} {t : Bs} (hm : t ∈ l) (ht : numR t = none) : nums l = none := by
  induction l with
  | nil => cases hm
  | cons a l ih =>
    rcases List.mem_cons.1 hm with rfl | hm
    · simp [nums, ht]
    · simp only [nums]
      rw [ih hm]
      cases numR a <;> rfl
theorem nums_inI {l : List Bs} {vs : List Int} (h : nums l = some vs) : ∀ v ∈ vs, inI v := by
  induction l generalizing vs with
  | nil => simp [nums] at h; subst h; simp
  | cons a l ih =>
    simp only [nums] at h
    cases ha : numR a with
    | none => simp [ha] at h
    | some x =>
      cases hl : nums l with
      | none => simp [ha, hl] at h
      | some xs =>
        simp [ha, hl] at h
        subst h
        intro v hv
        rcases List.mem_cons.1 hv with rfl | hv
        · exact numR_inI ha
        · exact ih hl v hv
theorem nums_length {l : List Bs} {vs : List Int} (h : nums l = some vs) : vs.length = l.length := by
  induction l generalizing vs with
  | nil => simp [nums] at h; subst h; rfl
  | cons a l ih =>
    simp only [nums] at h
    cases ha : numR a with
    | none => simp [ha] at h
    | some x =>
      cases hl : nums l with
      | none => simp [ha, hl] at h
      | some xs =>
        simp [ha, hl] at h
        subst h
        simp [ih hl]
def mkI (k : Nat) (vs : List Int) : Ins := ⟨k, vs.getD 0 0, vs.getD 1 0, vs.getD 2 0, vs.getD 3 0⟩
def zeroI : Ins := ⟨0, 0, 0, 0, 0⟩
def rdLine (t : Bs) (many : Int) : Ins × Int :=
  if findK ((parts t).headD []) = 0 ∨ (parts t).length ≠ 1 + manyK (findK ((parts t).headD [])) then (zeroI, 15) else
    match nums (parts t).tail with
    | none => (zeroI, 15)
    | some vs => if mayE (mkI (findK ((parts t).headD [])) vs) many = 0 then (mkI (findK ((parts t).headD [])) vs, 0) else (zeroI, mayE (mkI (findK ((parts t).headD [])) vs) many)
theorem findK_lt (t : Bs) : findK t < 16 := by
  unfold findK
  split
  · rename_i h
    have := List.idxOf_lt_length_of_mem h
    have hl : words.tail.length = 15 := rfl
    omega
  · omega

theorem arr_put (vs : List Int) (v : Int) (h : vs.length < 4) : (#[Value.int .i64 (vs.getD 0 0), .int .i64 (vs.getD 1 0), .int .i64 (vs.getD 2 0), .int .i64 (vs.getD 3 0)] : Array Value).setIfInBounds vs.length (.int .i64 v) = #[.int .i64 ((vs ++ [v]).getD 0 0), .int .i64 ((vs ++ [v]).getD 1 0), .int .i64 ((vs ++ [v]).getD 2 0), .int .i64 ((vs ++ [v]).getD 3 0)] := by
  match vs, h with
  | [], _ => rfl
  | [_], _ => rfl
  | [_, _], _ => rfl
  | [_, _, _], _ => rfl
theorem bodyPost_world {P : Program} {f : Func} {post : Ending → World → Prop} {e : Exit} {a : Act} {w : World} (I : World → Prop) (h : I w) (k : ∀ w', I w' → bodyPost P f post e a w') : bodyPost P f post e a w := k w h
/-- A box of five is filled again. -/
theorem Holds.refill5 {R : World → List Nat → Prop} {B : Nat} {w0 w : World} {L : List (Nat × Obj)} (hR : Stable R) {k : Nat} {t : TypeId} {f : Nat × Nat} {a0 a1 a2 a3 a4 : Value} (hk : B ≤ k) (hL : ∀ p ∈ L, p.1 ≠ k) (h : Holds B w0 R w ((k, .cells #[a0, a1, a2, a3, a4] t f) :: L)) (b0 b1 b2 b3 b4 : Value) :
    Holds B w0 R (((((w.setCell ⟨k, 0, none⟩ b0).setCell ⟨k, 1, none⟩ b1).setCell ⟨k, 2, none⟩ b2).setCell ⟨k, 3, none⟩ b3).setCell ⟨k, 4, none⟩ b4) ((k, .cells #[b0, b1, b2, b3, b4] t f) :: L) :=
  ((((h.put (L := []) hR hk (by simp) hL 0 b0).put (L := []) hR hk (by simp) hL 1 b1).put (L := []) hR hk (by simp) hL 2 b2).put (L := []) hR hk (by simp) hL 3 b3).put (L := []) hR hk (by simp) hL 4 b4

def ReadRel (w : World) (t : Bs) (m b9 : Nat) (L : List (Nat × Obj)) (iv : Value) (wr : World) : Prop :=
  ∃ (j : Nat) (vs : List Int), j ≤ m ∧ iv = .int .i64 (j : Int) ∧ nums ((parts t).tail.take j) = some vs ∧ vs.length = j ∧ Holds w.heap.size w noneR wr ((b9, .cells #[.int .i64 (vs.getD 0 0), .int .i64 (vs.getD 1 0), .int .i64 (vs.getD 2 0), .int .i64 (vs.getD 3 0)] 55) :: L)
theorem cells4 {w : World} {b : Nat} {x0 x1 x2 x3 : Value} {t : TypeId} {f : Nat × Nat} (h : w.heap[b]? = some (.cells #[x0, x1, x2, x3] t f)) :
    w.cell? ⟨b, 0, none⟩ = some x0 ∧ w.cell? ⟨b, 1, none⟩ = some x1 ∧ w.cell? ⟨b, 2, none⟩ = some x2 ∧ w.cell? ⟨b, 3, none⟩ = some x3 := by
  refine ⟨?_, ?_, ?_, ?_⟩ <;> (rw [cell_of_obj h]; rfl)
theorem sepR_boxL {R : World → List Nat → Prop} {B : Nat} {w0 w : World} {p q : Nat × Obj} (h : Holds B w0 R w [p, q]) : Holds B w0 R w [q, p] := h.sub (by simp)
set_option maxHeartbeats 2000000 in
theorem read_any (t : Bs) (ht : t.length ≤ 10000) (many : Int) {w : World} (hf : Facts w) : Calls Tryd.prog 32 #[.string (tx t), .int .i64 many] w (Tells (.tuple #[(rdLine t many).1.val, .int .i64 (rdLine t many).2]) w) := by
  have HF := Lib.hid hf
  clear hf
  have H0 := Lib.hid ((Holds.start w).alloc noneR_stable (.cells #[.int .i64 0, .int .i64 0, .int .i64 0, .int .i64 0, .int .i64 0] 23))
  have hp1 := parts_pos t
  have hp6 := parts_le t
  obtain ⟨u0, hu0⟩ : ∃ u, (parts t)[0]? = some u := ⟨_, List.getElem?_eq_getElem (by omega)⟩
  have hhd : (parts t).headD [] = u0 := by
    cases hps : parts t with
    | nil => rw [hps] at hu0; simp at hu0
    | cons a l => rw [hps] at hu0; simpa using hu0
  have Hu0 := Lib.hid hu0
  have Hhd := Lib.hid hhd
  clear hu0 hhd
  have hk16 := findK_lt u0
  go_enter Tryd.func32, Tryd.ntmps32
  go_wp2_with fail
  refine (splitN_any t ht (HF.out.frm ((Frm.refl _ _).alloc _))).mono ?_
  rintro e w1 ⟨rfl, rfl⟩
  obtain ⟨n, hn⟩ : ∃ n, (parts t).length = n := ⟨_, rfl⟩
  obtain ⟨c, hc⟩ : ∃ c, min 6 (t.length + 1) = c := ⟨_, rfl⟩
  rw [hn, hc]
  have hc6 : c ≤ 6 := by omega
  have hc1 : t ≠ [] → 1 < c := fun h => by have := List.length_pos_iff.2 h; omega
  have hnc : n ≤ c := by
    have := splitK_le [32] 0 (min 6 (t.length + 1) - 1) t
    rw [← hn, ← hc]
    unfold parts Lib.splitN
    omega
  have h1 := H0.out.alloc noneR_stable (.cells (Lib.cellsOf ((parts t).map tx) c) 9)
  simp only [World.size_alloc] at h1 ⊢
  generalize hW1 : (World.alloc (World.alloc w _) _) = W1 at h1 ⊢
  clear hW1
  have H1 := Lib.hid h1
  clear h1
  have p0 := part_cell (H1.out.box (k := w.heap.size + 1) (o := .cells (Lib.cellsOf ((parts t).map tx) c) 9) (by simp)) Hu0.out
  have z0 := World.block_lt_of_cell? _ _ p0
  dsimp only at z0
  have i0 : (0 : Int) < (n : Int) := by omega
  have i0' : 0 < n := by omega
  have Hn := Lib.hid hn
  clear hn hc
  go_wp2_with fail
  refine (find_any u0 (HF.out.frm (Frm.of_below H1.out.below (Nat.le_refl _))).ops).mono ?_
  rintro e w2 ⟨rfl, hF2⟩
  have H2 := Lib.hid (H1.out.made noneR_stable hF2)
  clear hF2 p0 z0 i0 i0'
  have hbz := H2.out.box (k := w.heap.size) (o := .cells #[.int .i64 0, .int .i64 0, .int .i64 0, .int .i64 0, .int .i64 0] 23) (by simp)
  obtain ⟨r0, r1, r2, r3, r4⟩ := cells5 hbz
  have fz : ∀ j, w2.frozen? ⟨w.heap.size, j, none⟩ = false := fun j => frozen_of_obj hbz j
  have z1 := World.block_lt_of_cell? _ _ r0
  dsimp only at z1
  by_cases hk0 : findK u0 = 0
  · have g1 : (findK u0 != 0) = false := by simp [hk0]
    have e1 : rdLine t many = (zeroI, 15) := by unfold rdLine; rw [Hhd.out, if_pos (.inl hk0)]
    have E1 := Lib.hid e1
    have Hk0 := Lib.hid hk0
    have H6 := Lib.hid ((sepR_boxL H2.out).refill5 noneR_stable (Nat.le_refl _) (by simp) (.int .i64 0) (.int .i64 0) (.int .i64 0) (.int .i64 0) (.int .i64 0))
    clear e1 hbz hk0
    go_wp2_with fail
    refine bodyPost_world (fun W => Holds w.heap.size w noneR W _) H6.out fun W h7 => ?_
    obtain ⟨s0, s1, s2, s3, s4⟩ := cells5 (h7.box (k := w.heap.size) (o := .cells #[.int .i64 0, .int .i64 0, .int .i64 0, .int .i64 0, .int .i64 0] 23) (by simp))
    rw [E1.out]
    exact bodyPost_ret (v := .tuple #[zeroI.val, .int .i64 15]) (by simp [results, Tryd.results32, go_sem, s0, s1, s2, s3, s4, zeroI]) rfl ⟨rfl, Frm.of_below h7.below (Nat.le_refl _)⟩
  · have g1 : (findK u0 != 0) = true := by simp [hk0]
    have hm4 := manyK_le hk16
    obtain ⟨c0, c1, c2⟩ := ((HF.out.frm (Frm.of_below H2.out.below (Nat.le_refl _))).ops) (findK u0) hk16
    have z2 := World.block_lt_of_cell? _ _ c0
    dsimp only at z2
    have gw : IntKind.i64.wrap (1 + (manyK (findK u0) : Int)) = 1 + (manyK (findK u0) : Int) := IntWalk.i64_in _ (by omega)
    have Hk0 := Lib.hid hk0
    clear hk0
    by_cases hlen : n = manyK (findK u0) + 1
    · have g2 : ((n : Int) != 1 + (manyK (findK u0) : Int)) = false := by simp; omega
      have hc2 : 1 < c := hc1 (fun h => by
        have e := Hhd.out
        rw [h] at e
        have e2 : u0 = [] := by rw [← e]; decide
        exact Hk0.out (by rw [e2]; decide))
      obtain ⟨d, rfl⟩ : ∃ d, c = d + 2 := ⟨c - 2, by omega⟩
      subst hlen
      have g3 : ((manyK (findK u0) : Int) + 1 != 1 + (manyK (findK u0) : Int)) = false := by simp; omega
      have H3 := Lib.hid (H2.out.alloc noneR_stable (.cells #[.int .i64 0, .int .i64 0, .int .i64 0, .int .i64 0] 55))
      have hw2 := H2.out.le
      have hwn : w.heap.size + 1 < w2.heap.size := lt_of_obj (H2.out.box (k := w.heap.size + 1) (o := .cells (Lib.cellsOf ((parts t).map tx) (d + 2)) 9) (by simp))
      clear hc1 hc2 g2 hbz r0 r1 r2 r3 r4 fz z1
      go_wp2_with fail
      clear g3
      go_loopw [42] (fun iv wr => ReadRel w t (manyK (findK u0)) w2.heap.size [(w.heap.size + 1, .cells (Lib.cellsOf ((parts t).map tx) (d + 2)) 9), (w.heap.size, .cells #[.int .i64 0, .int .i64 0, .int .i64 0, .int .i64 0, .int .i64 0] 23)] iv wr) (fun iv _ => manyK (findK u0) - (intOf iv).toNat)
      case atStart => exact ⟨0, [], by omega, rfl, rfl, rfl, H3.out⟩
      case round =>
        obtain ⟨j, vs, hj, rfl, hnum, hvl, hh⟩ := hrel
        have H4 := Lib.hid hh
        have Hnum := Lib.hid hnum
        have hb9 := hh.box (k := w2.heap.size) (o := .cells #[.int .i64 (vs.getD 0 0), .int .i64 (vs.getD 1 0), .int .i64 (vs.getD 2 0), .int .i64 (vs.getD 3 0)] 55) (by simp)
        obtain ⟨q0, q1, q2, q3⟩ := cells4 hb9
        clear hh hnum
        by_cases hlt : j < manyK (findK u0)
        · obtain ⟨u, hu⟩ : ∃ u, (parts t)[j + 1]? = some u := ⟨_, List.getElem?_eq_getElem (by have := Hn.out; omega)⟩
          have p1 := part_cell (H4.out.box (k := w.heap.size + 1) (o := .cells (Lib.cellsOf ((parts t).map tx) (d + 2)) 9) (by simp)) hu
          have p1' : wr.cell? ⟨w.heap.size + 1, 1 + j, none⟩ = some (.string (tx u)) := by rw [Nat.add_comm 1 j]; exact p1
          have hul : u.length ≤ 10000 := Nat.le_trans (parts_short (List.mem_of_getElem? hu)) ht
          have Hu := Lib.hid hu
          have z1 := World.block_lt_of_cell? _ _ p1
          dsimp only at z1
          clear hu q0 q1 q2 q3 hb9
          go_wp2_with fail
          refine (number_any u hul (HF.out.frm (Frm.of_below H4.out.below (Nat.le_refl _)))).mono ?_
          rintro e w3 ⟨rfl, hF3⟩
          have H5 := Lib.hid (H4.out.made noneR_stable hF3)
          clear hF3 p1 p1' z1
          cases hv : numR u with
          | some v =>
            have hb9 := H5.out.box (k := w2.heap.size) (o := .cells #[.int .i64 (vs.getD 0 0), .int .i64 (vs.getD 1 0), .int .i64 (vs.getD 2 0), .int .i64 (vs.getD 3 0)] 55) (by simp)
            have f9 : ∀ j, w3.frozen? ⟨w2.heap.size, j, none⟩ = false := fun j => frozen_of_obj hb9 j
            have z9 := lt_of_obj hb9
            have c9 : w3.cell? ⟨w2.heap.size, j, none⟩ = some (.int .i64 (vs.getD j 0)) := by
              rw [cell_of_obj hb9]
              obtain rfl | rfl | rfl | rfl : j = 0 ∨ j = 1 ∨ j = 2 ∨ j = 3 := by omega
              all_goals rfl
            have j4 : j < 4 := by omega
            have hp := H5.out.put (L := []) noneR_stable (by omega) (by simp) (by simp; omega) vs.length (.int .i64 v)
            rw [arr_put vs v (by omega), hvl] at hp
            have H6 := Lib.hid hp
            have Hv := Lib.hid hv
            have Hvl := Lib.hid hvl
            clear hp hv hvl hb9
            dsimp only [Option.getD_some, Option.isSome_some]
            go_wp2_with fail
            go_roundw
            case rel =>
              refine ⟨j + 1, vs ++ [v], by omega, by go_num, ?_, by simp [Hvl.out], H6.out⟩
              have : (parts t).tail[j]? = some u := by rw [List.getElem?_tail]; exact Hu.out
              rw [List.take_add_one, this]
              exact nums_snoc Hnum.out Hv.out
            case measure => simp [intOf]; omega
          | none =>
            have e1 : rdLine t many = (zeroI, 15) := by
              unfold rdLine
              rw [Hhd.out, if_neg (by rintro (h | h); exact Hk0.out h; have := Hn.out; omega), nums_bad (t := u) (by rw [List.mem_iff_getElem?]; exact ⟨j, by rw [List.getElem?_tail]; exact Hu.out⟩) hv]
            have E1 := Lib.hid e1
            have hbz := H5.out.box (k := w.heap.size) (o := .cells #[.int .i64 0, .int .i64 0, .int .i64 0, .int .i64 0, .int .i64 0] 23) (by simp)
            obtain ⟨r0, r1, r2, r3, r4⟩ := cells5 hbz
            have fz : ∀ j, w3.frozen? ⟨w.heap.size, j, none⟩ = false := fun j => frozen_of_obj hbz j
            have z1 := World.block_lt_of_cell? _ _ r0
            dsimp only at z1
            have H6 := Lib.hid ((H5.out.sub (M := [(w.heap.size, .cells #[.int .i64 0, .int .i64 0, .int .i64 0, .int .i64 0, .int .i64 0] 23)]) (by simp)).refill5 noneR_stable (Nat.le_refl _) (by simp) (.int .i64 0) (.int .i64 0) (.int .i64 0) (.int .i64 0) (.int .i64 0))
            clear e1 hbz hv
            dsimp only [Option.getD_none, Option.isSome_none]
            go_wp2_with fail
            refine bodyPost_world (fun W => Holds w.heap.size w noneR W _) H6.out fun W h7 => ?_
            obtain ⟨s0, s1, s2, s3, s4⟩ := cells5 (h7.box (k := w.heap.size) (o := .cells #[.int .i64 0, .int .i64 0, .int .i64 0, .int .i64 0, .int .i64 0] 23) (by simp))
            rw [E1.out]
            exact bodyPost_ret (v := .tuple #[zeroI.val, .int .i64 15]) (by simp [results, Tryd.results32, go_sem, s0, s1, s2, s3, s4, zeroI]) rfl ⟨rfl, Frm.of_below h7.below (Nat.le_refl _)⟩
        · obtain rfl : j = manyK (findK u0) := by omega
          have z9 := lt_of_obj hb9
          have htl : (parts t).tail.take (manyK (findK u0)) = (parts t).tail := List.take_of_length_le (by rw [List.length_tail]; have := Hn.out; omega)
          have e0 : nums (parts t).tail = some vs := by have := Hnum.out; rwa [htl] at this
          have e1 : rdLine t many = if mayE (mkI (findK u0) vs) many = 0 then (mkI (findK u0) vs, 0) else (zeroI, mayE (mkI (findK u0) vs) many) := by
            unfold rdLine
            rw [Hhd.out, if_neg (by rintro (h | h); exact Hk0.out h; have := Hn.out; omega), e0]
          have E1 := Lib.hid e1
          have H5 := Lib.hid (H4.out.alloc noneR_stable (.cells #[.int .i64 (findK u0 : Nat), .int .i64 (vs.getD 0 0), .int .i64 (vs.getD 1 0), .int .i64 (vs.getD 2 0), .int .i64 (vs.getD 3 0)] 23))
          have hrw : w.heap.size < wr.heap.size := lt_of_obj (H4.out.box (k := w.heap.size) (o := .cells #[.int .i64 0, .int .i64 0, .int .i64 0, .int .i64 0, .int .i64 0] 23) (by simp))
          clear e1 e0 htl hvl hb9
          go_wp2_with fail
          refine (may_any (mkI (findK u0) vs) many ((HF.out.frm (Frm.of_below H5.out.below (Nat.le_refl _))).ops)).mono ?_
          rintro e w3 ⟨rfl, hF3⟩
          have H6 := Lib.hid (H5.out.made noneR_stable hF3)
          clear hF3 q0 q1 q2 q3 z9
          obtain ⟨q0, q1, q2, q3, q4⟩ := cells5 (H6.out.box (k := wr.heap.size) (o := .cells #[.int .i64 (findK u0 : Nat), .int .i64 (vs.getD 0 0), .int .i64 (vs.getD 1 0), .int .i64 (vs.getD 2 0), .int .i64 (vs.getD 3 0)] 23) (by simp))
          have hbz := H6.out.box (k := w.heap.size) (o := .cells #[.int .i64 0, .int .i64 0, .int .i64 0, .int .i64 0, .int .i64 0] 23) (by simp)
          obtain ⟨r0, r1, r2, r3, r4⟩ := cells5 hbz
          have fz : ∀ j, w3.frozen? ⟨w.heap.size, j, none⟩ = false := fun j => frozen_of_obj hbz j
          have z1 := World.block_lt_of_cell? _ _ r0
          dsimp only at z1
          have H7 := Lib.hid (H6.out.sub (M := [(w.heap.size, .cells #[.int .i64 0, .int .i64 0, .int .i64 0, .int .i64 0, .int .i64 0] 23)]) (by simp))
          clear hbz
          by_cases hm0 : mayE (mkI (findK u0) vs) many = 0
          · have g5 : (mayE (mkI (findK u0) vs) many != 0) = false := by simp [hm0]
            have H8 := Lib.hid (H7.out.refill5 noneR_stable (Nat.le_refl _) (by simp) (.int .i64 (findK u0 : Nat)) (.int .i64 (vs.getD 0 0)) (.int .i64 (vs.getD 1 0)) (.int .i64 (vs.getD 2 0)) (.int .i64 (vs.getD 3 0)))
            have E2 := Lib.hid (E1.out.trans (if_pos hm0))
            clear hm0
            go_wp2_with fail
            refine bodyPost_world (fun W => Holds w.heap.size w noneR W _) H8.out fun W h7 => ?_
            obtain ⟨s0, s1, s2, s3, s4⟩ := cells5 (h7.box (k := w.heap.size) (o := .cells #[.int .i64 (findK u0 : Nat), .int .i64 (vs.getD 0 0), .int .i64 (vs.getD 1 0), .int .i64 (vs.getD 2 0), .int .i64 (vs.getD 3 0)] 23) (by simp))
            rw [E2.out]
            exact bodyPost_ret (v := .tuple #[(mkI (findK u0) vs).val, .int .i64 0]) (by simp [results, Tryd.results32, go_sem, s0, s1, s2, s3, s4, mkI]) rfl ⟨rfl, Frm.of_below h7.below (Nat.le_refl _)⟩
          · have g5 : (mayE (mkI (findK u0) vs) many != 0) = true := by simp [hm0]
            have H8 := Lib.hid (H7.out.refill5 noneR_stable (Nat.le_refl _) (by simp) (.int .i64 0) (.int .i64 0) (.int .i64 0) (.int .i64 0) (.int .i64 0))
            have E2 := Lib.hid (E1.out.trans (if_neg hm0))
            clear hm0
            go_wp2_with fail
            refine bodyPost_world (fun W => Holds w.heap.size w noneR W _) H8.out fun W h7 => ?_
            obtain ⟨s0, s1, s2, s3, s4⟩ := cells5 (h7.box (k := w.heap.size) (o := .cells #[.int .i64 0, .int .i64 0, .int .i64 0, .int .i64 0, .int .i64 0] 23) (by simp))
            rw [E2.out]
            exact bodyPost_ret (v := .tuple #[zeroI.val, .int .i64 (mayE (mkI (findK u0) vs) many)]) (by simp [results, Tryd.results32, go_sem, s0, s1, s2, s3, s4, zeroI]) rfl ⟨rfl, Frm.of_below h7.below (Nat.le_refl _)⟩
    · have g2 : ((n : Int) != 1 + (manyK (findK u0) : Int)) = true := by simp; omega
      have e1 : rdLine t many = (zeroI, 15) := by unfold rdLine; rw [Hhd.out, if_pos (.inr (by have := Hn.out; omega))]
      have E1 := Lib.hid e1
      have H6 := Lib.hid ((sepR_boxL H2.out).refill5 noneR_stable (Nat.le_refl _) (by simp) (.int .i64 0) (.int .i64 0) (.int .i64 0) (.int .i64 0) (.int .i64 0))
      clear e1 hbz hlen
      go_wp2_with fail
      refine bodyPost_world (fun W => Holds w.heap.size w noneR W _) H6.out fun W h7 => ?_
      obtain ⟨s0, s1, s2, s3, s4⟩ := cells5 (h7.box (k := w.heap.size) (o := .cells #[.int .i64 0, .int .i64 0, .int .i64 0, .int .i64 0, .int .i64 0] 23) (by simp))
      rw [E1.out]
      exact bodyPost_ret (v := .tuple #[zeroI.val, .int .i64 15]) (by simp [results, Tryd.results32, go_sem, s0, s1, s2, s3, s4, zeroI]) rfl ⟨rfl, Frm.of_below h7.below (Nat.le_refl _)⟩
end Go.Proofs.YtodjiicneijkkaaDoor
