/- Package code: plain facts about texts: a line read again is the instruction, and an instruction that was read has that line. -/
import Derived.Test.YtodjiicneijkkaaDoorCodeQ
import Derived.Lib.AtoiAllCases
namespace Go.Proofs.YtodjiicneijkkaaDoor
open Go.RowKit Go.Maps

/-! Where a byte first stands. -/
theorem index_byte_hit (c : UInt8) : ∀ (a r : Bs), c ∉ a → Lib.index (a ++ c :: r) [c] = a.length
  | [], r, _ => by simp [Lib.index, List.isPrefixOf]
  | b :: a, r, h => by
    have hb : b ≠ c := fun e => h (by simp [e])
    have ih := index_byte_hit c a r (fun hm => h (by simp [hm]))
    have hp : List.isPrefixOf [c] (b :: (a ++ c :: r)) = false := by simp [List.isPrefixOf]; exact fun e => hb e.symm
    have hn : ((a.length : Int) == -1) = false := by rw [beq_eq_false_iff_ne]; omega
    rw [List.cons_append, Lib.index, hp, ih, hn]
    simp
theorem index_byte_none (c : UInt8) : ∀ (a : Bs), c ∉ a → Lib.index a [c] = -1
  | [], _ => by simp [Lib.index]
  | b :: a, h => by
    have hb : b ≠ c := fun e => h (by simp [e])
    have ih := index_byte_none c a (fun hm => h (by simp [hm]))
    have hp : List.isPrefixOf [c] (b :: a) = false := by simp [List.isPrefixOf]; exact fun e => hb e.symm
    rw [Lib.index, hp, ih]
    simp
theorem split_byte (c : UInt8) : ∀ (s : Bs), c ∈ s → ∃ a r, s = a ++ c :: r ∧ c ∉ a
  | b :: s, h => by
    by_cases hb : b = c
    · exact ⟨[], s, by simp [hb], by simp⟩
    · obtain ⟨a, r, he, hn⟩ := split_byte c s (by rcases List.mem_cons.1 h with h | h; exact absurd h.symm hb; exact h)
      exact ⟨b :: a, r, by simp [he], by simp [hn]; exact fun e => hb e.symm⟩
theorem cut_hit {a r : Bs} (h : (10 : UInt8) ∉ a) : Lib.cut (a ++ 10 :: r) [10] = (a, r, true) := by
  unfold Lib.cut
  rw [index_byte_hit 10 a r h, if_pos (by omega)]
  simp
theorem cut_none {s : Bs} (h : (10 : UInt8) ∉ s) : Lib.cut s [10] = (s, [], false) := by
  unfold Lib.cut
  rw [index_byte_none 10 s h, if_neg (by omega)]
theorem cut_true {s : Bs} (h : (Lib.cut s [10]).2.2 = true) : s = (Lib.cut s [10]).1 ++ 10 :: (Lib.cut s [10]).2.1 := by
  by_cases hm : (10 : UInt8) ∈ s
  · obtain ⟨a, r, rfl, hn⟩ := split_byte 10 s hm
    rw [cut_hit hn]
  · rw [cut_none hm] at h; simp at h

/-! Parts with blanks between. -/
def joinB : List Bs → Bs
  | [] => []
  | [a] => a
  | a :: l => a ++ 32 :: joinB l
theorem joinB_cons (a : Bs) {l : List Bs} (h : l ≠ []) : joinB (a :: l) = a ++ 32 :: joinB l := by
  cases l with
  | nil => exact absurd rfl h
  | cons b l => rfl
theorem splitK_ne (k : Nat) (s : Bs) : Lib.splitK [32] 0 k s ≠ [] := by
  intro h
  have := splitK_pos [32] 0 k s
  rw [h] at this
  simp at this
theorem splitK_join : ∀ (k : Nat) (s : Bs), joinB (Lib.splitK [32] 0 k s) = s
  | 0, s => rfl
  | k + 1, s => by
    by_cases hm : (32 : UInt8) ∈ s
    · obtain ⟨a, r, rfl, hn⟩ := split_byte 32 s hm
      have hi := index_byte_hit 32 a r hn
      have hb : ((a.length : Int) == -1) = false := by rw [beq_eq_false_iff_ne]; omega
      unfold Lib.splitK
      rw [hi, hb]
      simp only [Bool.false_eq_true, if_false, Int.toNat_natCast, Nat.add_zero, List.length_cons, List.length_nil, Nat.zero_add]
      rw [joinB_cons _ (splitK_ne _ _), splitK_join k]
      simp
    · unfold Lib.splitK
      rw [index_byte_none 32 s hm]
      rfl
theorem splitK_of : ∀ (l : List Bs) (k : Nat), l ≠ [] → (∀ a ∈ l, (32 : UInt8) ∉ a) → l.length ≤ k + 1 → Lib.splitK [32] 0 k (joinB l) = l
  | [], _, h, _, _ => absurd rfl h
  | [a], k, _, hn, _ => by
    cases k with
    | zero => rfl
    | succ k =>
      unfold Lib.splitK
      rw [show joinB [a] = a from rfl, index_byte_none 32 a (hn a (by simp))]
      rfl
  | a :: b :: l, 0, _, _, hk => by simp at hk
  | a :: b :: l, k + 1, _, hn, hk => by
    have hi := index_byte_hit 32 a (joinB (b :: l)) (hn a (by simp))
    have hb : ((a.length : Int) == -1) = false := by rw [beq_eq_false_iff_ne]; omega
    rw [joinB_cons a (by simp)]
    unfold Lib.splitK
    rw [hi, hb]
    simp only [Bool.false_eq_true, if_false, Int.toNat_natCast, Nat.add_zero, List.length_cons, List.length_nil, Nat.zero_add]
    have e1 : (a ++ 32 :: joinB (b :: l)).take a.length = a := by simp
    have e2 : (a ++ 32 :: joinB (b :: l)).drop (a.length + 1) = joinB (b :: l) := by simp
    rw [e1, e2, splitK_of (b :: l) k (by simp) (fun x hx => hn x (by simp [hx])) (by simp at hk ⊢; omega)]
theorem joinB_length : ∀ (l : List Bs), l.length ≤ (joinB l).length + 1
  | [] => by simp
  | [a] => by simp [joinB]
  | a :: b :: l => by
    have := joinB_length (b :: l)
    rw [joinB_cons a (by simp)]
    simp only [List.length_cons, List.length_append] at this ⊢
    omega
theorem parts_join (t : Bs) : joinB (parts t) = t := splitK_join _ _
theorem parts_of {l : List Bs} (h0 : l ≠ []) (hn : ∀ a ∈ l, (32 : UInt8) ∉ a) (h6 : l.length ≤ 6) : parts (joinB l) = l := by
  unfold parts Lib.splitN
  refine splitK_of l _ h0 hn ?_
  have := joinB_length l
  omega

/-! Numerals. -/
theorem dec_digit (u : Nat) : ∀ c ∈ Lib.decDigits u, 48 ≤ c.toNat ∧ c.toNat ≤ 57 := by
  induction u using Nat.strongRecOn with
  | _ u ih =>
    intro c hc
    by_cases h : u < 10
    · rw [Lib.decDigits, dif_pos h] at hc
      rw [List.mem_singleton.1 hc, UInt8.toNat_ofNat']
      omega
    · rw [Lib.decDigits, dif_neg h] at hc
      rcases List.mem_append.1 hc with hc | hc
      · exact ih (u / 10) (by omega) c hc
      · rw [List.mem_singleton.1 hc, UInt8.toNat_ofNat']
        omega
theorem dec_ne (u : Nat) : Lib.decDigits u ≠ [] := by
  intro h
  have := Lib.decDigits_length u
  have := Lib.nDigits_pos u
  rw [h] at *
  simp at *
  omega
theorem parse_append : ∀ (l m : Bs) (acc v : Nat), Lib.parseUint10 acc l = .ok v → Lib.parseUint10 acc (l ++ m) = Lib.parseUint10 v m
  | [], m, acc, v, h => by simp [Lib.parseUint10] at h; subst h; rfl
  | c :: l, m, acc, v, h => by
    simp only [List.cons_append, Lib.parseUint10] at h ⊢
    split at h
    · rename_i h1
      rw [if_pos h1]
      split at h
      · cases h
      · rename_i h2
        rw [if_neg h2]
        split at h
        · cases h
        · rename_i h3
          rw [if_neg h3]
          exact parse_append l m _ v h
    · cases h
theorem parse_dec (u : Nat) : u < 18446744073709551616 → Lib.parseUint10 0 (Lib.decDigits u) = .ok u := by
  induction u using Nat.strongRecOn with
  | _ u ih =>
    intro hu
    by_cases h : u < 10
    · rw [Lib.decDigits, dif_pos h]
      have e : (UInt8.ofNat (48 + u)).toNat = 48 + u := by rw [UInt8.toNat_ofNat']; omega
      simp only [Lib.parseUint10, e]
      rw [if_pos (by omega), if_neg (by omega), if_neg (by omega)]
      congr 1; omega
    · rw [Lib.decDigits, dif_neg h, parse_append _ _ 0 _ (ih (u / 10) (by omega) (by omega))]
      have e : (UInt8.ofNat (48 + u % 10)).toNat = 48 + u % 10 := by rw [UInt8.toNat_ofNat']; omega
      simp only [Lib.parseUint10, e]
      rw [if_pos (by omega), if_neg (by omega), if_neg (by omega)]
      congr 1; omega
theorem atoi_itoa {v : Int} (h : inI v) : Lib.atoiAll (Lib.itoa v) = .ok v := by
  unfold Lib.itoa
  obtain ⟨h0, h1⟩ := h
  split
  · rename_i hv
    rw [Lib.atoiAll_minus]
    unfold Lib.parseMag
    rw [if_neg (dec_ne _), parse_dec _ (by omega)]
    unfold Lib.signed
    simp only
    rw [if_neg (by omega)]
    congr 1; omega
  · rename_i hv
    cases hd : Lib.decDigits v.toNat with
    | nil => exact absurd hd (dec_ne _)
    | cons c r =>
      have hc := dec_digit v.toNat c (by rw [hd]; simp)
      rw [Lib.atoiAll_plain c r (by omega) (by omega), ← hd]
      unfold Lib.parseMag
      rw [if_neg (dec_ne _), parse_dec _ (by omega)]
      unfold Lib.signless
      simp only
      rw [if_neg (by omega)]
      congr 1; omega
theorem numR_of {v : Int} (h : inI v) : numR (Lib.itoa v) = some v := by rw [numR_ok (atoi_itoa h), if_pos rfl]
theorem itoa_free (v : Int) (c : UInt8) (h1 : c.toNat < 45) : c ∉ Lib.itoa v := by
  intro hm
  unfold Lib.itoa at hm
  split at hm
  · rcases List.mem_cons.1 hm with rfl | hm
    · simp at h1
    · have := dec_digit _ c hm; omega
  · have := dec_digit _ c hm; omega
theorem word_free {k : Nat} (hk : k < 16) : (10 : UInt8) ∉ wordK k ∧ (32 : UInt8) ∉ wordK k := by
  have : ∀ k : Fin 16, (10 : UInt8) ∉ wordK k.1 ∧ (32 : UInt8) ∉ wordK k.1 := by decide
  exact this ⟨k, hk⟩

/-! A line's parts. -/
def lineP (x : Ins) (m : Nat) : List Bs := wordOf x.op :: (List.range m).map fun i => Lib.itoa (x.num i)
theorem joinB_snoc (l : List Bs) (b : Bs) (h : l ≠ []) : joinB (l ++ [b]) = joinB l ++ 32 :: b := by
  induction l with
  | nil => exact absurd rfl h
  | cons a l ih =>
    by_cases hl : l = []
    · subst hl; rfl
    · rw [List.cons_append, joinB_cons a (by simp), joinB_cons a hl, ih hl]
      simp
theorem lineP_join (x : Ins) (m : Nat) : joinB (lineP x m) = wordOf x.op ++ numsL x m := by
  induction m with
  | zero => simp [lineP, joinB, numsL]
  | succ m ih =>
    have : lineP x (m + 1) = lineP x m ++ [Lib.itoa (x.num m)] := by unfold lineP; rw [List.range_succ]; simp
    rw [this, joinB_snoc _ _ (by simp [lineP]), ih, numsL_succ]
    simp
theorem lineL_parts (x : Ins) : parts (lineL x) = lineP x (manyOf x.op) := by
  have h := lineP_join x (manyOf x.op)
  unfold lineL
  rw [← h]
  refine parts_of (by simp [lineP]) (fun a ha => ?_) ?_
  · unfold lineP at ha
    rcases List.mem_cons.1 ha with rfl | ha
    · exact (word_free (opK_lt x.op)).2
    · obtain ⟨i, _, rfl⟩ := List.mem_map.1 ha
      exact itoa_free _ 32 (by decide)
  · have : manyOf x.op ≤ 4 := manyK_le (opK_lt x.op)
    simp [lineP]; omega
theorem lineL_free (x : Ins) : (10 : UInt8) ∉ lineL x := by
  intro h
  unfold lineL numsL at h
  rcases List.mem_append.1 h with h | h
  · exact (word_free (opK_lt x.op)).1 h
  · simp only [List.mem_flatten, List.mem_map] at h
    obtain ⟨l, ⟨i, _, rfl⟩, h⟩ := h
    rcases List.mem_cons.1 h with h | h
    · simp at h
    · exact itoa_free _ 10 (by decide) h
theorem nums_of (x : Ins) (hx : x.Wf) (m : Nat) : nums ((List.range m).map fun i => Lib.itoa (x.num i)) = some ((List.range m).map x.num) := by
  induction m with
  | zero => rfl
  | succ m ih =>
    rw [List.range_succ, List.map_append, List.map_append]
    exact nums_snoc ih (numR_of (hx.num m))
theorem opK_findK {op : Int} (h : isOp op) : findK (wordOf op) = opK op := by
  have h1 : 1 ≤ opK op := by rw [opK_some h]; obtain ⟨h1, h2⟩ := h; omega
  exact findK_word h1 (opK_lt op)
/-- What is left out is 0. -/
theorem mkI_of {x : Ins} {many : Int} (h : mayE x many = 0) : mkI (opK x.op) ((List.range (manyOf x.op)).map x.num) = x := by
  obtain ⟨ho, hk⟩ := mayE_zero.1 h
  have hop : ((opK x.op : Nat) : Int) = x.op := by rw [opK_some ho]; obtain ⟨h1, h2⟩ := ho; omega
  have hz : ∀ k, k < 4 → manyOf x.op ≤ k → x.num k = 0 := fun k h4 hm => by
    have := hk k h4
    unfold okN sortK at this
    rw [if_pos (show manyK (opK x.op) ≤ k from hm)] at this
    simpa [fitsB] using this
  have hg : ∀ k, k < 4 → ((List.range (manyOf x.op)).map x.num).getD k 0 = x.num k := fun k h4 => by
    rw [List.getD_eq_getElem?_getD, List.getElem?_map]
    by_cases hm : k < manyOf x.op
    · rw [List.getElem?_range hm]; rfl
    · rw [List.getElem?_eq_none (by simp; omega)]
      exact (hz k h4 (by omega)).symm
  unfold mkI
  rw [hop, hg 0 (by omega), hg 1 (by omega), hg 2 (by omega), hg 3 (by omega)]
  rfl
theorem rdLine_of {x : Ins} (hx : x.Wf) {many : Int} (h : mayE x many = 0) : rdLine (lineL x) many = (x, 0) := by
  have ho := (mayE_zero.1 h).1
  have h1 : 1 ≤ opK x.op := by rw [opK_some ho]; obtain ⟨h1, h2⟩ := ho; omega
  unfold rdLine
  rw [lineL_parts]
  have e1 : (lineP x (manyOf x.op)).headD [] = wordOf x.op := rfl
  have e2 : (lineP x (manyOf x.op)).tail = (List.range (manyOf x.op)).map fun i => Lib.itoa (x.num i) := rfl
  have e3 : (lineP x (manyOf x.op)).length = 1 + manyK (opK x.op) := by simp [lineP, manyOf]; omega
  rw [e1, e2, e3, opK_findK ho, nums_of x hx, if_neg (by omega)]
  simp only [mkI_of h, h, if_true]

/-! Programs. -/
theorem count_print : ∀ (p : List Ins), Lib.countByte (printL p) 10 = p.length
  | [] => rfl
  | x :: p => by
    have ih := count_print p
    have h0 : List.count (10 : UInt8) (lineL x) = 0 := List.count_eq_zero.2 (lineL_free x)
    unfold Lib.countByte at ih ⊢
    have e : printL (x :: p) = (lineL x ++ [10]) ++ printL p := rfl
    rw [e, List.count_append, List.count_append, h0, ih]
    simp; omega
theorem parseGo_print {many : Int} : ∀ (q p : List Ins) (f : Nat), (∀ x ∈ q, x.Wf) → (∀ x ∈ q, mayE x many = 0) → q.length < f → parseGo many f p (printL q) = (p ++ q, 0, 0)
  | [], p, f, _, _, hf => by
    obtain ⟨f, rfl⟩ : ∃ g, f = g + 1 := ⟨f - 1, by simp at hf; omega⟩
    rw [show printL [] = [] from rfl, parseGo_end, List.append_nil]
  | x :: q, p, f, hw, hm, hf => by
    obtain ⟨f, rfl⟩ : ∃ g, f = g + 1 := ⟨f - 1, by simp at hf; omega⟩
    have e : printL (x :: q) = lineL x ++ 10 :: printL q := by
      show (lineL x ++ [10]) ++ printL q = _
      simp
    have hr := rdLine_of (hw x (by simp)) (hm x (by simp))
    have hc := cut_hit (r := printL q) (lineL_free x)
    rw [e, parseGo_ok (by simp) (by rw [hc]) (by rw [hc, hr]), hc, hr]
    dsimp only
    rw [parseGo_print q (p ++ [x]) f (fun y hy => hw y (by simp [hy])) (fun y hy => hm y (by simp [hy])) (by simp at hf; omega)]
    simp
theorem printL_long : ∀ (p : List Ins), p.length ≤ (printL p).length
  | [] => Nat.le_refl _
  | x :: p => by
    have := printL_long p
    have e : printL (x :: p) = (lineL x ++ [10]) ++ printL p := rfl
    rw [e]
    simp only [List.length_append, List.length_cons, List.length_nil]
    omega
/-- Parse of Print is the program. -/
theorem back_parse {p : List Ins} (hw : ∀ x ∈ p, x.Wf) (h : (checkP p).2 = 0) : parseR (printL p) = (p, 0, 0) := by
  obtain ⟨h1, h2⟩ := (checkP_iff p).1 h
  unfold parseR
  rw [count_print, if_neg (by omega)]
  have := printL_long p
  exact parseGo_print p [] _ hw h2 (by omega)

theorem findK_cases (t : Bs) : findK t = 0 ∨ (1 ≤ findK t ∧ findK t < 16 ∧ wordK (findK t) = t) := by
  by_cases h : ∃ k, 1 ≤ k ∧ k < 16 ∧ wordK k = t
  · obtain ⟨k, h1, h2, rfl⟩ := h
    rw [findK_word h1 h2]
    exact .inr ⟨h1, h2, rfl⟩
  · exact .inl (findK_miss fun j h1 h2 h3 => h ⟨j, h1, h2, h3⟩)
theorem nums_map {l : List Bs} {vs : List Int} (h : nums l = some vs) : l = vs.map Lib.itoa := by
  induction l generalizing vs with
  | nil => simp [nums] at h; subst h; rfl
  | cons a l ih =>
    simp only [nums] at h
    cases ha : numR a with
    | none => simp [ha] at h
    | some x =>
      cases hl : nums l with
      | none => simp [ha, hl] at h
      | some xs =>
        simp [ha, hl] at h
        subst h
        rw [List.map_cons, numR_itoa ha, ← ih hl]
theorem rdLine_no {t w : Bs} {many : Int} (hh : (parts t).headD [] = w) (h : findK w = 0 ∨ (parts t).length ≠ 1 + manyK (findK w)) : rdLine t many = (zeroI, 15) := by
  unfold rdLine; rw [hh, if_pos h]
theorem rdLine_nan {t w : Bs} {many : Int} (hh : (parts t).headD [] = w) (h : ¬ (findK w = 0 ∨ (parts t).length ≠ 1 + manyK (findK w))) (hn : nums (parts t).tail = none) : rdLine t many = (zeroI, 15) := by
  unfold rdLine; rw [hh, if_neg h, hn]
theorem rdLine_yes {t w : Bs} {many : Int} {vs : List Int} (hh : (parts t).headD [] = w) (h : ¬ (findK w = 0 ∨ (parts t).length ≠ 1 + manyK (findK w))) (hn : nums (parts t).tail = some vs) :
    rdLine t many = if mayE (mkI (findK w) vs) many = 0 then (mkI (findK w) vs, 0) else (zeroI, mayE (mkI (findK w) vs) many) := by
  unfold rdLine; rw [hh, if_neg h, hn]
/-- An instruction that was read has that line. -/
theorem rdLine_inv {t : Bs} {many : Int} (h : (rdLine t many).2 = 0) : lineL (rdLine t many).1 = t ∧ mayE (rdLine t many).1 many = 0 ∧ (rdLine t many).1.Wf := by
  have hj := parts_join t
  have hp := parts_pos t
  cases hps : parts t with
  | nil => rw [hps] at hp; simp at hp
  | cons w r =>
    have hh : (parts t).headD [] = w := by rw [hps]; rfl
    have htl : (parts t).tail = r := by rw [hps]; rfl
    have hln : (parts t).length = r.length + 1 := by rw [hps]; rfl
    by_cases hc : findK w = 0 ∨ (parts t).length ≠ 1 + manyK (findK w)
    · rw [rdLine_no hh hc] at h; simp at h
    · rw [hps] at hj
      rcases findK_cases w with h0 | ⟨h1, h2, h3⟩
      · exact absurd (.inl h0) hc
      · have hl : r.length = manyK (findK w) := by
          have : ¬ ((parts t).length ≠ 1 + manyK (findK w)) := fun h' => hc (.inr h')
          omega
        cases hn : nums r with
        | none => rw [rdLine_nan hh hc (by rw [htl]; exact hn)] at h; simp at h
        | some vs =>
          rw [rdLine_yes hh hc (by rw [htl]; exact hn)] at h ⊢
          by_cases hm : mayE (mkI (findK w) vs) many = 0
          · rw [if_pos hm]
            have hvl := nums_length hn
            have hop : opK (mkI (findK w) vs).op = findK w := by
              show opK ((findK w : Nat) : Int) = findK w
              rw [opK_some ⟨by omega, by omega⟩]; omega
            have hk4 := manyK_le h2
            refine ⟨?_, hm, ?_⟩
            · unfold lineL wordOf manyOf
              rw [hop]
              have e := lineP_join (mkI (findK w) vs) (manyK (findK w))
              unfold wordOf at e
              rw [hop] at e
              rw [← e]
              unfold lineP wordOf
              rw [hop, h3]
              rw [← hj]
              have hr : r = (List.range (manyK (findK w))).map fun i => Lib.itoa ((mkI (findK w) vs).num i) := by
                rw [nums_map hn]
                refine List.ext_getElem? fun i => ?_
                rw [List.getElem?_map, List.getElem?_map]
                by_cases hi : i < manyK (findK w)
                · rw [List.getElem?_range hi, List.getElem?_eq_getElem (by omega)]
                  simp only [Option.map_some, Option.some.injEq]
                  congr 1
                  have hg : ∀ j, vs.getD j 0 = (mkI (findK w) vs).num j ∨ 4 ≤ j := fun j => by
                    match j with
                    | 0 => exact .inl rfl
                    | 1 => exact .inl rfl
                    | 2 => exact .inl rfl
                    | 3 => exact .inl rfl
                    | j + 4 => exact .inr (by omega)
                  rcases hg i with h' | h'
                  · rw [← h', List.getD_eq_getElem?_getD, List.getElem?_eq_getElem (by omega)]
                    rfl
                  · omega
                · rw [List.getElem?_eq_none (by omega), List.getElem?_eq_none (by simp; omega)]; rfl
              rw [← hr]
            · have hv := nums_inI hn
              have hg : ∀ j, inI (vs.getD j 0) := fun j => by
                rw [List.getD_eq_getElem?_getD]
                cases hj' : vs[j]? with
                | none => exact ⟨by simp, by simp⟩
                | some v => exact hv v (List.mem_of_getElem? hj')
              exact ⟨by show inI ((findK w : Nat) : Int); exact ⟨by omega, by omega⟩, hg 0, hg 1, hg 2, hg 3⟩
          · rw [if_neg hm] at h; exact absurd h hm
theorem parseGo_inv {many : Int} : ∀ (f : Nat) (p : List Ins) (s : Bs), s.length < f → (parseGo many f p s).2.2 = 0 → (parseGo many f p s).2.1 = 0 ∧ ∃ r, (parseGo many f p s).1 = p ++ r ∧ printL r = s ∧ ∀ x ∈ r, mayE x many = 0 ∧ x.Wf
  | 0, p, s, hf, _ => by omega
  | f + 1, p, s, hf, h => by
    by_cases hs : s = []
    · subst hs
      rw [parseGo_end]
      exact ⟨rfl, [], by simp, rfl, by simp⟩
    · cases hc : (Lib.cut s [10]).2.2 with
      | false => rw [parseGo_miss hs hc] at h; simp at h
      | true =>
        by_cases he : (rdLine (Lib.cut s [10]).1 many).2 = 0
        · rw [parseGo_ok hs hc he] at h ⊢
          have hr := cut_rest hc
          obtain ⟨h1, r, h2, h3, h4⟩ := parseGo_inv f _ _ (by omega) h
          obtain ⟨i1, i2, i3⟩ := rdLine_inv he
          refine ⟨h1, (rdLine (Lib.cut s [10]).1 many).1 :: r, by rw [h2]; simp, ?_, fun x hx => ?_⟩
          · have e : printL ((rdLine (Lib.cut s [10]).1 many).1 :: r) = (lineL (rdLine (Lib.cut s [10]).1 many).1 ++ [10]) ++ printL r := rfl
            have := cut_true hc
            rw [e, i1, h3]
            conv => rhs; rw [this]
            simp
          · rcases List.mem_cons.1 hx with rfl | hx
            · exact ⟨i2, i3⟩
            · exact h4 x hx
        · rw [parseGo_bad hs hc he] at h; exact absurd h he
theorem parseGo_err {many : Int} : ∀ (f : Nat) (p : List Ins) (s : Bs), s.length < f → (parseGo many f p s).2.2 ≠ 0 → (parseGo many f p s).1 = [] ∧ 0 < (parseGo many f p s).2.1
  | 0, p, s, hf, _ => by omega
  | f + 1, p, s, hf, h => by
    by_cases hs : s = []
    · subst hs; rw [parseGo_end] at h; simp at h
    · cases hc : (Lib.cut s [10]).2.2 with
      | false => rw [parseGo_miss hs hc]; exact ⟨rfl, by show (0 : Int) < _; simp only; omega⟩
      | true =>
        by_cases he : (rdLine (Lib.cut s [10]).1 many).2 = 0
        · rw [parseGo_ok hs hc he] at h ⊢
          have hr := cut_rest hc
          exact parseGo_err f _ _ (by omega) h
        · rw [parseGo_bad hs hc he]; exact ⟨rfl, by show (0 : Int) < _; simp only; omega⟩
/-- Print of Parse is the text. -/
theorem back_print {t : Bs} (h : (parseR t).2.2 = 0) : (parseR t).2.1 = 0 ∧ (checkP (parseR t).1).2 = 0 ∧ printL (parseR t).1 = t ∧ ∀ x ∈ (parseR t).1, x.Wf := by
  unfold parseR at h ⊢
  split at h
  · simp at h
  · rename_i hc
    rw [if_neg hc]
    obtain ⟨h1, r, h2, h3, h4⟩ := parseGo_inv _ _ _ (by omega) h
    rw [h2, List.nil_append]
    have hcnt : Lib.countByte t 10 = r.length := by rw [← h3]; exact count_print r
    refine ⟨h1, (checkP_iff r).2 ⟨by omega, fun x hx => ?_⟩, h3, fun x hx => (h4 x hx).2⟩
    rw [← hcnt]
    exact (h4 x hx).1
theorem back_err {t : Bs} (h : (parseR t).2.2 ≠ 0) : (parseR t).1 = [] ∧ (0 < (parseR t).2.1 ∨ (parseR t).2.2 = 11) := by
  unfold parseR at h ⊢
  split
  · exact ⟨rfl, .inr rfl⟩
  · rename_i hc
    rw [if_neg hc] at h
    obtain ⟨h1, h2⟩ := parseGo_err _ _ _ (by omega) h
    exact ⟨h1, .inl h2⟩
end Go.Proofs.YtodjiicneijkkaaDoor
