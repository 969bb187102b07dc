/- A ring's things are taken away: clear, take. -/
import Derived.Test.YthamnalpkjjnlaaRingC
import Derived.Laws.IdiomCopy
namespace Go.Proofs.Ythamnalpkjjnlaa
open Go.RowKit Go.Maps

theorem infoInt : (Try.prog.info? 3).map (fun i => (i.zero, i.size, i.bytes)) = some (some (.int .i64 0), 1, 8) := by kernel_rfl
/-- Some places of a list are written. -/
def putAll {α : Type} (l : List α) (i : Nat) : List α → List α
  | [] => l
  | x :: m => putAll (l.set i x) (i + 1) m
theorem putAll_length {α : Type} (m : List α) : ∀ (l : List α) (i : Nat), (putAll l i m).length = l.length := by
  induction m with
  | nil => exact fun _ _ => rfl
  | cons x m ih => exact fun l i => by rw [putAll, ih, List.length_set]
theorem putAll_out {α : Type} (m : List α) : ∀ (l : List α) (i c : Nat), c < i ∨ i + m.length ≤ c → (putAll l i m)[c]? = l[c]? := by
  induction m with
  | nil => exact fun _ _ _ _ => rfl
  | cons x m ih =>
    intro l i c h
    rw [putAll, ih _ _ _ (by simp at h; omega), List.getElem?_set_ne (by simp at h; omega)]
theorem setAll_append (a b : List Value) : ∀ (xs : List Value) (o : Nat), setAll xs o (a ++ b) = setAll (setAll xs o a) (o + a.length) b := by
  induction a with
  | nil => exact fun _ _ => rfl
  | cons x a ih => exact fun xs o => by rw [List.cons_append, setAll, setAll, ih]; simp [Nat.add_comm, Nat.add_left_comm]
theorem flat_putAll {α : Type} {enc : α → List Value} {k : Nat} (hk : ∀ x, (enc x).length = k) (m : List α) : ∀ (l : List α) (i : Nat), i + m.length ≤ l.length → setAll (flat enc l) (i * k) (flat enc m) = flat enc (putAll l i m) := by
  induction m with
  | nil => exact fun _ _ _ => rfl
  | cons x m ih =>
    intro l i h
    simp only [List.length_cons] at h
    rw [flat, setAll_append, flat_setAll hk (by omega), hk, putAll, ← ih _ _ (by rw [List.length_set]; omega), Nat.succ_mul]
theorem setCells_storeAll (b : Nat) (cs : List Value) : ∀ (w : World) (o : Nat), w.setCells b o cs = storeAll w b o cs := by
  induction cs with
  | nil => exact fun _ _ => rfl
  | cons c cs ih => exact fun w o => ih _ _
theorem zeros_flat (n : Nat) : (Builtin.zeroCells (Value.agg #[.int .i64 0, .int .i64 0]).cells n).toList = flat It.cells (List.replicate n zeroIt) := by
  refine List.ext_getElem? fun j => ?_
  have hs : (Builtin.zeroCells (Value.agg #[.int .i64 0, .int .i64 0]).cells n).toList.length = n * 2 := by rw [Array.length_toList, size_zeroCells]; rfl
  by_cases hj : j < n * 2
  · have h1 : (flat It.cells (List.replicate n zeroIt))[j / 2 * 2 + j % 2]? = some (.int .i64 0) := by
      refine flat_get it_len (i := j / 2) (x := zeroIt) (by rw [List.getElem?_replicate, if_pos (by omega)]) ?_
      rcases Nat.mod_two_eq_zero_or_one j with h | h <;> rw [h] <;> rfl
    rw [show j / 2 * 2 + j % 2 = j by omega] at h1
    rw [h1]
    have h2 : (Builtin.zeroCells (Value.agg #[.int .i64 0, .int .i64 0]).cells n)[j]? = some (.int .i64 0) := by
      unfold Builtin.zeroCells
      have : j < n * (Value.agg #[.int .i64 0, .int .i64 0]).cells.size := hj
      simp only [Array.getElem?_map, Array.getElem?_range, this, if_true, Option.map_some, Option.some.injEq]
      rcases Nat.mod_two_eq_zero_or_one j with h | h
      · show (#[Value.int .i64 0, .int .i64 0])[j % 2]! = _
        rw [h]; rfl
      · show (#[Value.int .i64 0, .int .i64 0])[j % 2]! = _
        rw [h]; rfl
    simpa using h2
  · rw [List.getElem?_eq_none (by omega), List.getElem?_eq_none (by rw [flat_length it_len, List.length_replicate]; omega)]

section
variable {B : Nat} {w0 w : World} {Q : World → List Nat → Prop} {L : List (Nat × Obj)}
/-- Some items are cleared. -/
theorem clear_run (hQ : Stable Q) {g n cap i m c : Nat} {P : List It} (h : Holds B w0 (sepR (rowR 66 2 (.slice (some ⟨g, 0, none⟩) n cap) n (flat It.cells P)) Q) w L) (hP : P.length = n) (hm : i + m ≤ n) (ty : TypeId) :
    ∃ w', (Builtin.clear_ #[57] ty #[.slice (some ⟨g, i * 2, none⟩) m c]).run Try.prog w = .ok (.tuple #[]) w' ∧ Holds B w0 (sepR (rowR 66 2 (.slice (some ⟨g, 0, none⟩) n cap) n (flat It.cells (putAll P i (List.replicate m zeroIt)))) Q) w' L := by
  obtain ⟨i1, hj0, hj1, hj2, hj3⟩ := info_parts infoItem
  cases m with
  | zero => exact ⟨w, by simp [Builtin.clear_, run_underlying Try.underlying57], h⟩
  | succ m =>
    have hlen : (flat It.cells (List.replicate (m + 1) zeroIt)).length = (m + 1) * 2 := by rw [flat_length it_len, List.length_replicate]
    have hrow := h.row
    have hst := run_storeCells_cells (P := Try.prog) g (i * 2) (flat It.cells (List.replicate (m + 1) zeroIt)) 0 w (fun j hj => ?_) (fun j hj => ?_) (flat_one it_one _)
    · refine ⟨w.setCells g (i * 2) (flat It.cells (List.replicate (m + 1) zeroIt)), ?_, ?_⟩
      · rw [← zeros_flat] at hst ⊢
        simp only [Nat.add_zero] at hst
        simp [Builtin.clear_, run_underlying Try.underlying57, zeroValue, typeInfo, hj0, hj1, hst]
      · rw [setCells_storeAll]
        have h1 := h.storedAll hQ (flat It.cells (List.replicate (m + 1) zeroIt)) (i * 2)
        rw [flat_putAll it_len _ _ _ (by rw [List.length_replicate]; omega)] at h1
        exact h1
    · rw [hlen] at hj
      have hl : j + i * 2 < (flat It.cells P).length := by rw [flat_length it_len]; omega
      have := hrow.cellAt (j := i * 2 + j) (by omega)
      rw [Nat.add_zero, this, List.getElem?_eq_getElem (by omega)]
      rfl
    · exact hrow.frozenAt _
theorem wpList_clear {P : Program} {ops : Array Oper} {rest : List Oper} {o : Oper} {a : Act} {Q : Exit → Act → World → Prop} (hgd : o.guard = none) (x : Operand) (t : TypeId)
    (ho : o.op = .call { callee := .builtin .clear, args := #[x], argTypes := #[t] }) (vx : Value) (hx : a.eval x = vx)
    (v' : Value) (w' : World) (hr : (Builtin.clear_ #[t] o.type #[vx]).run P w = .ok v' w') (h : wpList P ops Q rest (a.put o.dst v') w') : wpList P ops Q (o :: rest) a w :=
  wpList_plain hgd fun _ hK => by
    unfold Oper.wp execOp
    simp only [ho, resolve, invoke, builtin, Sem.run_bind, Sem.run_pure, Result.andThen_ok, List.map_toArray, List.map_cons, List.map_nil, hx, hr]
    exact hK _ _ h

/-- A piece of the list: nothing, or so many places from one on. -/
def Pc (a : Option Addr) (n : Nat) (A : Option Addr) (m i : Nat) : Prop := (A = none ∧ m = 0 ∧ i = 0) ∨ ∃ g, a = some ⟨g, 0, none⟩ ∧ A = some ⟨g, i * 2, none⟩ ∧ i + m ≤ n
theorem clear_pc (hQ : Stable Q) {a A : Option Addr} {cap i m cc : Nat} {P : List It} (hpc : Pc a P.length A m i) (h : Holds B w0 (sepR (rowR 66 2 (.slice a P.length cap) P.length (flat It.cells P)) Q) w L) (ty : TypeId) :
    ∃ w', (Builtin.clear_ #[57] ty #[.slice A m cc]).run Try.prog w = .ok (.tuple #[]) w' ∧ Holds B w0 (sepR (rowR 66 2 (.slice a P.length cap) P.length (flat It.cells (putAll P i (List.replicate m zeroIt)))) Q) w' L := by
  rcases hpc with ⟨rfl, rfl, rfl⟩ | ⟨g, rfl, rfl, hm⟩
  · exact ⟨w, by simp [Builtin.clear_, run_underlying Try.underlying57], h⟩
  · exact clear_run hQ h rfl hm ty

/-- The two pieces, with what lies in them, and what doesn't. -/
theorem pieces_pc {b : Nat} {rv mv : Value} {a : Option Addr} {c f : Nat} {P S : List It} (hb : w.heap[b]? = some (.cells #[rv, .slice a P.length c, .int .i64 (f : Int), mv] 59)) (hnil : a = none → P.length = 0 ∧ c = 0) (ha : ∀ x, a = some x → ∃ g, x = ⟨g, 0, none⟩)
    (hcap : P.length ≤ c) (hcm : c ≤ maxLen) (h : Win f P S) {i j : Nat} (hij : i ≤ j) (hj : j ≤ S.length) :
    Calls Try.prog 44 #[.pointer (some ⟨b, 0, none⟩), .int .i64 (i : Int), .int .i64 (j : Int)] w fun e w' => ∃ (a1 : Option Addr) (m1 c1 i1 : Nat) (a2 : Option Addr) (m2 c2 i2 : Nat),
      e = .returned (.agg #[.slice a1 m1 c1, .slice a2 m2 c2]) ∧ Pc a P.length a1 m1 i1 ∧ Pc a P.length a2 m2 i2 ∧ m1 ≤ c1 ∧ m2 ≤ c2 ∧ (P.drop i1).take m1 ++ (P.drop i2).take m2 = (S.drop i).take (j - i) ∧ (i2 + m2 ≤ i1 ∨ m2 = 0) ∧
      (∀ k, k < S.length → k < i ∨ j ≤ k → (pl f P.length k < i1 ∨ i1 + m1 ≤ pl f P.length k) ∧ (pl f P.length k < i2 ∨ i2 + m2 ≤ pl f P.length k)) ∧ Frm [] w w' := by
  have h1 := h.first
  have h2 := h.many
  have h3 := h.room
  have h4 := h.f_lt
  by_cases hA : pl f P.length i + (j - i) ≤ P.length
  · have hlt : pl f P.length i < P.length ∨ pl f P.length i = 0 := by unfold pl; split <;> omega
    refine (pieces_one hb hnil hij (by omega) (by omega) h4 (by omega) hcap hcm (by omega) hA hlt).mono ?_
    rintro e w' ⟨rfl, hF⟩
    have hout : ∀ k, k < S.length → k < i ∨ j ≤ k → (pl f P.length k < pl f P.length i ∨ pl f P.length i + (j - i) ≤ pl f P.length k) := fun k hk hik => by
      unfold pl at hA ⊢
      split at hA <;> split <;> (try split) <;> omega
    cases a with
    | none =>
      have := hnil rfl
      refine ⟨none, j - i, c - pl f P.length i, 0, none, 0, 0, 0, rfl, .inl ⟨rfl, by omega, rfl⟩, .inl ⟨rfl, rfl, rfl⟩, by omega, by omega, ?_, .inr rfl, fun k hk => by omega, hF⟩
      have hP : P = [] := List.eq_nil_of_length_eq_zero this.1
      have hS : S = [] := List.eq_nil_of_length_eq_zero (by omega)
      rw [hP, hS]; simp
    | some x =>
      obtain ⟨g, rfl⟩ := ha x rfl
      refine ⟨some ⟨g, pl f P.length i * 2, none⟩, j - i, c - pl f P.length i, pl f P.length i, none, 0, 0, 0, by simp [cutA, addr_add], .inr ⟨g, rfl, rfl, hA⟩, .inl ⟨rfl, rfl, rfl⟩, by omega, by omega, ?_, .inr rfl, fun k hk hik => ⟨hout k hk hik, by omega⟩, hF⟩
      rw [List.take_zero, List.append_nil]
      exact win_one h hij hj hA
  · obtain ⟨q1, q2, q3, q4, q5⟩ := win_wrap h hij hj hA
    refine (pieces_two hb hij (by omega) (by omega) h4 (by omega) hcap hcm (by omega) hA (by omega)).mono ?_
    rintro e w' ⟨rfl, hF⟩
    cases a with
    | none => have := hnil rfl; omega
    | some x =>
      obtain ⟨g, rfl⟩ := ha x rfl
      refine ⟨some ⟨g, pl f P.length i * 2, none⟩, P.length - pl f P.length i, c - pl f P.length i, pl f P.length i, some ⟨g, 0, none⟩, pl f P.length j, c, 0, by simp [cutA, addr_add], .inr ⟨g, rfl, rfl, by omega⟩, .inr ⟨g, rfl, by simp, by omega⟩, by omega, by omega, ?_, .inl (by omega), fun k hk hik => ?_, hF⟩
      · rw [List.take_of_length_le (by rw [List.length_drop]; omega), List.drop_zero]
        exact win_two h hij hj hA
      · unfold pl
        split <;> split <;> (try split) <;> omega

theorem putAll_drop {P : List It} {i1 m1 i2 m2 : Nat} (h : i2 + m2 ≤ i1 ∨ m2 = 0) (z : List It) (_hz : z.length = m1) : ((putAll P i1 z).drop i2).take m2 = (P.drop i2).take m2 := by
  refine List.ext_getElem? fun k => ?_
  rw [List.getElem?_take, List.getElem?_take]
  split
  · rw [List.getElem?_drop, List.getElem?_drop, putAll_out _ _ _ _ (by omega)]
  · rfl

def valsOf (l : List It) : List Int := l.map It.v
abbrev intR (v : Value) (n : Nat) (l : List Int) : World → List Nat → Prop := rowR 3 1 v n (flat intEnc l)
/-- How far take has come: what it has told, and the list, behind k pieces. -/
def tkOut (P : List It) (i1 m1 i2 m2 : Nat) : Nat → List Int
  | 0 => []
  | 1 => valsOf ((P.drop i1).take m1)
  | _ => valsOf ((P.drop i1).take m1) ++ valsOf ((P.drop i2).take m2)
def tkP (P : List It) (i1 m1 i2 m2 : Nat) : Nat → List It
  | 0 => P
  | 1 => putAll P i1 (List.replicate m1 zeroIt)
  | _ => putAll (putAll P i1 (List.replicate m1 zeroIt)) i2 (List.replicate m2 zeroIt)
theorem tkP_len (P : List It) (i1 m1 i2 m2 k : Nat) : (tkP P i1 m1 i2 m2 k).length = P.length := by
  match k with
  | 0 => rfl
  | 1 => exact putAll_length _ _ _
  | _ + 2 => exact (putAll_length _ _ _).trans (putAll_length _ _ _)

/-- What take does. -/
def TakeDoes (B : Nat) (w0 : World) (Q : World → List Nat → Prop) (L : List (Nat × Obj)) (b room : Nat) (a : Option Addr) (c f : Nat) (P S : List It) (i j : Nat) (e : Ending) (w' : World) : Prop :=
  ∃ (la : Option Addr) (lc : Nat) (P' : List It), e = .returned (.slice la (j - i) lc) ∧ P'.length = P.length ∧ (∀ k, k < S.length → k < i ∨ j ≤ k → P'[pl f P.length k]? = P[pl f P.length k]?) ∧
    Holds B w0 (sepR (intR (.slice la (j - i) lc) (j - i) (valsOf ((S.drop i).take (j - i)))) (sepR (ring0 b room a c f (S.length - (j - i)) P') Q)) w' L

set_option maxHeartbeats 4000000 in
set_option maxRecDepth 100000 in
theorem take_goes (hQ : Stable Q) {b room : Nat} {a : Option Addr} {c f : Nat} {P S : List It} (h : Holds B w0 (sepR (ring0 b room a c f S.length P) Q) w L) (hw : Win f P S) {i j : Nat} (hij : i ≤ j) (hj : j ≤ S.length) :
    Calls Try.prog 34 #[.pointer (some ⟨b, 0, none⟩), .int .i64 (i : Int), .int .i64 (j : Int)] w (TakeDoes B w0 Q L b room a c f P S i j) := by
  have hm := hw.many
  have hr := hw.room
  have hs0 : ∀ (m : Nat) (P : List It), Stable (sepR (ring0 b room a c f m P) Q) := fun m P => sepR_stable (ring0_stable _ _ _ _ _ _ _) hQ
  have e1 : IntKind.i64.wrap ((j : Int) - (i : Int)) = ((j - i : Nat) : Int) := by rw [IntWalk.i64_in _ (by omega)]; omega
  obtain ⟨d, hd⟩ : ∃ d : Nat, j - i = d := ⟨_, rfl⟩
  rw [hd] at e1
  have hdl : d ≤ 4096 := by omega
  have Hd := Lib.hid hd
  have HW := Lib.hid hw
  have H0 := Lib.hid h
  obtain ⟨i0, hi0, hi1, hi2, hi3⟩ := info_parts infoInt
  clear h hw hd
  go_enter Try.func34, Try.ntmps34
  go_wp2_with (at_make; refine Stop.of ?_)
  refine Stop.go ?_
  refine wpList_make_own _ rfl _ _ 46 rfl w.heap.size 3 i0 (.int .i64 0) 1 Try.underlying46 hi0 hi1 hi2 .i64 .i64 _ d rfl rfl rfl (by rw [hi3]; omega) (by unfold maxLen; omega) (Nat.le_refl _) ?_
  intro w1 hown hgrow
  have h1 := (H0.out.newRow (hs0 _ _) hown hgrow).conv Conv.exch
  have hrow := h1.rRow.row
  have hnil : a = none → P.length = 0 ∧ c = 0 := fun ha => row_nil hrow ha
  have ha : ∀ x, a = some x → ∃ g, x = ⟨g, 0, none⟩ := fun x hx => by
    rcases row_nil_or hrow with ⟨h2, _⟩ | ⟨g, _, h2, _⟩
    · simp only [Value.slice.injEq] at h2; rw [hx] at h2; exact absurd h2.1 (by simp)
    · simp only [Value.slice.injEq] at h2; rw [hx] at h2; exact ⟨g, Option.some.inj h2.1⟩
  have hcap : P.length ≤ c ∧ c ≤ maxLen := by
    have := SlAt.of_row it_len hrow rfl
    exact ⟨this.2.1, this.2.2.1⟩
  have hpc := pieces_pc h1.rBox.theBox hnil ha hcap.1 hcap.2 HW.out hij hj
  have H1 := Lib.hid h1
  have Hpc := Lib.hid hpc
  have Hnil := Lib.hid hnil
  have hcc := hcap.1
  clear hown hgrow h1 hrow hnil ha hcap hpc H0
  go_wp2_with fail
  refine Hpc.out.mono ?_
  rintro e w2 ⟨A1, m1, c1, i1, A2, m2, c2, i2, rfl, hp1, hp2, hmc1, hmc2, hll, hdis, hout, hF⟩
  have hsq : Stable (sepR (ring0 b room a c f S.length P) (sepR (intR (.slice (some ⟨w.heap.size, 0, none⟩) 0 d) 0 []) Q)) := sepR_stable (ring0_stable _ _ _ _ _ _ _) (sepR_stable (rowR_stable _ _ _ _ _) hQ)
  have h2 := H1.out.made hsq hF
  have H2 := Lib.hid h2
  have Hp1 := Lib.hid hp1
  have Hp2 := Lib.hid hp2
  have Hll := Lib.hid hll
  have Hdis := Lib.hid hdis
  have Hout := Lib.hid hout
  clear hp1 hp2 hll hdis hout hF h2 Hpc H1 hsq
  go_wp2_with fail
  go_loopw [7, 20] (fun s kv wr => ∃ (k : Nat) (la : Option Addr) (lc : Nat), k ≤ 2 ∧ kv = .int .i64 (k : Int) ∧ s = .slice la (tkOut P i1 m1 i2 m2 k).length lc ∧
    Holds B w0 (sepR (ring0 b room a c f S.length (tkP P i1 m1 i2 m2 k)) (sepR (intR (.slice la (tkOut P i1 m1 i2 m2 k).length lc) (tkOut P i1 m1 i2 m2 k).length (tkOut P i1 m1 i2 m2 k)) Q)) wr L) (fun _ kv _ => 2 - (intOf kv).toNat)
  case atStart => exact ⟨0, _, _, by omega, rfl, rfl, H2.out⟩
  case round =>
    obtain ⟨k, la, lc, hk, rfl, rfl, hh⟩ := hrel
    by_cases hk2 : k < 2
    · obtain ⟨A, m, cc, ik, hix, hpk, hmc, hon, hpn⟩ : ∃ (A : Option Addr) (m cc ik : Nat), (∀ w, (Instr.index 72 (.agg #[.slice A1 m1 c1, .slice A2 m2 c2]) (.int .i64 (k : Int))).run Try.prog w = .ok (.slice A m cc) w) ∧ Pc a P.length A m ik ∧ m ≤ cc ∧
          tkOut P i1 m1 i2 m2 (k + 1) = tkOut P i1 m1 i2 m2 k ++ valsOf (((tkP P i1 m1 i2 m2 k).drop ik).take m) ∧ tkP P i1 m1 i2 m2 (k + 1) = putAll (tkP P i1 m1 i2 m2 k) ik (List.replicate m zeroIt) := by
        obtain rfl | rfl : k = 0 ∨ k = 1 := by omega
        · exact ⟨A1, m1, c1, i1, fun w => by kernel_rfl, Hp1.out, hmc1, rfl, rfl⟩
        · refine ⟨A2, m2, c2, i2, fun w => by kernel_rfl, Hp2.out, hmc2, ?_, rfl⟩
          show _ ++ _ = _
          rw [tkP, putAll_drop (m1 := m1) Hdis.out _ (by simp)]
          rfl
      have HH := Lib.hid hh
      have Hpk := Lib.hid hpk
      have Hon := Lib.hid hon
      have Hpn := Lib.hid hpn
      clear hh hpk hon hpn
      have kk0 : decide ((k : Int) < 2) = true := by rw [decide_eq_true_eq]; omega
      have hPl := tkP_len P i1 m1 i2 m2 k
      have hol : (tkOut P i1 m1 i2 m2 k).length ≤ 8192 := by
        have := Hp1.out; have := Hp2.out
        match k with
        | 0 => exact Nat.zero_le _
        | 1 => simp only [tkOut, valsOf, List.length_map, List.length_take, List.length_drop]; omega
        | _ + 2 => simp only [tkOut, valsOf, List.length_append, List.length_map, List.length_take, List.length_drop]; omega
      generalize tkOut P i1 m1 i2 m2 k = out0 at HH Hon hol ⊢
      generalize tkP P i1 m1 i2 m2 k = P0 at HH Hon Hpn hPl ⊢
      have HPl := Lib.hid hPl
      have hmP : m ≤ P.length := by
        rcases Hpk.out with ⟨_, h0, _⟩ | ⟨g, _, _, h0⟩ <;> omega
      clear hPl
      have hs0' : ∀ (a : Option Addr) (P : List It), Stable (sepR (ring0 b room a c f S.length P) Q) := fun a P => sepR_stable (ring0_stable _ _ _ _ _ _ _) hQ
      go_wp2_with fail
      go_loopw [7, 25] (fun s qv wr => ∃ (q : Nat) (la : Option Addr) (lc : Nat) (out : List Int), q ≤ m ∧ qv = .int .i64 (q : Int) ∧ out = out0 ++ valsOf (((P0.drop ik).take m).take q) ∧ s = .slice la out.length lc ∧
        Holds B w0 (sepR (ring0 b room a c f S.length P0) (sepR (intR (.slice la out.length lc) out.length out) Q)) wr L) (fun _ qv _ => m - (intOf qv).toNat)
      case atStart => exact ⟨0, la, lc, out0, Nat.zero_le _, rfl, by simp [valsOf], rfl, HH.out⟩
      case round =>
        obtain ⟨q, la, lc, out, hq, rfl, ho, rfl, hh⟩ := hrel
        by_cases hqm : q < m
        · obtain ⟨g, ha, hA, him⟩ : ∃ g, a = some ⟨g, 0, none⟩ ∧ A = some ⟨g, ik * 2, none⟩ ∧ ik + m ≤ P.length := by
            rcases Hpk.out with ⟨_, h0, _⟩ | h0
            · omega
            · exact h0
          subst ha
          subst hA
          obtain ⟨x, hx⟩ : ∃ x, P0[ik + q]? = some x := ⟨_, List.getElem?_eq_getElem (by rw [HPl.out]; omega)⟩
          have hrr := hh.rRow
          have p0 := hrr.cellOf it_len hx (j := 0) rfl
          have p1 := hrr.cellOf it_len hx (j := 1) rfl
          rw [Nat.add_zero] at p0
          rw [show (ik + q) * 2 = ik * 2 + q * 2 by omega] at p0 p1
          have hgl := World.block_lt_of_cell? _ _ p0
          dsimp only at hgl
          have q0 : (0 : Int) ≤ (q : Int) := by omega
          have q1 : (q : Int) < (m : Int) := by omega
          have ho2 : out ++ [x.v] = out0 ++ valsOf (((P0.drop ik).take m).take (q + 1)) := by
            rw [ho, List.append_assoc]
            congr 1
            rw [List.take_add_one, List.getElem?_take, if_pos hqm, List.getElem?_drop, hx]
            simp [valsOf]
          have hol2 : out.length ≤ 20000 := by
            rw [ho]
            simp only [valsOf, List.length_append, List.length_map, List.length_take]; omega
          have HH2 := Lib.hid hh
          have Ho2 := Lib.hid ho2
          clear hh ho ho2 hrr hx
          go_wp2_with (at_builtin; refine Stop.of ?_)
          refine Stop.go ?_
          have hsR : Stable (sepR (intR (.slice la out.length lc) out.length out) (sepR (ring0 b room (some ⟨g, 0, none⟩) c f S.length P0) Q)) := sepR_stable (rowR_stable _ _ _ _ _) (hs0' _ _)
          have h3 := ((HH2.out.conv Conv.exch).made hsR ((Frm.refl _ _).alloc (.cells #[.int .i64 x.at_, .int .i64 x.v] 66))).made hsR ((Frm.refl _ _).alloc (.cells #[.int .i64 x.v] 3))
          have H3 := Lib.hid h3
          clear h3
          refine wpList_append_foot _ rfl _ _ 46 rfl 3 i0 (.int .i64 0) 1 8 Try.underlying46 hi0 hi1 hi2 hi3 rfl (by decide) (.slice la out.length lc) out.length (flat intEnc out) rfl H3.out.row ⟨wr.heap.size + 1, 0, none⟩ 1 1 [.int .i64 x.v] rfl rfl (cells_at _ [.int .i64 x.v] 3 _ (by simp)) (fun u hu => by simp at hu; subst hu; rfl) (by unfold maxLen; omega) (by omega) ?_
          intro a3 c3 w3 hown hF hnew
          have h4 := (H3.out.appended (hs0' _ _) hown hF hnew).conv Conv.exch
          have H4 := Lib.hid h4
          clear hown hF hnew h4 H3 HH2 p0 p1
          go_wp2_with fail
          go_roundw
          case rel =>
            refine ⟨q + 1, a3, c3, out ++ [x.v], by omega, by first | rfl | simp, Ho2.out, by simp, ?_⟩
            have h5 := H4.out
            unfold intR
            rw [List.length_append, flat_append]
            exact h5
          case measure => simp [intOf]; omega
        · obtain rfl : q = m := by omega
          have ho2 : out = tkOut P i1 m1 i2 m2 (k + 1) := by
            rw [Hon.out, ho]
            congr 2
            rw [List.take_of_length_le (by rw [List.length_take]; omega)]
          have Hoe := Lib.hid ho2
          obtain ⟨w3, hrun, h3⟩ := clear_pc (cc := cc) (sepR_stable (boxR_stable _ _ _) (sepR_stable (rowR_stable _ _ _ _ _) hQ)) (HPl.out ▸ Hpk.out) (hh.rRow) 0
          have Hrun := Lib.hid hrun
          have H3 := Lib.hid h3
          clear hh ho ho2 hrun h3
          go_wp2_with (refine wpList_clear rfl _ _ rfl _ rfl _ _ Hrun.out ?_)
          go_roundw
          case rel =>
            refine ⟨k + 1, la, lc, by omega, by simp, by rw [Hoe.out], ?_⟩
            rw [← Hoe.out, Hpn.out]
            have h4 := H3.out
            rw [← putAll_length (List.replicate q zeroIt) P0 ik] at h4
            exact h4.rRow'
          case measure => simp [intOf]; omega
    · obtain rfl : k = 2 := by omega
      have ho2 : tkOut P i1 m1 i2 m2 2 = valsOf ((S.drop i).take (j - i)) := by
        rw [← Hll.out]
        simp [tkOut, valsOf]
      have hl2 : (tkOut P i1 m1 i2 m2 2).length = d := by
        rw [ho2]
        have := Hd.out
        simp only [valsOf, List.length_map, List.length_take, List.length_drop]; omega
      have hb := hh.rBox.theBox
      obtain ⟨c0, c1', c2', c3⟩ := cells4 hb
      have fz : ∀ k, wr.frozen? ⟨b, k, none⟩ = false := fun k => frozen_of_obj hb k
      have hl := lt_of_obj hb
      have hdS : d ≤ S.length := by have := Hd.out; omega
      have e3 : IntKind.i64.wrap ((S.length : Int) - (d : Int)) = ((S.length - d : Nat) : Int) := by rw [IntWalk.i64_in _ (by omega)]; omega
      have hbp := hh.rBox.boxPut (sepR_stable (rowR_stable _ _ _ _ _) (sepR_stable (rowR_stable _ _ _ _ _) hQ)) 3 (.int .i64 ((S.length - d : Nat) : Int))
      rw [hl2] at hbp
      rw [ho2] at hbp
      have HH := Lib.hid hbp
      have Hl2 := Lib.hid hl2
      clear hh hbp ho2 hl2 hb c0 c1' c2'
      go_wp2_with fail
      go_ret
      have hd := Hd.out
      subst hd
      refine ⟨la, lc, tkP P i1 m1 i2 m2 2, by rw [← Hl2.out]; rfl, tkP_len _ _ _ _ _ _, fun k hk hik => ?_, ?_⟩
      · obtain ⟨o1, o2⟩ := Hout.out k hk hik
        show (putAll (putAll P i1 (List.replicate m1 zeroIt)) i2 (List.replicate m2 zeroIt))[pl f P.length k]? = _
        rw [putAll_out _ _ _ _ (by rw [List.length_replicate]; exact o2), putAll_out _ _ _ _ (by rw [List.length_replicate]; exact o1)]
      · exact (HH.out.rBox').conv Conv.exch
end
end Go.Proofs.Ythamnalpkjjnlaa
