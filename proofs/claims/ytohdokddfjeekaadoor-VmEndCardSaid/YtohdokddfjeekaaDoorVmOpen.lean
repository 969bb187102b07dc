/- What comes in to a law of package vm: a case, instructions, a key; what the listed table holds. -/
import Derived.Test.YtohdokddfjeekaaDoorVmF
import Derived.Test.YtohdokddfjeekaaDoorRows
import Derived.Test.YtohdokddfjeekaaDoorTie
import Derived.Test.YtohdokddfjeekaaDoorCards
import Derived.Test.YtohdokddfjeekaaDoorOpen2
import Derived.ProofKit
import Derived.OpenShut
import Derived.LaidMore
import Derived.Lay
import Derived.SevenTiedAt
import Derived.Stop.Joined
import Derived.Shelf.Vars
import Derived.HandedShaped
namespace Go.Proofs.YtohdokddfjeekaaDoor
open Go.RowKit Go.ChangeShapes Go.WideShapes Go.ChangeAt Go.Deep

theorem own : ownKnob Tryd.prog.godebug = none := by kernel_rfl
theorem laidOut : laidOutB Tryd.prog = true := by kernel_rfl
theorem tx_data (s : ByteArray) : tx s.data.toList = s := rfl
theorem plain_Int : Plain Tryd.prog 3 [.int .i64] := plain_int Tryd.underlying3
theorem plain_Instr : Plain Tryd.prog 47 [.int .i64, .int .i64, .int .i64, .int .i64, .int .i64] := by
  refine plain_struct [[.int .i64], [.int .i64], [.int .i64], [.int .i64], [.int .i64]] Tryd.underlying47 (by kernel_rfl) rfl ?_
  intro i f ks h1 h2
  match i with
  | 0 => cases h1; cases h2; exact ⟨plain_Int, rfl, by kernel_rfl⟩
  | 1 => cases h1; cases h2; exact ⟨plain_Int, rfl, by kernel_rfl⟩
  | 2 => cases h1; cases h2; exact ⟨plain_Int, rfl, by kernel_rfl⟩
  | 3 => cases h1; cases h2; exact ⟨plain_Int, rfl, by kernel_rfl⟩
  | 4 => cases h1; cases h2; exact ⟨plain_Int, rfl, by kernel_rfl⟩
  | i + 5 => simp at h2
theorem plain_Key : Plain Tryd.prog 26 [.int .i64, .int .i64, .int .i64, .int .i64] := by
  refine plain_struct [[.int .i64], [.int .i64], [.int .i64], [.int .i64]] Tryd.underlying26 (by kernel_rfl) rfl ?_
  intro i f ks h1 h2
  match i with
  | 0 => cases h1; cases h2; exact ⟨plain_Int, rfl, by kernel_rfl⟩
  | 1 => cases h1; cases h2; exact ⟨plain_Int, rfl, by kernel_rfl⟩
  | 2 => cases h1; cases h2; exact ⟨plain_Int, rfl, by kernel_rfl⟩
  | 3 => cases h1; cases h2; exact ⟨plain_Int, rfl, by kernel_rfl⟩
  | i + 4 => simp at h2
theorem plain_Event : Plain Tryd.prog 28 [.int .i64, .int .i64, .int .i64, .int .i64, .int .i64, .int .i64, .int .i64] := by
  refine plain_struct [[.int .i64, .int .i64, .int .i64, .int .i64], [.int .i64], [.int .i64], [.int .i64]] Tryd.underlying28 (by kernel_rfl) rfl ?_
  intro i f ks h1 h2
  match i with
  | 0 => cases h1; cases h2; exact ⟨plain_Key, rfl, by kernel_rfl⟩
  | 1 => cases h1; cases h2; exact ⟨plain_Int, rfl, by kernel_rfl⟩
  | 2 => cases h1; cases h2; exact ⟨plain_Int, rfl, by kernel_rfl⟩
  | 3 => cases h1; cases h2; exact ⟨plain_Int, rfl, by kernel_rfl⟩
  | i + 4 => simp at h2
theorem plain_State : Plain Tryd.prog 24 [.int .i64, .int .i64, .int .i64, .int .i64] :=
  plain_array (n := 4) (ks := [.int .i64]) Tryd.underlying24 (by kernel_rfl) (by kernel_rfl) plain_Int

theorem makes_Instr : Makes [.int .i64, .int .i64, .int .i64, .int .i64, .int .i64] Ins.enc (fun _ => True) := fun vs h => by
  obtain ⟨ns, rfl, hl, _⟩ := fits_ints (n := 5) h
  match ns, hl with
  | [o, a, b, c, d], _ => exact ⟨⟨o, a, b, c, d⟩, rfl, trivial⟩
section
variable {H : Type} {enc : TypeId × Value → H} {w : World} {d : DataW H} {ps : List MemPlace} {base : Nat} {spare : Nat → Bool} {held : Bool}
theorem open_ins {a : Option Addr} {n cap : Nat} (h : DataW.Trod enc Tryd.prog w base spare held 22 (.slice a n cap) d ps) : ∃ l, Ins.at_ w a n cap l := by
  obtain ⟨l, hl, _⟩ := open_slAt (ks := [.int .i64, .int .i64, .int .i64, .int .i64, .int .i64]) Tryd.underlying22 (by kernel_rfl) plain_Instr (by decide) makes_Instr h
  exact ⟨l, hl⟩
theorem open_key {r : Reach} {b0 : Nat} {v : Value} (hv : Value.okWide Tryd.prog w r b0 26 v) (h : DataW.Trod enc Tryd.prog w base spare held 26 v d ps) : ∃ a b c e : Int, v = .agg #[.int .i64 a, .int .i64 b, .int .i64 c, .int .i64 e] := by
  obtain ⟨cs, rfl, hc⟩ := okWide_struct Tryd.underlying26 hv
  obtain ⟨fuel, hf⟩ := h
  have hk := plain_Key H enc w base spare held fuel _ _ hf
  obtain ⟨ns, hn, hl, _⟩ := fits_ints (n := 4) (vs := cs.toList) hk
  match ns, hl with
  | [a, b, c, e], _ => exact ⟨a, b, c, e, by rw [← Array.toArray_toList (xs := cs), hn]; rfl⟩

theorem open_case {r : Reach} {b0 : Nat} {v : Value} (hv : Value.okWide Tryd.prog w r b0 30 v) (h : DataW.Trod enc Tryd.prog w base spare held 30 v d ps) :
    ∃ (a : Option Addr) (n c : Nat) (t : Nat → Int) (e : Ev) (fan : Int) (p : List Ins), v = caseV a n c t e fan ∧ Ins.at_ w a n c p ∧ (a = none → n = 0 ∧ c = 0) ∧ (Lit.int .i64 fan).wf = true := by
  obtain ⟨cs, rfl, _⟩ := okWide_struct Tryd.underlying30 hv
  obtain ⟨fuel, hf⟩ := h
  obtain ⟨xs, m, _, _, hlen, hxl, hg⟩ := DataW.trod_struct Tryd.underlying30 hf
  have hC : Tryd.prog.cellsOf 30 = 13 := by kernel_rfl
  rw [hC] at hlen
  simp only [Value.cells] at hlen hg
  have g0 := hg 0 _ rfl
  have g1 := hg 1 _ rfl
  have g2 := hg 2 _ rfl
  have g3 := hg 3 _ rfl
  match xs, hxl, g0, g1, g2, g3 with
  | [x0, x1, x2, x3], _, g0, g1, g2, g3 =>
    obtain ⟨l⟩ := cs
    match l, hlen, g0, g1, g2, g3 with
    | [z0, z1, z2, z3, z4, z5, z6, z7, z8, z9, z10, z11, z12], _, g0, g1, g2, g3 =>
      simp only [List.getElem?_cons_zero, List.getElem?_cons_succ] at g0 g1 g2 g3
      have g0' : DataW.trod enc Tryd.prog w base spare held m 22 [z0] = some x0 := g0
      have g1' : DataW.trod enc Tryd.prog w base spare held m 24 [z1, z2, z3, z4] = some x1 := g1
      have g2' : DataW.trod enc Tryd.prog w base spare held m 28 [z5, z6, z7, z8, z9, z10, z11] = some x2 := g2
      have g3' : DataW.trod enc Tryd.prog w base spare held m 3 [z12] = some x3 := g3
      obtain ⟨fan, e3, _, hwf⟩ := DataW.trod_int Tryd.underlying3 g3'
      simp only [List.cons.injEq, and_true] at e3
      obtain ⟨ns, e1, l1, _⟩ := fits_ints (n := 4) (plain_State H enc w base spare held m _ _ g1')
      obtain ⟨ms, e2, l2, _⟩ := fits_ints (n := 7) (plain_Event H enc w base spare held m _ _ g2')
      obtain ⟨a, n, c, e0⟩ : ∃ (a : Option Addr) (n c : Nat), z0 = .slice a n c := by
        rcases open_slice Tryd.underlying22 g0' with ⟨h1, _⟩ | ⟨ad, len, cap, _, _, _, _, h1, _⟩
        · simp only [List.cons.injEq, and_true] at h1; exact ⟨_, _, _, h1⟩
        · simp only [List.cons.injEq, and_true] at h1; exact ⟨_, _, _, h1⟩
      subst e0 e3
      have ht : DataW.Trod enc Tryd.prog w base spare held 22 (.slice a n c) x0.1 x0.2 := ⟨m, g0'⟩
      obtain ⟨p, hp⟩ := open_ins ht
      have hnil := open_sl_nil Tryd.underlying22 ht
      match ns, l1, e1, ms, l2, e2 with
      | [t0, t1, t2, t3], _, e1, [u0, u1, u2, u3, u4, u5, u6], _, e2 =>
        simp only [List.map_cons, List.map_nil, List.cons.injEq, and_true] at e1 e2
        obtain ⟨rfl, rfl, rfl, rfl⟩ := e1
        obtain ⟨rfl, rfl, rfl, rfl, rfl, rfl, rfl⟩ := e2
        exact ⟨a, n, c, fun i => [t0, t1, t2, t3].getD i 0, ⟨u0, u1, u2, u3, u4, u5, u6⟩, fan, p, rfl, hp, hnil, hwf⟩
end

/-- The listed table. -/
noncomputable abbrev laidL : List (String × DataW Unit) := Rows.vmNilRow.laid
theorem opsG : Tryd.prog.globalNamed "boomerang/code.ops" = some 0 := by kernel_rfl
theorem opsT : (Tryd.prog.globals[0]?).map (·.type) = some 69 := by kernel_rfl
/-- An op's row as it reads. -/
def toldD (k : Nat) : DataW Unit := .agg [.agg [.lit (.string (wordK k)), .lit (.int .i64 (manyK k : Nat))], .lit (.int .i64 (lastK k : Nat))]
theorem opsD : Rows.laid_boomerang_code_ops (H := Unit) = .agg ((List.range 16).map toldD) := by kernel_rfl
set_option maxRecDepth 100000 in
theorem told_of_trod {w : World} {base : Nat} {sp : Nat → Bool} {held : Bool} {fuel : Nat} {cs : List Value} {s : Bs} {m l : Int} {p : List MemPlace}
    (h : DataW.trod (fun _ => ()) Tryd.prog w base sp held fuel 62 cs = some ((.agg [.agg [.lit (.string s), .lit (.int .i64 m)], .lit (.int .i64 l)] : DataW Unit), p)) : cs[0]? = some (.string (tx s)) ∧ cs[1]? = some (.int .i64 m) ∧ cs[2]? = some (.int .i64 l) := by
  obtain ⟨xs, n, _, hx, hlen, hxl, hg⟩ := DataW.trod_struct Tryd.underlying62 h
  have h0 := hg 0 _ rfl
  have h1 := hg 1 _ rfl
  simp only [Prod.mk.injEq, DataW.agg.injEq] at hx
  match xs, hx.1, h0, h1 with
  | [x0, x1], he, h0, h1 =>
    simp only [List.map_cons, List.map_nil, List.cons.injEq, and_true] at he
    have c3 : Tryd.prog.cellsOf 3 = 1 := by kernel_rfl
    have c9 : Tryd.prog.cellsOf 9 = 1 := by kernel_rfl
    have cw : Tryd.prog.cellsOf 60 = 2 := by kernel_rfl
    simp only [List.getElem?_cons_zero] at h0
    simp only [List.getElem?_cons_zero, List.getElem?_cons_succ] at h1
    obtain ⟨z, e1, e2, _⟩ := DataW.trod_int Tryd.underlying3 h1
    have hz : z = l := by
      have := he.2
      rw [e2] at this
      simpa using this.symm
    subst hz
    obtain ⟨ys, n', _, hy, hlen', hyl, hg'⟩ := DataW.trod_struct Tryd.underlying60 h0
    have k0 := hg' 0 _ rfl
    have k1 := hg' 1 _ rfl
    have hw0 : x0.1 = .agg [.lit (.string s), .lit (.int .i64 m)] := he.1.symm
    rw [hy] at hw0
    simp only [DataW.agg.injEq] at hw0
    match ys, hw0, k0, k1 with
    | [y0, y1], hw0, k0, k1 =>
      simp only [List.map_cons, List.map_nil, List.cons.injEq, and_true] at hw0
      simp only [List.getElem?_cons_zero] at k0
      simp only [List.getElem?_cons_zero, List.getElem?_cons_succ] at k1
      obtain ⟨z2, f1, f2, _⟩ := DataW.trod_int Tryd.underlying3 k1
      have hz2 : z2 = m := by
        have := hw0.2
        rw [f2] at this
        simpa using this
      subst hz2
      obtain ⟨t2, g1, g2, _⟩ := DataW.trod_string Tryd.underlying9 k0
      have ht2 : t2 = tx s := by
        have := hw0.1
        rw [g2] at this
        have e : t2.data.toList = s := by simpa using this
        rw [← e, tx_data]
      subst ht2
      refine ⟨?_, ?_, ?_⟩
      · have := congrArg (·[0]?) g1
        simpa [c3, c9, cw, List.getElem?_take, List.getElem?_drop] using this
      · have := congrArg (·[0]?) f1
        simpa [c3, c9, cw, List.getElem?_take, List.getElem?_drop] using this
      · have := congrArg (·[0]?) e1
        simpa [c3, c9, cw, List.getElem?_take, List.getElem?_drop] using this

set_option maxRecDepth 100000 in
theorem ops_of_laid {W : World} (h : laidMetH Tryd.prog laidL W) : Ops W := by
  rw [MakeChecks.laidMetH_plain _ _ _ (by kernel_rfl)] at h
  obtain ⟨ps, ⟨g, t, cs, fuel, p, q, hg, ht, hv, hd, _, _⟩, _, _⟩ := h
  obtain rfl := Option.some.inj (opsG.symm.trans hg)
  obtain rfl := Option.some.inj (opsT.symm.trans ht)
  rw [opsD] at hd
  obtain ⟨xs, m, _, ex, _, hl, hel⟩ := DataW.trod_array Tryd.underlying69 hd
  have c51 : Tryd.prog.cellsOf 62 = 3 := by kernel_rfl
  intro k hk
  have hE := hel k hk
  have e3 : (xs.map (·.1)) = (List.range 16).map toldD := (DataW.agg.inj (Prod.mk.inj ex).1).symm
  have hxk : ∃ y, xs[k]? = some y := ⟨_, List.getElem?_eq_getElem (by omega)⟩
  obtain ⟨y, hy⟩ := hxk
  have hy1 : y.1 = toldD k := by
    have := congrArg (·[k]?) e3
    simp only [List.getElem?_map, hy, List.getElem?_range hk, Option.map_some, Option.some.injEq] at this
    exact this
  rw [c51, hy] at hE
  obtain ⟨y1, y2⟩ := y
  dsimp only at hy1
  subst hy1
  obtain ⟨r0, r1, r2⟩ := told_of_trod hE
  simp only [List.getElem?_take, List.getElem?_drop] at r0 r1 r2
  refine ⟨?_, ?_, ?_⟩
  · rw [World.var?_cell hg hv]; simpa using r0
  · rw [World.var?_cell hg hv]; simpa using r1
  · rw [World.var?_cell hg hv]; simpa using r2

variable {H : Type} {enc : TypeId × Value → H}
/-- The builder, with what is laid and the world's shape handed on. -/
theorem returns_laid {a : Assume} {C : Checked} {os : Os} {f : FuncId} {fn : Func} {s : ChangeSpec} {conds : List PathCond} {apart fresh handsOn again : Bool} {L : List (String × DataW Unit)}
    (own : ownKnob C.prog.godebug = none) (started : os.Started) (noInit : C.prog.inits.idxOf? f = none) (hfn : C.prog.funcs[f]? = some fn)
    (witness : ∃ (w : World) (tape : Tape) (i : Input), w.os = os ∧ (w.forCall tape i).Shaped C.prog ∧ i.vars = [] ∧ Input.okWide C.prog (w.forCall tape i) .any w.heap.size f i ∧
      ((s.pre enc C.prog fn conds apart (w.forCall tape i).memory i.args ∧ laidMetH C.prog L (w.forCall tape i).memory) ∧ sizedMet enc C.prog fn (OpenSpec.ofChange s) apart (w.forCall tape i).memory i.args) ∧ a.holds C.prog (lone (Frame.enter C.prog f i.args .normal) [] (w.forCall tape i)))
    (contract : ∀ (W : World) (base : Nat) (args : Array Value) (ds gs : List (DataW H)) (before : List MemPlace),
      (∀ (j : Nat) t v, fn.params[j]? = some t → args[j]? = some v → Value.okWide C.prog W .any base t v) →
      DataW.Whole enc C.prog fn.params.toList s.vars apart W args.toList ds gs before →
      conds.all (PathCond.test C.prog ⟨fn.params.toList, ds, s.plain.varTypes C.prog, gs⟩) = true →
      (DataW.weightsEach C.prog (fn.params.toList ++ s.plain.varTypes C.prog) (ds ++ gs)).all (· ≤ reachBytes) = true → laidMetH C.prog L W → W.ShapedOpen C.prog →
      a.holds C.prog (lone (Frame.enter C.prog f args .normal) [] W) →
      Calls C.prog f args W fun e W' => ∃ v, e = .returned v ∧ s.post enc C.prog fn apart fresh handsOn again W args v W') :
    ReturnsInHanded a C os f .any (fun w args => (s.pre enc C.prog fn conds apart w args ∧ laidMetH C.prog L w) ∧ sizedMet enc C.prog fn (OpenSpec.ofChange s) apart w args) (s.post enc C.prog fn apart fresh handsOn again) := by
  refine returnsInHanded_of_calls own started noInit witness ?_
  intro w tape i _ hsh _ hok hpre hholds
  obtain ⟨_, _, _, fn', hfn', _, _, _, _, hval⟩ := hok
  have e : fn' = fn := Option.some.inj (hfn'.symm.trans hfn)
  subst e
  obtain ⟨⟨⟨ds, gs, before, hw, hc⟩, hx⟩, hz⟩ := hpre
  have hw' := DataW.Whole.of_heap (w' := w.forCall tape i) (by rfl) hw
  refine (contract (w.forCall tape i) w.heap.size i.args ds gs before hval hw' hc (hz.weights hw) (hx.of_heap (by rfl)) hsh hholds).mono fun e W' ⟨v, he, hp⟩ => ?_
  subst he
  exact ChangeSpec.post_blind hp
end Go.Proofs.YtohdokddfjeekaaDoor
