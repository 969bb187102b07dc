/- What comes in to a law of package code: instructions; what the listed variables hold. -/
import Derived.Test.YtodjiicneijkkaaDoorCodeAwake
import Derived.Test.YtodjiicneijkkaaDoorRows
import Derived.Test.YtodjiicneijkkaaDoorTie
import Derived.Test.YtodjiicneijkkaaDoorCards
import Derived.Test.YtodjiicneijkkaaDoorOpen2
import Derived.ProofKit
import Derived.OpenShut
import Derived.LaidMore
import Derived.Lay
import Derived.SevenTiedAt
import Derived.Stop.Joined
import Derived.Stop.LaidErr
import Derived.Shelf.Vars
import Derived.HandedShaped
namespace Go.Proofs.YtodjiicneijkkaaDoor
open Go.RowKit Go.ChangeShapes Go.WideShapes Go.ChangeAt

theorem own : ownKnob Tryd.prog.godebug = none := by kernel_rfl
theorem laidOut : laidOutB Tryd.prog = true := by kernel_rfl
theorem plain_Int : Plain Tryd.prog 3 [.int .i64] := plain_int Tryd.underlying3
theorem plain_Instr : Plain Tryd.prog 23 [.int .i64, .int .i64, .int .i64, .int .i64, .int .i64] := by
  refine plain_struct [[.int .i64], [.int .i64], [.int .i64], [.int .i64], [.int .i64]] Tryd.underlying23 (by kernel_rfl) rfl ?_
  intro i f ks h1 h2
  match i with
  | 0 => cases h1; cases h2; exact ⟨plain_Int, rfl, by kernel_rfl⟩
  | 1 => cases h1; cases h2; exact ⟨plain_Int, rfl, by kernel_rfl⟩
  | 2 => cases h1; cases h2; exact ⟨plain_Int, rfl, by kernel_rfl⟩
  | 3 => cases h1; cases h2; exact ⟨plain_Int, rfl, by kernel_rfl⟩
  | 4 => cases h1; cases h2; exact ⟨plain_Int, rfl, by kernel_rfl⟩
  | i + 5 => simp at h2
theorem inI_of_wf {n : Int} (h : (Lit.int .i64 n).wf = true) : inI n := by
  simp [Lit.wf, IntKind.min, IntKind.max, IntKind.signed, IntKind.bits] at h
  unfold inI
  omega
theorem makes_Instr : Makes [.int .i64, .int .i64, .int .i64, .int .i64, .int .i64] Ins.enc Ins.Wf := fun vs h => by
  obtain ⟨ns, rfl, hl, hw⟩ := fits_ints (n := 5) h
  match ns, hl with
  | [o, a, b, c, d], _ => exact ⟨⟨o, a, b, c, d⟩, rfl, ⟨inI_of_wf (hw o (by simp)), inI_of_wf (hw a (by simp)), inI_of_wf (hw b (by simp)), inI_of_wf (hw c (by simp)), inI_of_wf (hw d (by simp))⟩⟩
section
variable {H : Type} {enc : TypeId × Value → H} {w : World} {d : DataW H} {ps : List MemPlace} {base : Nat} {spare : Nat → Bool} {held : Bool}
theorem open_ins {a : Option Addr} {n cap : Nat} (h : DataW.Trod enc Tryd.prog w base spare held 24 (.slice a n cap) d ps) : ∃ l, Ins.at_ w a n cap l ∧ ∀ x ∈ l, x.Wf :=
  open_slAt (ks := [.int .i64, .int .i64, .int .i64, .int .i64, .int .i64]) Tryd.underlying24 (by kernel_rfl) plain_Instr (by decide) makes_Instr h
set_option maxRecDepth 100000 in
theorem open_in {r : Reach} {b0 : Nat} {v : Value} (hv : Value.okWide Tryd.prog w r b0 23 v) (h : DataW.Trod enc Tryd.prog w base spare held 23 v d ps) : ∃ x : Ins, v = x.val ∧ x.Wf := by
  obtain ⟨o, he, ho⟩ := open_agg (enc' := Ins.enc) (W := Ins.Wf) Tryd.underlying23 plain_Instr makes_Instr hv h
  exact ⟨o, he, ho⟩
end

/-- The listed variables. -/
noncomputable abbrev laidL : List (String × DataW Unit) := Rows.codeChecksRow.laid
theorem opsG : Tryd.prog.globalNamed "boomerang/code.ops" = some 0 := by kernel_rfl
theorem opsT : (Tryd.prog.globals[0]?).map (·.type) = some 76 := by kernel_rfl
theorem powT : (Tryd.prog.globals[2]?).map (·.type) = some 108 := by kernel_rfl
theorem synG : Tryd.prog.globalNamed "strconv.ErrSyntax" = some 3 := by kernel_rfl
theorem synT : (Tryd.prog.globals[3]?).map (·.type) = some 65 := by kernel_rfl
theorem ranG : Tryd.prog.globalNamed "strconv.ErrRange" = some 4 := by kernel_rfl
theorem ranT : (Tryd.prog.globals[4]?).map (·.type) = some 65 := by kernel_rfl
theorem star : "*" ++ "errors.errorString" = "*errors.errorString" := by decide
theorem rowES (u : TypeId) (h : Tryd.prog.typeName? 3 u = some "*errors.errorString") : u = 125 :=
  typeName_ptr_named (nm := "errors.errorString") (by rw [star]; kernel_rfl) (by kernel_rfl) (by decide) u (by rw [star]; exact h)

/-- An op's row as it reads. -/
def toldD (k : Nat) : DataW Unit := .agg [.agg [.lit (.string (wordK k)), .lit (.int .i64 (manyK k : Nat))], .lit (.int .i64 (lastK k : Nat))]
theorem opsD : Rows.laid_boomerang_code_ops (H := Unit) = .agg ((List.range 16).map toldD) := by kernel_rfl
set_option maxRecDepth 100000 in
theorem told_of_trod {w : World} {base : Nat} {sp : Nat → Bool} {held : Bool} {fuel : Nat} {cs : List Value} {s : Bs} {m l : Int} {p : List MemPlace}
    (h : DataW.trod (fun _ => ()) Tryd.prog w base sp held fuel 51 cs = some ((.agg [.agg [.lit (.string s), .lit (.int .i64 m)], .lit (.int .i64 l)] : DataW Unit), p)) : cs[0]? = some (.string (tx s)) ∧ cs[1]? = some (.int .i64 m) ∧ cs[2]? = some (.int .i64 l) := by
  obtain ⟨xs, n, _, hx, hlen, hxl, hg⟩ := DataW.trod_struct Tryd.underlying51 h
  have h0 := hg 0 _ rfl
  have h1 := hg 1 _ rfl
  simp only [Prod.mk.injEq, DataW.agg.injEq] at hx
  match xs, hx.1, h0, h1 with
  | [x0, x1], he, h0, h1 =>
    simp only [List.map_cons, List.map_nil, List.cons.injEq, and_true] at he
    have c3 : Tryd.prog.cellsOf 3 = 1 := by kernel_rfl
    have c9 : Tryd.prog.cellsOf 9 = 1 := by kernel_rfl
    have cw : Tryd.prog.cellsOf 49 = 2 := by kernel_rfl
    simp only [List.getElem?_cons_zero] at h0
    simp only [List.getElem?_cons_zero, List.getElem?_cons_succ] at h1
    obtain ⟨z, e1, e2, _⟩ := DataW.trod_int Tryd.underlying3 h1
    have hz : z = l := by
      have := he.2
      rw [e2] at this
      simpa using this.symm
    subst hz
    obtain ⟨ys, n', _, hy, hlen', hyl, hg'⟩ := DataW.trod_struct Tryd.underlying49 h0
    have k0 := hg' 0 _ rfl
    have k1 := hg' 1 _ rfl
    have hw0 : x0.1 = .agg [.lit (.string s), .lit (.int .i64 m)] := he.1.symm
    rw [hy] at hw0
    simp only [DataW.agg.injEq] at hw0
    match ys, hw0, k0, k1 with
    | [y0, y1], hw0, k0, k1 =>
      simp only [List.map_cons, List.map_nil, List.cons.injEq, and_true] at hw0
      simp only [List.getElem?_cons_zero] at k0
      simp only [List.getElem?_cons_zero, List.getElem?_cons_succ] at k1
      obtain ⟨z2, f1, f2, _⟩ := DataW.trod_int Tryd.underlying3 k1
      have hz2 : z2 = m := by
        have := hw0.2
        rw [f2] at this
        simpa using this
      subst hz2
      obtain ⟨t2, g1, g2, _⟩ := DataW.trod_string Tryd.underlying9 k0
      have ht2 : t2 = tx s := by
        have := hw0.1
        rw [g2] at this
        have e : t2.data.toList = s := by simpa using this
        rw [← e, tx_data]
      subst ht2
      refine ⟨?_, ?_, ?_⟩
      · have := congrArg (·[0]?) g1
        simpa [c3, c9, cw, List.getElem?_take, List.getElem?_drop] using this
      · have := congrArg (·[0]?) f1
        simpa [c3, c9, cw, List.getElem?_take, List.getElem?_drop] using this
      · have := congrArg (·[0]?) e1
        simpa [c3, c9, cw, List.getElem?_take, List.getElem?_drop] using this

set_option maxRecDepth 100000 in
theorem facts_of_laid {W : World} (h : laidMetH Tryd.prog laidL W) (hsh : W.ShapedOpen Tryd.prog) : Facts W := by
  rw [MakeChecks.laidMetH_plain _ _ _ (by kernel_rfl)] at h
  have h2 : laidMet Tryd.prog (("internal/strconv.uint64pow10", Lib.tabData .u64 Lib.pow10Tab) :: laidL.drop 3) W := h.tail.tail
  have h4 := h2.tail.tail
  have h5 := h4.tail
  have h6 := h5.tail
  have hpow : Lib.TabIs Tryd.prog W "internal/strconv.uint64pow10" .u64 Lib.pow10Tab := Lib.tabIs_of_head powG powT Tryd.underlying108 Tryd.underlying91 (by kernel_rfl) (by kernel_rfl) h2
  obtain ⟨a4, s4, v4, _⟩ := laid_sentinel h4 ranG ranT Tryd.underlying65 rowES Tryd.underlying125 Tryd.underlying127 rfl rfl Tryd.underlying9 (by kernel_rfl) (by kernel_rfl)
  obtain ⟨a3, s3, v3, _⟩ := laid_sentinel h5 synG synT Tryd.underlying65 rowES Tryd.underlying125 Tryd.underlying127 rfl rfl Tryd.underlying9 (by kernel_rfl) (by kernel_rfl)
  refine ⟨?_, hpow, cell_of_shapedOpen_int (t := 3) (zero := #[.int .i64 0]) hsh (of_decide_eq_true (by kernel_rfl)) (by kernel_rfl) rfl (by kernel_rfl) (by kernel_rfl) Tryd.underlying3,
    ⟨_, _, by have := World.var?_cell synG v3 0; simpa using this⟩, ⟨_, _, by have := World.var?_cell ranG v4 0; simpa using this⟩⟩
  obtain ⟨ps, ⟨g, t, cs, fuel, p, q, hg, ht, hv, hd, _, _⟩, _, _⟩ := h6
  obtain rfl := Option.some.inj (opsG.symm.trans hg)
  obtain rfl := Option.some.inj (opsT.symm.trans ht)
  rw [opsD] at hd
  obtain ⟨xs, m, _, ex, _, hl, hel⟩ := DataW.trod_array Tryd.underlying76 hd
  have c51 : Tryd.prog.cellsOf 51 = 3 := by kernel_rfl
  intro k hk
  have hE := hel k hk
  have e3 : (xs.map (·.1)) = (List.range 16).map toldD := (DataW.agg.inj (Prod.mk.inj ex).1).symm
  have hxk : ∃ y, xs[k]? = some y := ⟨_, List.getElem?_eq_getElem (by omega)⟩
  obtain ⟨y, hy⟩ := hxk
  have hy1 : y.1 = toldD k := by
    have := congrArg (·[k]?) e3
    simp only [List.getElem?_map, hy, List.getElem?_range hk, Option.map_some, Option.some.injEq] at this
    exact this
  rw [c51, hy] at hE
  obtain ⟨y1, y2⟩ := y
  dsimp only at hy1
  subst hy1
  obtain ⟨r0, r1, r2⟩ := told_of_trod hE
  simp only [List.getElem?_take, List.getElem?_drop] at r0 r1 r2
  refine ⟨?_, ?_, ?_⟩
  · rw [World.var?_cell hg hv]; simpa using r0
  · rw [World.var?_cell hg hv]; simpa using r1
  · rw [World.var?_cell hg hv]; simpa using r2

variable {H : Type} {enc : TypeId × Value → H}
/-- The builder, with what is laid and the world's shape handed on. -/
theorem returns_laid {a : Assume} {C : Checked} {os : Os} {f : FuncId} {fn : Func} {s : ChangeSpec} {conds : List PathCond} {apart fresh handsOn again : Bool} {L : List (String × DataW Unit)}
    (own : ownKnob C.prog.godebug = none) (started : os.Started) (noInit : C.prog.inits.idxOf? f = none) (hfn : C.prog.funcs[f]? = some fn)
    (witness : ∃ (w : World) (tape : Tape) (i : Input), w.os = os ∧ (w.forCall tape i).Shaped C.prog ∧ i.vars = [] ∧ Input.okWide C.prog (w.forCall tape i) .any w.heap.size f i ∧
      ((s.pre enc C.prog fn conds apart (w.forCall tape i).memory i.args ∧ laidMetH C.prog L (w.forCall tape i).memory) ∧ sizedMet enc C.prog fn (OpenSpec.ofChange s) apart (w.forCall tape i).memory i.args) ∧ a.holds C.prog (lone (Frame.enter C.prog f i.args .normal) [] (w.forCall tape i)))
    (contract : ∀ (W : World) (base : Nat) (args : Array Value) (ds gs : List (DataW H)) (before : List MemPlace),
      (∀ (j : Nat) t v, fn.params[j]? = some t → args[j]? = some v → Value.okWide C.prog W .any base t v) →
      DataW.Whole enc C.prog fn.params.toList s.vars apart W args.toList ds gs before →
      conds.all (PathCond.test C.prog ⟨fn.params.toList, ds, s.plain.varTypes C.prog, gs⟩) = true →
      (DataW.weightsEach C.prog (fn.params.toList ++ s.plain.varTypes C.prog) (ds ++ gs)).all (· ≤ reachBytes) = true → laidMetH C.prog L W → W.ShapedOpen C.prog →
      a.holds C.prog (lone (Frame.enter C.prog f args .normal) [] W) →
      Calls C.prog f args W fun e W' => ∃ v, e = .returned v ∧ s.post enc C.prog fn apart fresh handsOn again W args v W') :
    ReturnsInHanded a C os f .any (fun w args => (s.pre enc C.prog fn conds apart w args ∧ laidMetH C.prog L w) ∧ sizedMet enc C.prog fn (OpenSpec.ofChange s) apart w args) (s.post enc C.prog fn apart fresh handsOn again) := by
  refine returnsInHanded_of_calls own started noInit witness ?_
  intro w tape i _ hsh _ hok hpre hholds
  obtain ⟨_, _, _, fn', hfn', _, _, _, _, hval⟩ := hok
  have e : fn' = fn := Option.some.inj (hfn'.symm.trans hfn)
  subst e
  obtain ⟨⟨⟨ds, gs, before, hw, hc⟩, hx⟩, hz⟩ := hpre
  have hw' := DataW.Whole.of_heap (w' := w.forCall tape i) (by rfl) hw
  refine (contract (w.forCall tape i) w.heap.size i.args ds gs before hval hw' hc (hz.weights hw) (hx.of_heap (by rfl)) hsh hholds).mono fun e W' ⟨v, he, hp⟩ => ?_
  subst he
  exact ChangeSpec.post_blind hp
end Go.Proofs.YtodjiicneijkkaaDoor
