/- What comes in to a law of package model: a configuration, a start; what the listed table holds. -/
import Derived.Test.YtbkadfdpboghiaaDoorModQ
import Derived.Test.YtbkadfdpboghiaaDoorRows
import Derived.Test.YtbkadfdpboghiaaDoorTie
import Derived.Test.YtbkadfdpboghiaaDoorCards
import Derived.Test.YtbkadfdpboghiaaDoorOpen2
import Derived.ProofKit
import Derived.OpenShut
import Derived.LaidMore
import Derived.Lay
import Derived.SevenTiedAt
import Derived.Stop.Joined
import Derived.Shelf.Vars
import Derived.HandedShaped
namespace Go.Proofs.YtbkadfdpboghiaaDoor
open Go.RowKit Go.ChangeShapes Go.WideShapes Go.ChangeAt Go.Deep

theorem own : ownKnob Tryd.prog.godebug = none := by kernel_rfl
theorem laidOut : laidOutB Tryd.prog = true := by kernel_rfl
theorem tx_data (s : ByteArray) : tx s.data.toList = s := rfl
theorem plain_Int : Plain Tryd.prog 3 [.int .i64] := plain_int Tryd.underlying3
theorem plain_Instr : Plain Tryd.prog 58 [.int .i64, .int .i64, .int .i64, .int .i64, .int .i64] := by
  refine plain_struct [[.int .i64], [.int .i64], [.int .i64], [.int .i64], [.int .i64]] Tryd.underlying58 (by kernel_rfl) rfl ?_
  intro i f ks h1 h2
  match i with
  | 0 => cases h1; cases h2; exact ⟨plain_Int, rfl, by kernel_rfl⟩
  | 1 => cases h1; cases h2; exact ⟨plain_Int, rfl, by kernel_rfl⟩
  | 2 => cases h1; cases h2; exact ⟨plain_Int, rfl, by kernel_rfl⟩
  | 3 => cases h1; cases h2; exact ⟨plain_Int, rfl, by kernel_rfl⟩
  | 4 => cases h1; cases h2; exact ⟨plain_Int, rfl, by kernel_rfl⟩
  | i + 5 => simp at h2
theorem plain_State : Plain Tryd.prog 47 [.int .i64, .int .i64, .int .i64, .int .i64] :=
  plain_array (n := 4) (ks := [.int .i64]) Tryd.underlying47 (by kernel_rfl) (by kernel_rfl) plain_Int
theorem plain_Place : Plain Tryd.prog 59 [.int .i64, .int .i64, .int .i64, .int .i64, .int .i64] := by
  refine plain_struct [[.int .i64], [.int .i64, .int .i64, .int .i64, .int .i64]] Tryd.underlying59 (by kernel_rfl) rfl ?_
  intro i f ks h1 h2
  match i with
  | 0 => cases h1; cases h2; exact ⟨plain_Int, rfl, by kernel_rfl⟩
  | 1 => cases h1; cases h2; exact ⟨plain_State, rfl, by kernel_rfl⟩
  | i + 2 => simp at h2
theorem plain_Start : Plain Tryd.prog 61 [.int .i64, .int .i64, .int .i64, .int .i64] := by
  refine plain_struct [[.int .i64], [.int .i64], [.int .i64], [.int .i64]] Tryd.underlying61 (by kernel_rfl) rfl ?_
  intro i f ks h1 h2
  match i with
  | 0 => cases h1; cases h2; exact ⟨plain_Int, rfl, by kernel_rfl⟩
  | 1 => cases h1; cases h2; exact ⟨plain_Int, rfl, by kernel_rfl⟩
  | 2 => cases h1; cases h2; exact ⟨plain_Int, rfl, by kernel_rfl⟩
  | 3 => cases h1; cases h2; exact ⟨plain_Int, rfl, by kernel_rfl⟩
  | i + 4 => simp at h2
theorem makes_Place : Makes [.int .i64, .int .i64, .int .i64, .int .i64, .int .i64] Pl.enc (fun _ => True) := fun vs h => by
  obtain ⟨ns, rfl, hl, _⟩ := fits_ints (n := 5) h
  match ns, hl with
  | [o, a, b, c, d], _ => exact ⟨⟨o, a, b, c, d⟩, rfl, trivial⟩
theorem makes_Start : Makes [.int .i64, .int .i64, .int .i64, .int .i64] St.enc (fun _ => True) := fun vs h => by
  obtain ⟨ns, rfl, hl, _⟩ := fits_ints (n := 4) h
  match ns, hl with
  | [o, a, b, c], _ => exact ⟨⟨o, a, b, c⟩, rfl, trivial⟩
theorem makes_Instr : Makes [.int .i64, .int .i64, .int .i64, .int .i64, .int .i64] Ins.enc (fun _ => True) := fun vs h => by
  obtain ⟨ns, rfl, hl, _⟩ := fits_ints (n := 5) h
  match ns, hl with
  | [o, a, b, c, d], _ => exact ⟨⟨o, a, b, c, d⟩, rfl, trivial⟩
section
variable {H : Type} {enc : TypeId × Value → H} {w : World} {d : DataW H} {ps : List MemPlace} {base : Nat} {spare : Nat → Bool} {held : Bool}
theorem open_ins {a : Option Addr} {n cap : Nat} (h : DataW.Trod enc Tryd.prog w base spare held 52 (.slice a n cap) d ps) : ∃ l, Ins.at_ w a n cap l := by
  obtain ⟨l, hl, _⟩ := open_slAt (ks := [.int .i64, .int .i64, .int .i64, .int .i64, .int .i64]) Tryd.underlying52 (by kernel_rfl) plain_Instr (by decide) makes_Instr h
  exact ⟨l, hl⟩
theorem open_places {a : Option Addr} {n cap : Nat} (h : DataW.Trod enc Tryd.prog w base spare held 23 (.slice a n cap) d ps) : ∃ l, SlAt Pl.enc 5 w a n cap l := by
  obtain ⟨l, hl, _⟩ := open_slAt (ks := [.int .i64, .int .i64, .int .i64, .int .i64, .int .i64]) Tryd.underlying23 (by kernel_rfl) plain_Place (by decide) makes_Place h
  exact ⟨l, hl⟩
theorem open_starts {a : Option Addr} {n cap : Nat} (h : DataW.Trod enc Tryd.prog w base spare held 24 (.slice a n cap) d ps) : ∃ l, SlAt St.enc 4 w a n cap l := by
  obtain ⟨l, hl, _⟩ := open_slAt (ks := [.int .i64, .int .i64, .int .i64, .int .i64]) Tryd.underlying24 (by kernel_rfl) plain_Start (by decide) makes_Start h
  exact ⟨l, hl⟩
set_option maxRecDepth 100000 in
theorem open_start {r : Reach} {b0 : Nat} {v : Value} (hv : Value.okWide Tryd.prog w r b0 61 v) (h : DataW.Trod enc Tryd.prog w base spare held 61 v d ps) : ∃ x : St, v = .agg #[.int .i64 x.dst, .int .i64 x.at_, .int .i64 x.kind, .int .i64 x.data] := by
  obtain ⟨cs, rfl, hc⟩ := okWide_struct Tryd.underlying61 hv
  obtain ⟨fuel, hf⟩ := h
  have hk := plain_Start H enc w base spare held fuel _ _ hf
  obtain ⟨ns, hn, hl, _⟩ := fits_ints (n := 4) (vs := cs.toList) hk
  match ns, hl with
  | [a, b, c, e], _ => exact ⟨⟨a, b, c, e⟩, by rw [← Array.toArray_toList (xs := cs), hn]; rfl⟩
theorem slice_cells {t e : TypeId} (ht : Tryd.prog.underlying t = some (.slice e)) {fuel : Nat} {cs : List Value} {x : DataW H × List MemPlace} (h : DataW.trod enc Tryd.prog w base spare held fuel t cs = some x) : ∃ (a : Option Addr) (n c : Nat), cs = [.slice a n c] := by
  rcases open_slice ht h with ⟨h1, _⟩ | ⟨ad, len, cap, _, _, _, _, h1, _⟩
  · exact ⟨_, _, _, h1⟩
  · exact ⟨_, _, _, h1⟩
theorem open_progs {a : Option Addr} {n cap : Nat} (h : DataW.Trod enc Tryd.prog w base spare held 22 (.slice a n cap) d ps) :
    ∃ l : List Pg, SlAt Pg.enc 1 w a n cap l ∧ (∀ p ∈ l, Ins.at_ w p.a p.n p.c p.l) ∧ ∀ p ∈ l, NilOk p.a p.n p.c := by
  obtain ⟨fuel, hf⟩ := h
  have he : Tryd.prog.cellsOf 52 = 1 := by kernel_rfl
  rcases open_slice Tryd.underlying22 hf with ⟨hcs, _⟩ | ⟨ad, len', cap', m, nf, D, Pl, hcs, hb, hl, hm, hmm, hx, hi⟩
  · simp [Value.cells] at hcs
    obtain ⟨rfl, rfl, rfl⟩ := hcs
    exact ⟨[], SlAt.nil _ _ _ _, by simp, by simp⟩
  · simp [Value.cells] at hcs
    obtain ⟨rfl, rfl, rfl⟩ := hcs
    by_cases h0 : n = 0
    · subst h0
      exact ⟨[], ⟨rfl, hl, hm, .inl rfl⟩, by simp, by simp⟩
    · have hlm : n ≤ m := by rw [hmm]; split <;> omega
      have hcells : ∀ i, i < n → ∃ p : Pg, w.cell? ((ad.add (i * 1)).add 0) = some (.slice p.a p.n p.c) ∧ Ins.at_ w p.a p.n p.c p.l ∧ NilOk p.a p.n p.c := by
        intro i hi'
        obtain ⟨cs', hc, ht'⟩ := hi i (by omega)
        rw [he] at hc
        obtain ⟨a2, n2, c2, e2⟩ := slice_cells Tryd.underlying52 ht'
        subst e2
        obtain ⟨_, hcl, hat⟩ := World.cells?_some hc
        have ht2 : DataW.Trod enc Tryd.prog w base spare held 52 (.slice a2 n2 c2) _ _ := ⟨nf, ht'⟩
        obtain ⟨l2, hl2⟩ := open_ins ht2
        have hn2 := open_sl_nil Tryd.underlying52 ht2
        refine ⟨⟨a2, n2, c2, l2⟩, ?_, hl2, hn2⟩
        rw [hat 0 (by omega)]
        rfl
      obtain ⟨p0, hp0, _⟩ := hcells 0 (by omega)
      have hz : (ad.add (0 * 1)).add 0 = ad := by simp [Addr.add]
      rw [hz] at hp0
      obtain ⟨b, off, spot⟩ := ad
      have hsp : spot = none := add_cell hp0
      subst hsp
      obtain ⟨l, hll, hq⟩ := list_of (Q := fun i (p : Pg) => w.cell? ⟨b, off + i * 1 + 0, none⟩ = some (.slice p.a p.n p.c) ∧ Ins.at_ w p.a p.n p.c p.l ∧ NilOk p.a p.n p.c) n (fun i hi' => by
        obtain ⟨p, h1, h2⟩ := hcells i hi'
        rw [addr_add, addr_add] at h1
        exact ⟨p, h1, h2⟩)
      refine ⟨l, ⟨hll, hl, hm, .inr ⟨b, off, rfl, World.block_lt_of_cell? w _ hp0, fun i p hip j u hj => ?_⟩⟩, fun p hp => ?_, fun p hp => ?_⟩
      · match j, hj with
        | 0, hj =>
          simp only [Pg.enc, List.getElem?_cons_zero, Option.some.injEq] at hj
          subst hj
          exact (hq i p hip).1
        | j + 1, hj => simp [Pg.enc] at hj
      · obtain ⟨i, hip⟩ := List.mem_iff_getElem?.1 hp
        exact (hq i p hip).2.1
      · obtain ⟨i, hip⟩ := List.mem_iff_getElem?.1 hp
        exact (hq i p hip).2.2

set_option maxRecDepth 100000 in
theorem open_config {r : Reach} {b0 : Nat} {v : Value} (hv : Value.okWide Tryd.prog w r b0 26 v) (h : DataW.Trod enc Tryd.prog w base spare held 26 v d ps) : ∃ C : Cf, v = C.val ∧ CfAt w C ∧ CfNil C := by
  obtain ⟨cs, rfl, _⟩ := okWide_struct Tryd.underlying26 hv
  obtain ⟨fuel, hf⟩ := h
  obtain ⟨xs, m, _, _, hlen, hxl, hg⟩ := DataW.trod_struct Tryd.underlying26 hf
  have hC : Tryd.prog.cellsOf 26 = 6 := by kernel_rfl
  rw [hC] at hlen
  simp only [Value.cells] at hlen hg
  have g0 := hg 0 _ rfl
  have g1 := hg 1 _ rfl
  have g2 := hg 2 _ rfl
  have g3 := hg 3 _ rfl
  have g4 := hg 4 _ rfl
  have g5 := hg 5 _ rfl
  match xs, hxl, g0, g1, g2, g3, g4, g5 with
  | [x0, x1, x2, x3, x4, x5], _, g0, g1, g2, g3, g4, g5 =>
    obtain ⟨l⟩ := cs
    match l, hlen, g0, g1, g2, g3, g4, g5 with
    | [z0, z1, z2, z3, z4, z5], _, g0, g1, g2, g3, g4, g5 =>
      simp only [List.getElem?_cons_zero, List.getElem?_cons_succ] at g0 g1 g2 g3 g4 g5
      have g0' : DataW.trod enc Tryd.prog w base spare held m 22 [z0] = some x0 := g0
      have g1' : DataW.trod enc Tryd.prog w base spare held m 23 [z1] = some x1 := g1
      have g2' : DataW.trod enc Tryd.prog w base spare held m 24 [z2] = some x2 := g2
      have g3' : DataW.trod enc Tryd.prog w base spare held m 3 [z3] = some x3 := g3
      have g4' : DataW.trod enc Tryd.prog w base spare held m 3 [z4] = some x4 := g4
      have g5' : DataW.trod enc Tryd.prog w base spare held m 3 [z5] = some x5 := g5
      obtain ⟨a3, e3, _, _⟩ := DataW.trod_int Tryd.underlying3 g3'
      obtain ⟨a4, e4, _, _⟩ := DataW.trod_int Tryd.underlying3 g4'
      obtain ⟨a5, e5, _, _⟩ := DataW.trod_int Tryd.underlying3 g5'
      obtain ⟨pa, pn, pc, e0⟩ := slice_cells Tryd.underlying22 g0'
      obtain ⟨la, ln, lc, e1⟩ := slice_cells Tryd.underlying23 g1'
      obtain ⟨sa, sn, sc, e2⟩ := slice_cells Tryd.underlying24 g2'
      simp only [List.cons.injEq, and_true] at e0 e1 e2 e3 e4 e5
      subst e0 e1 e2 e3 e4 e5
      have t0 : DataW.Trod enc Tryd.prog w base spare held 22 (.slice pa pn pc) x0.1 x0.2 := ⟨m, g0'⟩
      have t1 : DataW.Trod enc Tryd.prog w base spare held 23 (.slice la ln lc) x1.1 x1.2 := ⟨m, g1'⟩
      have t2 : DataW.Trod enc Tryd.prog w base spare held 24 (.slice sa sn sc) x2.1 x2.2 := ⟨m, g2'⟩
      obtain ⟨P, hP, hPi, hPn⟩ := open_progs t0
      obtain ⟨L, hL⟩ := open_places t1
      obtain ⟨T, hT⟩ := open_starts t2
      exact ⟨⟨pa, pn, pc, P, la, ln, lc, L, sa, sn, sc, T, a3, a4, a5⟩, rfl, ⟨hP, hPi, hL, hT⟩, ⟨open_sl_nil Tryd.underlying22 t0, hPn, open_sl_nil Tryd.underlying23 t1, open_sl_nil Tryd.underlying24 t2⟩⟩
end

/-- The listed table. -/
noncomputable abbrev laidL : List (String × DataW Unit) := Rows.modelNilRow.laid
theorem opsG : Tryd.prog.globalNamed "boomerang/code.ops" = some 0 := by kernel_rfl
theorem opsT : (Tryd.prog.globals[0]?).map (·.type) = some 112 := by kernel_rfl
/-- An op's row as it reads. -/
def toldD (k : Nat) : DataW Unit := .agg [.agg [.lit (.string (wordK k)), .lit (.int .i64 (manyK k : Nat))], .lit (.int .i64 (lastK k : Nat))]
theorem opsD : Rows.laid_boomerang_code_ops (H := Unit) = .agg ((List.range 16).map toldD) := by kernel_rfl
set_option maxRecDepth 100000 in
theorem told_of_trod {w : World} {base : Nat} {sp : Nat → Bool} {held : Bool} {fuel : Nat} {cs : List Value} {s : Bs} {m l : Int} {p : List MemPlace}
    (h : DataW.trod (fun _ => ()) Tryd.prog w base sp held fuel 104 cs = some ((.agg [.agg [.lit (.string s), .lit (.int .i64 m)], .lit (.int .i64 l)] : DataW Unit), p)) : cs[0]? = some (.string (tx s)) ∧ cs[1]? = some (.int .i64 m) ∧ cs[2]? = some (.int .i64 l) := by
  obtain ⟨xs, n, _, hx, hlen, hxl, hg⟩ := DataW.trod_struct Tryd.underlying104 h
  have h0 := hg 0 _ rfl
  have h1 := hg 1 _ rfl
  simp only [Prod.mk.injEq, DataW.agg.injEq] at hx
  match xs, hx.1, h0, h1 with
  | [x0, x1], he, h0, h1 =>
    simp only [List.map_cons, List.map_nil, List.cons.injEq, and_true] at he
    have c3 : Tryd.prog.cellsOf 3 = 1 := by kernel_rfl
    have c9 : Tryd.prog.cellsOf 9 = 1 := by kernel_rfl
    have cw : Tryd.prog.cellsOf 102 = 2 := by kernel_rfl
    simp only [List.getElem?_cons_zero] at h0
    simp only [List.getElem?_cons_zero, List.getElem?_cons_succ] at h1
    obtain ⟨z, e1, e2, _⟩ := DataW.trod_int Tryd.underlying3 h1
    have hz : z = l := by
      have := he.2
      rw [e2] at this
      simpa using this.symm
    subst hz
    obtain ⟨ys, n', _, hy, hlen', hyl, hg'⟩ := DataW.trod_struct Tryd.underlying102 h0
    have k0 := hg' 0 _ rfl
    have k1 := hg' 1 _ rfl
    have hw0 : x0.1 = .agg [.lit (.string s), .lit (.int .i64 m)] := he.1.symm
    rw [hy] at hw0
    simp only [DataW.agg.injEq] at hw0
    match ys, hw0, k0, k1 with
    | [y0, y1], hw0, k0, k1 =>
      simp only [List.map_cons, List.map_nil, List.cons.injEq, and_true] at hw0
      simp only [List.getElem?_cons_zero] at k0
      simp only [List.getElem?_cons_zero, List.getElem?_cons_succ] at k1
      obtain ⟨z2, f1, f2, _⟩ := DataW.trod_int Tryd.underlying3 k1
      have hz2 : z2 = m := by
        have := hw0.2
        rw [f2] at this
        simpa using this
      subst hz2
      obtain ⟨t2, g1, g2, _⟩ := DataW.trod_string Tryd.underlying9 k0
      have ht2 : t2 = tx s := by
        have := hw0.1
        rw [g2] at this
        have e : t2.data.toList = s := by simpa using this
        rw [← e, tx_data]
      subst ht2
      refine ⟨?_, ?_, ?_⟩
      · have := congrArg (·[0]?) g1
        simpa [c3, c9, cw, List.getElem?_take, List.getElem?_drop] using this
      · have := congrArg (·[0]?) f1
        simpa [c3, c9, cw, List.getElem?_take, List.getElem?_drop] using this
      · have := congrArg (·[0]?) e1
        simpa [c3, c9, cw, List.getElem?_take, List.getElem?_drop] using this

set_option maxRecDepth 100000 in
theorem ops_of_laid {W : World} (h : laidMetH Tryd.prog laidL W) : Ops W := by
  rw [MakeChecks.laidMetH_plain _ _ _ (by kernel_rfl)] at h
  obtain ⟨ps, ⟨g, t, cs, fuel, p, q, hg, ht, hv, hd, _, _⟩, _, _⟩ := h
  obtain rfl := Option.some.inj (opsG.symm.trans hg)
  obtain rfl := Option.some.inj (opsT.symm.trans ht)
  rw [opsD] at hd
  obtain ⟨xs, m, _, ex, _, hl, hel⟩ := DataW.trod_array Tryd.underlying112 hd
  have c51 : Tryd.prog.cellsOf 104 = 3 := by kernel_rfl
  intro k hk
  have hE := hel k hk
  have e3 : (xs.map (·.1)) = (List.range 16).map toldD := (DataW.agg.inj (Prod.mk.inj ex).1).symm
  have hxk : ∃ y, xs[k]? = some y := ⟨_, List.getElem?_eq_getElem (by omega)⟩
  obtain ⟨y, hy⟩ := hxk
  have hy1 : y.1 = toldD k := by
    have := congrArg (·[k]?) e3
    simp only [List.getElem?_map, hy, List.getElem?_range hk, Option.map_some, Option.some.injEq] at this
    exact this
  rw [c51, hy] at hE
  obtain ⟨y1, y2⟩ := y
  dsimp only at hy1
  subst hy1
  obtain ⟨r0, r1, r2⟩ := told_of_trod hE
  simp only [List.getElem?_take, List.getElem?_drop] at r0 r1 r2
  refine ⟨?_, ?_, ?_⟩
  · rw [World.var?_cell hg hv]; simpa using r0
  · rw [World.var?_cell hg hv]; simpa using r1
  · rw [World.var?_cell hg hv]; simpa using r2

variable {H : Type} {enc : TypeId × Value → H}
/-- The builder, with what is laid and the world's shape handed on. -/
theorem returns_laid {a : Assume} {C : Checked} {os : Os} {f : FuncId} {fn : Func} {s : ChangeSpec} {conds : List PathCond} {apart fresh handsOn again : Bool} {L : List (String × DataW Unit)}
    (own : ownKnob C.prog.godebug = none) (started : os.Started) (noInit : C.prog.inits.idxOf? f = none) (hfn : C.prog.funcs[f]? = some fn)
    (witness : ∃ (w : World) (tape : Tape) (i : Input), w.os = os ∧ (w.forCall tape i).Shaped C.prog ∧ i.vars = [] ∧ Input.okWide C.prog (w.forCall tape i) .any w.heap.size f i ∧
      ((s.pre enc C.prog fn conds apart (w.forCall tape i).memory i.args ∧ laidMetH C.prog L (w.forCall tape i).memory) ∧ sizedMet enc C.prog fn (OpenSpec.ofChange s) apart (w.forCall tape i).memory i.args) ∧ a.holds C.prog (lone (Frame.enter C.prog f i.args .normal) [] (w.forCall tape i)))
    (contract : ∀ (W : World) (base : Nat) (args : Array Value) (ds gs : List (DataW H)) (before : List MemPlace),
      (∀ (j : Nat) t v, fn.params[j]? = some t → args[j]? = some v → Value.okWide C.prog W .any base t v) →
      DataW.Whole enc C.prog fn.params.toList s.vars apart W args.toList ds gs before →
      conds.all (PathCond.test C.prog ⟨fn.params.toList, ds, s.plain.varTypes C.prog, gs⟩) = true →
      (DataW.weightsEach C.prog (fn.params.toList ++ s.plain.varTypes C.prog) (ds ++ gs)).all (· ≤ reachBytes) = true → laidMetH C.prog L W → W.ShapedOpen C.prog →
      a.holds C.prog (lone (Frame.enter C.prog f args .normal) [] W) →
      Calls C.prog f args W fun e W' => ∃ v, e = .returned v ∧ s.post enc C.prog fn apart fresh handsOn again W args v W') :
    ReturnsInHanded a C os f .any (fun w args => (s.pre enc C.prog fn conds apart w args ∧ laidMetH C.prog L w) ∧ sizedMet enc C.prog fn (OpenSpec.ofChange s) apart w args) (s.post enc C.prog fn apart fresh handsOn again) := by
  refine returnsInHanded_of_calls own started noInit witness ?_
  intro w tape i _ hsh _ hok hpre hholds
  obtain ⟨_, _, _, fn', hfn', _, _, _, _, hval⟩ := hok
  have e : fn' = fn := Option.some.inj (hfn'.symm.trans hfn)
  subst e
  obtain ⟨⟨⟨ds, gs, before, hw, hc⟩, hx⟩, hz⟩ := hpre
  have hw' := DataW.Whole.of_heap (w' := w.forCall tape i) (by rfl) hw
  refine (contract (w.forCall tape i) w.heap.size i.args ds gs before hval hw' hc (hz.weights hw) (hx.of_heap (by rfl)) hsh hholds).mono fun e W' ⟨v, he, hp⟩ => ?_
  subst he
  exact ChangeSpec.post_blind hp
end Go.Proofs.YtbkadfdpboghiaaDoor
