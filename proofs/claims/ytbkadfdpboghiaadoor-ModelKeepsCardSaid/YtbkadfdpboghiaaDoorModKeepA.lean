/- ModelKeeps: what is held of a configuration that is written: rows of one's own, whatever they hold. -/
import Derived.Test.YtbkadfdpboghiaaDoorModChecks
namespace Go.Proofs.YtbkadfdpboghiaaDoor
open Go.RowKit Go.Maps

section
variable {α : Type} {enc : α → List Value} {P : Program}
theorem step_append_slM {w : World} {ops : Array Oper} {o : Oper} {a : Act} {K : Act → World → Prop} {Q : Exit → Act → World → Prop} {E : Prop} (hgd : o.guard = none) (s x : Operand) (t : TypeId)
    (ho : o.op = .call { callee := .builtin .append, args := #[s, x], argTypes := #[t, t] })
    (e : TypeId) (i : TypeInfo) (z : Value) (size bytes : Nat) (ht : P.underlying t = some (.slice e)) (hi : P.info? e = some i) (hz : i.zero = some z)
    (hsize : i.size = size) (hby : i.bytes = bytes) (hzs : z.cells.size = size) (hsz : 0 < size)
    (v : Value) (n : Nat) (xs : List Value) (hs : a.eval s = v) (hown : w.ownsRow 0 e size v n xs)
    (A : Option Addr) (m c : Nat) (l : List α) (hx : a.eval x = .slice A m c) (hsl : SlAt enc size w A m c l) (hnil : A = none → m = 0 ∧ c = 0) (hk : ∀ x, (enc x).length = size) (h1 : ∀ x, ∀ u ∈ enc x, u.oneCell' = true)
    (h63 : n + m ≤ maxLen) (hbytes : (n + m) * bytes ≤ 140737488355328)
    (h : ∀ (a' : Option Addr) (c' : Nat) (w' : World), w'.ownsRow 0 e size (.slice a' (n + m) c') (n + m) (xs ++ flat enc l) → Frm v.ownBlock.toList w w' → (∀ k, (Value.slice a' (n + m) c').ownBlock = some k → v.ownBlock = some k ∨ w.heap.size ≤ k) → K (a.put o.dst (.slice a' (n + m) c')) w') :
    if Region.wanted o (yielded ops a.tmps) = true then Oper.wp P o a w K Q else E := by
  have hw : Region.wanted o (yielded ops a.tmps) = true := by simp [Region.wanted, hgd]
  rw [if_pos hw]
  exact wp_append_sl w s x t ho e i z size bytes ht hi hz hsize hby hzs hsz v n xs hs hown A m c l hx hsl hnil hk h1 h63 hbytes h
end

/-- Programs, each in a row of one's own. -/
def insW (ds : List Pg) : World → List Nat → Prop := fun w F => ∀ p ∈ ds, w.ownsRow 0 58 5 (.slice p.a p.n p.c) p.n (flat Ins.enc p.l) ∧ p.l.length = p.n ∧ ∀ x, p.a = some x → x.block ∈ F
theorem insW_stable (ds : List Pg) : Stable (insW ds) := fun S w w' F h hf hd p hp => by
  obtain ⟨h1, h2, h3⟩ := h p hp
  refine ⟨hf.row h1 (fun k hk => ?_), h2, h3⟩
  cases ha : p.a with
  | none => rw [ha] at hk; simp [Value.ownBlock] at hk
  | some x => rw [ha] at hk; simp [Value.ownBlock] at hk; subst hk; exact hd _ (h3 x ha)
theorem Holds.insWStart {R : World → List Nat → Prop} {B : Nat} {w0 w : World} {L : List (Nat × Obj)} (h : Holds B w0 R w L) : Holds B w0 (sepR R (insW [])) w L := by
  have h1 := sepR_comm h.empty
  exact h1.conv (Conv.right fun w F hF _ => ⟨F, fun p hp => absurd hp (by simp), fun _ => Iff.rfl⟩)
theorem insW_more {ds : List Pg} {p : Pg} (hl : p.l.length = p.n) : Conv (sepR (rowR 58 5 (.slice p.a p.n p.c) p.n (flat Ins.enc p.l)) (insW ds)) (insW (ds ++ [p])) := fun w F hF hlt => by
  obtain ⟨F1, F2, ⟨hrow, hF1⟩, hins, _, _, _, rfl⟩ := hF
  refine ⟨F1 ++ F2, fun q hq => ?_, fun _ => Iff.rfl⟩
  rcases List.mem_append.1 hq with hq | hq
  · obtain ⟨h1, h2, h3⟩ := hins q hq
    exact ⟨h1, h2, fun x hx => by simp [h3 x hx]⟩
  · simp only [List.mem_singleton] at hq
    subst hq
    refine ⟨hrow, hl, fun x hx => ?_⟩
    rw [hF1, hx]
    simp [Value.ownBlock]

abbrev cpO (v1 v2 v3 : Value) (C : Cf) : Obj := .cells #[v1, v2, v3, .int .i64 C.fin, .int .i64 C.fuel, .int .i64 C.fan] 26
/-- The copy, behind k programs. -/
def KpP (C : Cf) (w1 : World) (iv : Value) (wr : World) : Prop :=
  ∃ (k : Nat) (a : Option Addr) (c : Nat) (ds : List Pg), k ≤ C.pn ∧ iv = .int .i64 (k : Int) ∧ ds.length = k ∧ ds.map Pg.l = (C.ps.take k).map Pg.l ∧
    Holds w1.heap.size w1 (sepR (rowR 52 1 (.slice a k c) k (flat Pg.enc ds)) (insW ds)) wr [(w1.heap.size, cpO (.slice a k c) (.slice C.la C.ln C.lc) (.slice C.sa C.sn C.sc) C)]

/-- A row of one's own, whatever it holds. -/
def OwnSome (w : World) (t : TypeId) (k : Nat) (a : Option Addr) (n c : Nat) : Prop := ∃ xs, w.ownsRow 0 t k (.slice a n c) n xs
theorem OwnSome.frm0 {w w' : World} {t : TypeId} {k : Nat} {a : Option Addr} {n c : Nat} (h : OwnSome w t k a n c) (hf : Frm [] w w') : OwnSome w' t k a n c := by
  obtain ⟨xs, h⟩ := h
  exact ⟨xs, hf.row h (by simp)⟩
theorem OwnSome.put {w : World} {t : TypeId} {k : Nat} {a : Option Addr} {n c : Nat} (h : OwnSome w t k a n c) (g j : Nat) (v : Value) : OwnSome (w.setCell ⟨g, j, none⟩ v) t k a n c := by
  obtain ⟨xs, h⟩ := h
  rcases row_nil_or h with ⟨hv, h0⟩ | ⟨g', cap, hv, _⟩
  · exact ⟨xs, ((Frm.refl [g] w).setCell (a := ⟨g, j, none⟩) (.inl (by simp)) v).row h (by rw [hv]; simp [Value.ownBlock])⟩
  · simp only [Value.slice.injEq] at hv
    obtain ⟨rfl, _, rfl⟩ := hv
    by_cases hg : g' = g
    · subst hg
      exact ⟨_, (h.stored j v).1⟩
    · exact ⟨xs, ((Frm.refl [g] w).setCell (a := ⟨g, j, none⟩) (.inl (by simp)) v).row h (by simp [Value.ownBlock, hg])⟩
theorem OwnSome.at_ {w : World} {t : TypeId} {k : Nat} {a : Option Addr} {n c : Nat} (h : OwnSome w t k a n c) (hn : 0 < n) : ∃ g, a = some ⟨g, 0, none⟩ ∧ g < w.heap.size ∧ n ≤ c ∧ (∀ j, w.frozen? ⟨g, j, none⟩ = false) ∧ ∀ j, j < n * k → ∃ u, w.cell? ⟨g, j, none⟩ = some u := by
  obtain ⟨xs, h⟩ := h
  obtain ⟨g, rfl, h1, h2⟩ := row_addr h hn
  refine ⟨g, rfl, h1, h2, fun j => h.frozenAt j, fun j hj => ?_⟩
  refine ⟨xs[j]'(by rw [h.1]; exact hj), ?_⟩
  rw [h.cellAt _ hj]
  exact List.getElem?_eq_getElem _

/-- The blocks from lo on, below hi. -/
def rng (lo hi : Nat) : List Nat := (List.range hi).filter fun k => decide (lo ≤ k)
theorem mem_rng {lo hi k : Nat} : k ∈ rng lo hi ↔ lo ≤ k ∧ k < hi := by
  unfold rng
  rw [List.mem_filter, List.mem_range, decide_eq_true_eq]
  omega
theorem Betw.apart {lo hi l2 h2 : Nat} {a : Option Addr} (h : Betw lo hi a) (hd : hi ≤ l2 ∨ h2 ≤ lo) : ∀ x, a = some x → x.block ∉ rng l2 h2 := fun x hx hm => by
  have h1 := h x hx
  have h3 := mem_rng.1 hm
  rcases hd with hd | hd <;> omega

/-- A block of the copy's that is written. -/
def CpBlk (ds : List Pg) (a2 a3 : Option Addr) (g : Nat) : Prop := (∃ p ∈ ds, ∃ x, p.a = some x ∧ x.block = g) ∨ (∃ x, a2 = some x ∧ x.block = g) ∨ ∃ x, a3 = some x ∧ x.block = g
/-- The copy, while it is written. -/
structure CpIn (C : Cf) (lo0 lo b3 : Nat) (a1 : Option Addr) (c1 : Nat) (ds : List Pg) (a2 : Option Addr) (c2 : Nat) (a3 : Option Addr) (c3 : Nat) (W : World) : Prop where
  box : W.heap[b3]? = some (cpO (.slice a1 C.pn c1) (.slice a2 C.ln c2) (.slice a3 C.sn c3) C)
  hdr : SlAt Pg.enc 1 W a1 C.pn c1 ds
  rows : ∀ p ∈ ds, OwnSome W 58 5 p.a p.n p.c
  pl : OwnSome W 59 5 a2 C.ln c2
  st : OwnSome W 61 4 a3 C.sn c3
  apart : ∀ g, CpBlk ds a2 a3 g → lo0 ≤ g ∧ g < lo ∧ g ≠ b3 ∧ ∀ x, a1 = some x → x.block ≠ g
section
variable {C : Cf} {lo0 lo b3 : Nat} {a1 : Option Addr} {c1 : Nat} {ds : List Pg} {a2 : Option Addr} {c2 : Nat} {a3 : Option Addr} {c3 : Nat} {W W' : World}
theorem CpIn.frm (h : CpIn C lo0 lo b3 a1 c1 ds a2 c2 a3 c3 W) (hf : Frm [] W W') : CpIn C lo0 lo b3 a1 c1 ds a2 c2 a3 c3 W' :=
  ⟨hf.obj h.box (by simp), h.hdr.frm hf, fun p hp => (h.rows p hp).frm0 hf, h.pl.frm0 hf, h.st.frm0 hf, h.apart⟩
theorem CpIn.put (h : CpIn C lo0 lo b3 a1 c1 ds a2 c2 a3 c3 W) {g : Nat} (hg : CpBlk ds a2 a3 g) (j : Nat) (v : Value) : CpIn C lo0 lo b3 a1 c1 ds a2 c2 a3 c3 (W.setCell ⟨g, j, none⟩ v) := by
  obtain ⟨h1, h2, h3, h4⟩ := h.apart g hg
  have hf : Frm [g] W (W.setCell ⟨g, j, none⟩ v) := (Frm.refl [g] W).setCell (a := ⟨g, j, none⟩) (.inl (by simp)) v
  exact ⟨hf.obj h.box (by simpa using fun e => h3 e.symm), h.hdr.frmS hf (fun x hx => by simpa using h4 x hx), fun p hp => (h.rows p hp).put g j v, h.pl.put g j v, h.st.put g j v, h.apart⟩
/-- Some cells of the copy's are written. -/
theorem CpIn.puts (h : CpIn C lo0 lo b3 a1 c1 ds a2 c2 a3 c3 W) {g : Nat} (hg : CpBlk ds a2 a3 g) : ∀ (vs : List Value) (j : Nat), CpIn C lo0 lo b3 a1 c1 ds a2 c2 a3 c3 (storeAll W g j vs) := by
  intro vs
  induction vs generalizing W with
  | nil => exact fun _ => h
  | cons v vs ih => exact fun j => ih (h.put hg j v) (j + 1)
theorem frm_puts {w9 : World} {g : Nat} {S : List Nat} (hg : g ∈ S) (h : Frm S w9 W) : ∀ (vs : List Value) (j : Nat), Frm S w9 (storeAll W g j vs) := by
  intro vs
  induction vs generalizing W with
  | nil => exact fun _ => h
  | cons v vs ih => exact fun j => ih (h.setCell (a := ⟨g, j, none⟩) (.inl hg) v) (j + 1)
theorem own_puts {t : TypeId} {k : Nat} {a : Option Addr} {n c g : Nat} (h : OwnSome W t k a n c) : ∀ (vs : List Value) (j : Nat), OwnSome (storeAll W g j vs) t k a n c := by
  intro vs
  induction vs generalizing W with
  | nil => exact fun _ => h
  | cons v vs ih => exact fun j => ih (h.put g j v) (j + 1)
end
/-- Out of what is held. -/
theorem CpIn.of {C : Cf} {w1 w : World} {a1 : Option Addr} {c1 : Nat} {ds : List Pg} {a2 : Option Addr} {c2 : Nat} {a3 : Option Addr} {c3 : Nat} (hdl : ds.length = C.pn)
    (h : Holds w1.heap.size w1 (sepR (rowR 61 4 (.slice a3 C.sn c3) C.sn (flat St.enc C.ss)) (sepR (rowR 59 5 (.slice a2 C.ln c2) C.ln (flat Pl.enc C.ls)) (sepR (rowR 52 1 (.slice a1 C.pn c1) C.pn (flat Pg.enc ds)) (insW ds)))) w [(w1.heap.size, cpO (.slice a1 C.pn c1) (.slice a2 C.ln c2) (.slice a3 C.sn c3) C)]) :
    CpIn C w1.heap.size w.heap.size w1.heap.size a1 c1 ds a2 c2 a3 c3 w := by
  have hbox := h.box (k := w1.heap.size) (o := cpO (.slice a1 C.pn c1) (.slice a2 C.ln c2) (.slice a3 C.sn c3) C) (by simp)
  obtain ⟨F, hctx, _, hlo, _⟩ := h
  have hnb := (hctx.box (w1.heap.size, cpO (.slice a1 C.pn c1) (.slice a2 C.ln c2) (.slice a3 C.sn c3) C) (by simp)).2
  have hlt := hctx.lt
  obtain ⟨F1, F', ⟨hr1, e1⟩, ⟨F2, F'', ⟨hr2, e2⟩, ⟨F3, F4, ⟨hr3, e3⟩, hins, d34, _, _, rfl⟩, d2, _, _, rfl⟩, d1, _, _, rfl⟩ := hctx.res
  refine ⟨hbox, SlAt.of_row Pg.enc_len hr3 hdl, fun p hp => ⟨_, (hins p hp).1⟩, ⟨_, hr2⟩, ⟨_, hr1⟩, fun g hg => ?_⟩
  have hm : g ∈ F1 ++ (F2 ++ (F3 ++ F4)) ∧ g ∉ F3 := by
    rcases hg with ⟨p, hp, x, hx, rfl⟩ | ⟨x, hx, rfl⟩ | ⟨x, hx, rfl⟩
    · have := (hins p hp).2.2 x hx
      exact ⟨by simp [this], fun h => d34 _ h this⟩
    · have h4 : x.block ∈ F2 := by rw [e2, hx]; simp [Value.ownBlock]
      exact ⟨by simp [h4], fun h => d2 _ h4 (by simp [h])⟩
    · have h4 : x.block ∈ F1 := by rw [e1, hx]; simp [Value.ownBlock]
      exact ⟨by simp [h4], fun h => d1 _ h4 (by simp [h])⟩
  refine ⟨hlo g hm.1, hlt g hm.1, fun e => hnb (by rw [← e]; exact hm.1), fun x hx e => hm.2 ?_⟩
  rw [e3, hx, ← e]
  simp [Value.ownBlock]
end Go.Proofs.YtbkadfdpboghiaaDoor
