/- The document's answer: Copy. -/
import Derived.Test.YtclaicpnjllhjaaHeapRef
namespace Go.Proofs.Ytclaicpnjllhjaa
open Go.RowKit Go.Maps

section
variable {α : Type} {enc : α → List Value} {P : Program}
theorem step_append_sl {w : World} {ops : Array Oper} {o : Oper} {a : Act} {K : Act → World → Prop} {Q : Exit → Act → World → Prop} {E : Prop} (hgd : o.guard = none) (s x : Operand) (t : TypeId)
    (ho : o.op = .call { callee := .builtin .append, args := #[s, x], argTypes := #[t, t] })
    (e : TypeId) (i : TypeInfo) (z : Value) (size bytes : Nat) (ht : P.underlying t = some (.slice e)) (hi : P.info? e = some i) (hz : i.zero = some z)
    (hsize : i.size = size) (hby : i.bytes = bytes) (hzs : z.cells.size = size) (hsz : 0 < size)
    (v : Value) (n : Nat) (xs : List Value) (hs : a.eval s = v) (hown : w.ownsRow 0 e size v n xs)
    (A : Option Addr) (m c : Nat) (l : List α) (hx : a.eval x = .slice A m c) (hsl : SlAt enc size w A m c l) (hnil : A = none → m = 0 ∧ c = 0) (hk : ∀ x, (enc x).length = size) (h1 : ∀ x, ∀ u ∈ enc x, u.oneCell' = true)
    (h63 : n + m ≤ maxLen) (hbytes : (n + m) * bytes ≤ 140737488355328)
    (h : ∀ (a' : Option Addr) (c' : Nat) (w' : World), w'.ownsRow 0 e size (.slice a' (n + m) c') (n + m) (xs ++ flat enc l) → Frm v.ownBlock.toList w w' → (∀ k, (Value.slice a' (n + m) c').ownBlock = some k → v.ownBlock = some k ∨ w.heap.size ≤ k) → K (a.put o.dst (.slice a' (n + m) c')) w') :
    if Region.wanted o (yielded ops a.tmps) = true then Oper.wp P o a w K Q else E := by
  have hw : Region.wanted o (yielded ops a.tmps) = true := by simp [Region.wanted, hgd]
  rw [if_pos hw]
  exact wp_append_sl w s x t ho e i z size bytes ht hi hz hsize hby hzs hsz v n xs hs hown A m c l hx hsl hnil hk h1 h63 hbytes h
end
section
variable {B : Nat} {w0 w : World} {Q : World → List Nat → Prop} {L : List (Nat × Obj)}
set_option maxHeartbeats 4000000 in
set_option maxRecDepth 100000 in
theorem rcopy_goes (hQ : Stable Q) {b : Nat} {S : List Ent} (h : Holds B w0 (sepR (refR b S) Q) w L) (hn : S.length ≤ 200) :
    Calls Try.prog 16 #[.pointer (some ⟨b, 0, none⟩)] w (Goes (.pointer (some ⟨w.heap.size, 0, none⟩)) B w0 (sepR (refR w.heap.size S) (sepR (refR b S) Q)) L) := by
  have hs1 := sepR_stable (refR_stable b S) hQ
  have h1 := h.newBox hs1 #[.slice none 0 0] 30
  obtain ⟨a, c, h2⟩ := h1.drop.refOpen
  obtain ⟨c0, f0, hb, hsl⟩ := h2.refCells
  have hnil := (h2.drop).reads.2
  have h3 := h1.nilRow 42 5
  have hN := h1.theBox
  have n0 := cells1 hN
  have nf := frozen_of_obj hN 0
  have nl := lt_of_obj hN
  have hsB : Stable (sepR (boxR w.heap.size #[.slice none 0 0] 30) (sepR (refR b S) Q)) := sepR_stable (boxR_stable _ _ _) hs1
  have H3 := Lib.hid h3
  have HN := Lib.hid hN
  have Hsl := Lib.hid hsl
  have Hnil := Lib.hid hnil
  obtain ⟨i0, hi0, hi1, hi2, hi3⟩ := info_parts infoThing
  clear h h1 h2 h3 hN hsl hnil f0
  go_enter Try.func16, Try.ntmps16
  go_wp2_with fail
  go_region_law (refine step_append_sl rfl (.tmp 10) (.tmp 14) 28 rfl 42 i0 (.agg #[.int .i64 0, .int .i64 0, .int .i64 0, .int .i64 0, .int .i64 0]) 5 40 Try.underlying28 hi0 hi1 hi2 hi3 rfl (by decide) (.slice none 0 0) 0 [] rfl (H3.out.drew (sepR_stable (rowR_stable _ _ _ _ _) hsB)).row a S.length c S rfl (Hsl.out.frm (Frm.refl _ _).drew) Hnil.out ent_len ent_one (by unfold maxLen; omega) (by omega) ?_; intro a3 c3 w3 hown hF hnew; have hb3 := hF.obj (k := w.heap.size) HN.out (by simp [Value.ownBlock]); have hlb3 := lt_of_obj hb3; have hc3 := cells1 hb3; have hzz3 := frozen_of_obj hb3 0; have Hown := Lib.hid hown; have HF := Lib.hid hF; have Hnew := Lib.hid hnew; clear hown hF hnew hb3)
  all_goals
    go_wp2_with fail
    go_ret
    refine ⟨rfl, ?_⟩
    have h5 := (H3.out.drew (sepR_stable (rowR_stable _ _ _ _ _) hsB)).appended hsB Hown.out HF.out Hnew.out
    rw [Nat.zero_add, List.nil_append] at h5
    have h6 := (h5.conv Conv.exch).boxPut (sepR_stable (rowR_stable _ _ _ _ _) hs1) 0 (.slice a3 S.length c3)
    exact (((h6.conv Conv.exch).toRead ent_len rfl).conv Conv.exch).refShut
end
end Go.Proofs.Ytclaicpnjllhjaa
