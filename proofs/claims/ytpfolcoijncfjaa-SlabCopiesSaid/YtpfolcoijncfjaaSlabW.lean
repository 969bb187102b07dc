/- What the calls of package slab do to a slab in memory: one contract a function. -/
import Derived.Test.YtpfolcoijncfjaaRows
import Derived.Test.YtpfolcoijncfjaaSlabSt
namespace Go.Proofs.Ytpfolcoijncfjaa
open Go.RowKit

/-- A call that only reads: nothing that was there has turned. -/
def Still (r : Value) (w : World) (e : Ending) (w' : World) : Prop := e = .returned r ∧ ∃ n, w' = w.drewN n
def Made (r : Value) (w : World) (e : Ending) (w' : World) : Prop := e = .returned r ∧ Frm [] w w'

set_option maxHeartbeats 400000 in
theorem held_any {w : World} {b : Nat} {s : St} {sv fv : Value} (h : SlabAt w b s sv fv) (hl : s.slots.length ≤ 4096) (hf : s.freed.length ≤ s.slots.length) :
    Calls Try.prog 34 #[.pointer (some ⟨b, 0, none⟩)] w (Still (.int .i64 ((s.slots.length : Int) - (s.freed.length : Int))) w) := by
  have hb := lt_of_obj h.box
  have h2 := h.c2
  have h3 := h.c3
  obtain ⟨a, c, rfl⟩ := row_slice h.rowS
  obtain ⟨a', c', rfl⟩ := row_slice h.rowF
  clear h
  go_enter Try.func34, Try.ntmps34
  go_wp2
  go_quiet (fail)
  go_wp2
  go_ret
  exact ⟨rfl, _, rfl⟩

set_option maxHeartbeats 400000 in
theorem left_any {w : World} {b : Nat} {s : St} {sv fv : Value} (h : SlabAt w b s sv fv) (hr : s.room ≤ 4096) (hl : s.slots.length ≤ s.room) (hf : s.freed.length ≤ s.slots.length) :
    Calls Try.prog 20 #[.pointer (some ⟨b, 0, none⟩)] w (Still (.int .i64 ((s.room : Int) - ((s.slots.length : Int) - (s.freed.length : Int)))) w) := by
  have hb := lt_of_obj h.box
  have h0 := h.c0
  have hk := Lib.hid h
  clear h
  go_enter Try.func20, Try.ntmps20
  go_wp2
  go_quiet ((go_at_call 34; exact Calls.quiet_of (held_any (hk.out.drewN _) (by omega) hf)))
  go_wp2
  go_ret
  exact ⟨rfl, _, rfl⟩

set_option maxHeartbeats 400000 in
theorem full_urgent {w : World} {b : Nat} {s : St} {sv fv : Value} (h : SlabAt w b s sv fv) (hr : s.room ≤ 4096) (hl : s.slots.length ≤ s.room) (hf : s.freed.length ≤ s.slots.length) :
    Calls Try.prog 35 #[.pointer (some ⟨b, 0, none⟩), .bool true] w (Still (.bool ((s.room : Int) - ((s.slots.length : Int) - (s.freed.length : Int)) == 0)) w) := by
  have hb := lt_of_obj h.box
  have hk := Lib.hid h
  clear h
  go_enter Try.func35, Try.ntmps35
  go_wp2_with fail
  refine (left_any hk.out hr hl hf).mono ?_
  rintro e w' ⟨rfl, n, rfl⟩
  go_wp2
  go_ret
  exact ⟨rfl, _, rfl⟩

set_option maxHeartbeats 400000 in
theorem full_plain {w : World} {b : Nat} {s : St} {sv fv : Value} (h : SlabAt w b s sv fv) (hr : s.room ≤ 4096) (hl : s.slots.length ≤ s.room) (hf : s.freed.length ≤ s.slots.length) :
    Calls Try.prog 35 #[.pointer (some ⟨b, 0, none⟩), .bool false] w (Still (.bool (decide ((s.room : Int) - ((s.slots.length : Int) - (s.freed.length : Int)) ≤ s.reserve))) w) := by
  have hb := lt_of_obj h.box
  have h1 := h.c1
  have hk := Lib.hid h
  clear h
  go_enter Try.func35, Try.ntmps35
  go_wp2
  go_quiet ((go_at_call 20; exact Calls.quiet_of (left_any (hk.out.drewN _) hr hl hf)))
  go_wp2
  go_ret
  exact ⟨rfl, _, rfl⟩

set_option maxHeartbeats 400000 in
theorem find_nil (x t : Int) (w : World) :
    Calls Try.prog 37 #[.pointer none, .agg #[.int .i64 x, .int .i64 t]] w (Made (.tuple #[.pointer none, .int .i64 2]) w) := by
  go_enter Try.func37, Try.ntmps37
  go_wp2
  go_ret2
  exact ⟨rfl, (Frm.refl _ _).alloc _⟩

set_option maxHeartbeats 400000 in
theorem find_neg (p : Addr) (x t : Int) (h : x < 0) (w : World) :
    Calls Try.prog 37 #[.pointer (some p), .agg #[.int .i64 x, .int .i64 t]] w (Made (.tuple #[.pointer none, .int .i64 12]) w) := by
  go_enter Try.func37, Try.ntmps37
  go_wp2
  go_quiet (fail)
  go_wp2
  go_ret2
  exact ⟨rfl, ((Frm.refl _ _).alloc _).drewN _⟩

set_option maxHeartbeats 400000 in
theorem find_out {w : World} {b : Nat} {s : St} {sv fv : Value} (h : SlabAt w b s sv fv) (_hl : s.slots.length ≤ 4096) (i : Nat) (t : Int) (hi : s.slots.length ≤ i) :
    Calls Try.prog 37 #[.pointer (some ⟨b, 0, none⟩), .agg #[.int .i64 i, .int .i64 t]] w (Made (.tuple #[.pointer none, .int .i64 12]) w) := by
  have hb := lt_of_obj h.box
  have h2 := h.c2
  obtain ⟨a, c, rfl⟩ := row_slice h.rowS
  have hd : decide ((s.slots.length : Int) ≤ (i : Int)) = true := by simpa using hi
  clear h
  go_enter Try.func37, Try.ntmps37
  go_wp2
  go_quiet (fail)
  go_wp2
  go_ret2
  exact ⟨rfl, ((Frm.refl _ _).alloc _).drewN _⟩

set_option maxHeartbeats 400000 in
theorem find_empty {w : World} {b : Nat} {s : St} {sv fv : Value} (h : SlabAt w b s sv fv) (_hl : s.slots.length ≤ 4096) (i : Nat) (t t' v : Int) (hi : s.slots[i]? = some (0, t', v)) :
    Calls Try.prog 37 #[.pointer (some ⟨b, 0, none⟩), .agg #[.int .i64 i, .int .i64 t]] w (Made (.tuple #[.pointer none, .int .i64 12]) w) := by
  have hb := lt_of_obj h.box
  have h2 := h.c2
  obtain ⟨g, cap, rfl, hg, hc, _, _, _⟩ := h.slot hi
  have hlt := (List.getElem?_eq_some_iff.1 hi).1
  have hd : decide ((s.slots.length : Int) ≤ (i : Int)) = false := by simpa using hlt
  clear h hi
  go_enter Try.func37, Try.ntmps37
  go_wp2
  go_quiet (fail)
  go_wp2
  go_quiet (fail)
  go_wp2
  go_quiet (fail)
  go_wp2
  go_ret2
  exact ⟨rfl, ((((Frm.refl _ _).alloc _).drewN _).drewN _).drewN _⟩

set_option maxHeartbeats 400000 in
theorem find_other {w : World} {b : Nat} {s : St} {sv fv : Value} (h : SlabAt w b s sv fv) (_hl : s.slots.length ≤ 4096) (i : Nat) (c t t' v : Int) (hi : s.slots[i]? = some (c, t', v)) (hc0 : (c == 0) = false) (ht : (t' == t) = false) :
    Calls Try.prog 37 #[.pointer (some ⟨b, 0, none⟩), .agg #[.int .i64 i, .int .i64 t]] w (Made (.tuple #[.pointer none, .int .i64 12]) w) := by
  have hb := lt_of_obj h.box
  have h2 := h.c2
  obtain ⟨g, cap, rfl, hg, hc, hct, _, _⟩ := h.slot hi
  have hlt := (List.getElem?_eq_some_iff.1 hi).1
  have hd : decide ((s.slots.length : Int) ≤ (i : Int)) = false := by simpa using hlt
  have ht2 : (t' != t) = true := by simp [bne, ht]
  clear h hi
  go_enter Try.func37, Try.ntmps37
  go_wp2
  go_quiet (fail)
  go_wp2
  go_quiet (fail)
  go_wp2
  go_quiet (fail)
  go_wp2
  go_ret2
  exact ⟨rfl, ((((Frm.refl _ _).alloc _).drewN _).drewN _).drewN _⟩

/-- A handle that tells nothing. -/
theorem find_none {w : World} {b : Nat} {s : St} {sv fv : Value} (h : SlabAt w b s sv fv) (hl : s.slots.length ≤ 4096) (x t : Int) (hn : s.look x t = none) :
    Calls Try.prog 37 #[.pointer (some ⟨b, 0, none⟩), .agg #[.int .i64 x, .int .i64 t]] w (Made (.tuple #[.pointer none, .int .i64 12]) w) := by
  rcases look_none hn with h0 | ⟨i, rfl, hi⟩ | ⟨i, c, t', v, rfl, _, hi, hc⟩
  · exact find_neg _ _ _ h0 _
  · exact find_out h hl i t hi
  · rcases hc with rfl | ⟨hc, ht⟩
    · exact find_empty h hl i t t' v hi
    · exact find_other h hl i c t t' v hi (by simpa using hc) (by simpa using ht)

set_option maxHeartbeats 400000 in
theorem find_some {w : World} {b : Nat} {s : St} {g cap : Nat} {fv : Value} (h : SlabAt w b s (.slice (some ⟨g, 0, none⟩) s.slots.length cap) fv) (_hl : s.slots.length ≤ 4096) (i : Nat) (c t v : Int) (hi : s.slots[i]? = some (c, t, v)) (hc0 : (c == 0) = false) :
    Calls Try.prog 37 #[.pointer (some ⟨b, 0, none⟩), .agg #[.int .i64 i, .int .i64 t]] w (Made (.tuple #[.pointer (some ⟨g, i * 3, none⟩), .int .i64 0]) w) := by
  have hb := lt_of_obj h.box
  have h2 := h.c2
  obtain ⟨g', cap', he, hg, hc, hct, _, _⟩ := h.slot hi
  simp only [Value.slice.injEq, Option.some.injEq, Addr.mk.injEq, and_true, true_and] at he
  obtain ⟨rfl, rfl⟩ := he
  have hlt := (List.getElem?_eq_some_iff.1 hi).1
  have hd : decide ((s.slots.length : Int) ≤ (i : Int)) = false := by simpa using hlt
  clear h hi
  go_enter Try.func37, Try.ntmps37
  go_wp2
  go_quiet (fail)
  go_wp2
  go_quiet (fail)
  go_wp2
  go_quiet (fail)
  go_wp2
  go_ret2
  exact ⟨rfl, ((((Frm.refl _ _).alloc _).drewN _).drewN _).drewN _⟩

set_option maxHeartbeats 400000 in
theorem get_none {w : World} {b : Nat} {s : St} {sv fv : Value} (h : SlabAt w b s sv fv) (hl : s.slots.length ≤ 4096) (x t : Int) (hn : s.look x t = none) :
    Calls Try.prog 24 #[.pointer (some ⟨b, 0, none⟩), .agg #[.int .i64 x, .int .i64 t]] w (Made (.tuple #[.int .i64 0, .int .i64 12]) w) := by
  have hk := Lib.hid h
  have Hn := Lib.hid hn
  clear h hn
  go_enter Try.func24, Try.ntmps24
  go_wp2_with fail
  refine (find_none (hk.out.alloc _) hl x t Hn.out).mono ?_
  rintro e w1 ⟨rfl, hF⟩
  go_wp2
  go_ret2
  exact ⟨rfl, ((Frm.refl _ _).alloc _).trans hF (by simp)⟩

set_option maxHeartbeats 400000 in
theorem get_some {w : World} {b : Nat} {s : St} {sv fv : Value} (h : SlabAt w b s sv fv) (hl : s.slots.length ≤ 4096) (x t : Int) (i : Nat) (c v : Int) (hn : s.look x t = some (i, c, v)) :
    Calls Try.prog 24 #[.pointer (some ⟨b, 0, none⟩), .agg #[.int .i64 x, .int .i64 t]] w (Made (.tuple #[.int .i64 v, .int .i64 0]) w) := by
  obtain ⟨rfl, hi, hc0, hlt⟩ := look_some hn
  obtain ⟨g, cap, rfl, hg, hc, hct, hcv, _⟩ := h.slot hi
  have hk := Lib.hid h
  have Hi := Lib.hid hi
  have Hc := Lib.hid hc0
  have Hv := Lib.hid hcv
  clear h hn hi hc0 hc hct hcv
  go_enter Try.func24, Try.ntmps24
  go_wp2_with fail
  refine (find_some (hk.out.alloc _) hl i c t v Hi.out (by simpa using Hc.out)).mono ?_
  rintro e w1 ⟨rfl, hF⟩
  have hv1 := (((Frm.refl [] w).alloc _).trans hF (by simp)).cell Hv.out (by simp)
  go_wp2
  go_ret2
  exact ⟨rfl, ((Frm.refl _ _).alloc _).trans hF (by simp)⟩

set_option maxHeartbeats 400000 in
theorem class_none {w : World} {b : Nat} {s : St} {sv fv : Value} (h : SlabAt w b s sv fv) (hl : s.slots.length ≤ 4096) (x t : Int) (hn : s.look x t = none) :
    Calls Try.prog 26 #[.pointer (some ⟨b, 0, none⟩), .agg #[.int .i64 x, .int .i64 t]] w (Made (.tuple #[.int .i64 0, .int .i64 12]) w) := by
  have hk := Lib.hid h
  have Hn := Lib.hid hn
  clear h hn
  go_enter Try.func26, Try.ntmps26
  go_wp2_with fail
  refine (find_none (hk.out.alloc _) hl x t Hn.out).mono ?_
  rintro e w1 ⟨rfl, hF⟩
  go_wp2
  go_ret2
  exact ⟨rfl, ((Frm.refl _ _).alloc _).trans hF (by simp)⟩

set_option maxHeartbeats 400000 in
theorem class_some {w : World} {b : Nat} {s : St} {sv fv : Value} (h : SlabAt w b s sv fv) (hl : s.slots.length ≤ 4096) (x t : Int) (i : Nat) (c v : Int) (hn : s.look x t = some (i, c, v)) :
    Calls Try.prog 26 #[.pointer (some ⟨b, 0, none⟩), .agg #[.int .i64 x, .int .i64 t]] w (Made (.tuple #[.int .i64 c, .int .i64 0]) w) := by
  obtain ⟨rfl, hi, hc0, hlt⟩ := look_some hn
  obtain ⟨g, cap, rfl, hg, hc, hct, hcv, _⟩ := h.slot hi
  have hk := Lib.hid h
  have Hi := Lib.hid hi
  have Hc := Lib.hid hc0
  have Hv := Lib.hid hc
  clear h hn hi hc0 hc hct hcv
  go_enter Try.func26, Try.ntmps26
  go_wp2_with fail
  refine (find_some (hk.out.alloc _) hl i c t v Hi.out (by simpa using Hc.out)).mono ?_
  rintro e w1 ⟨rfl, hF⟩
  have hv1 := (((Frm.refl [] w).alloc _).trans hF (by simp)).cell Hv.out (by simp)
  go_wp2
  go_ret2
  exact ⟨rfl, ((Frm.refl _ _).alloc _).trans hF (by simp)⟩

set_option maxHeartbeats 400000 in
theorem set_none {w : World} {b : Nat} {s : St} {sv fv : Value} (h : SlabAt w b s sv fv) (hl : s.slots.length ≤ 4096) (x t u : Int) (hn : s.look x t = none) :
    Calls Try.prog 25 #[.pointer (some ⟨b, 0, none⟩), .agg #[.int .i64 x, .int .i64 t], .int .i64 u] w (Made (.int .i64 12) w) := by
  have hk := Lib.hid h
  have Hn := Lib.hid hn
  clear h hn
  go_enter Try.func25, Try.ntmps25
  go_wp2_with fail
  refine (find_none (hk.out.alloc _) hl x t Hn.out).mono ?_
  rintro e w1 ⟨rfl, hF⟩
  go_wp2
  go_ret
  exact ⟨rfl, ((Frm.refl _ _).alloc _).trans hF (by simp)⟩

set_option maxHeartbeats 400000 in
theorem set_some {w : World} {b : Nat} {s : St} {sv fv : Value} (h : SlabAt w b s sv fv) (hl : s.slots.length ≤ 4096) (x t u : Int) (i : Nat) (c v : Int) (hn : s.look x t = some (i, c, v)) :
    Calls Try.prog 25 #[.pointer (some ⟨b, 0, none⟩), .agg #[.int .i64 x, .int .i64 t], .int .i64 u] w (Does (.int .i64 0) w b { s with slots := s.slots.set i (c, t, u) } (foot b sv fv)) := by
  obtain ⟨rfl, hi, hc0, hlt⟩ := look_some hn
  obtain ⟨g, cap, rfl, hg, hc, hct, hcv, hfz⟩ := h.slot hi
  have hk := Lib.hid h
  have Hi := Lib.hid hi
  have Hc := Lib.hid hc0
  have Hv := Lib.hid hcv
  have Hz := Lib.hid (hfz (i * 3 + 2))
  clear h hn hi hc0 hc hct hcv hfz
  go_enter Try.func25, Try.ntmps25
  go_wp2_with fail
  refine (find_some (hk.out.alloc _) hl i c t v Hi.out (by simpa using Hc.out)).mono ?_
  rintro e w1 ⟨rfl, hF⟩
  have hF' := ((Frm.refl [] w).alloc _).trans hF (by simp)
  have hv1 := hF'.cell Hv.out (by simp)
  have hz1 := (hF'.frozen (a := ⟨g, i * 3 + 2, none⟩) hg (by simp)).trans Hz.out
  have hk1 := Lib.hid (hk.out.kept hF' (by simp))
  go_wp2
  go_ret
  refine ⟨rfl, _, _, hk1.out.storeV rfl Hi.out u, (hF'.mono (by simp)).setCell (.inl (mem_foot.2 (.inr (.inl rfl)))) _, fun k hk => .inl hk⟩
end Go.Proofs.Ytpfolcoijncfjaa
