/- The calls of package slab, said of what is held (Ctx). -/
import Derived.Test.YtpfolcoijncfjaaSlabPure
import Derived.Test.YtpfolcoijncfjaaHold
namespace Go.Proofs.Ytpfolcoijncfjaa
open Go.RowKit

def slabR (b : Nat) (s : St) (w : World) (F : List Nat) : Prop := ∃ sv fv, SlabAt w b s sv fv ∧ F = foot b sv fv
theorem slabR_stable (b : Nat) (s : St) : Stable (slabR b s) := by
  rintro S w w' F ⟨sv, fv, h, rfl⟩ hf hd
  exact ⟨sv, fv, h.kept hf hd, rfl⟩
theorem slabR_lt {b : Nat} {s : St} {w : World} {F : List Nat} (h : slabR b s w F) : ∀ k ∈ F, k < w.heap.size := by
  obtain ⟨sv, fv, h, rfl⟩ := h; exact h.lt

theorem turns_of_does {r : Value} {b : Nat} {s' : St} {w : World} {F : List Nat} {e : Ending} {w' : World} (hd : Does r w b s' F e w') : Turns r w F (slabR b s') e w' := by
  obtain ⟨he, sv', fv', hS', hf, hn⟩ := hd
  exact ⟨he, _, ⟨sv', fv', hS', rfl⟩, hf, hn, hS'.lt⟩

section
variable {b : Nat} {s : St} {w w0 : World} {B : Nat} {L : List (Nat × Obj)} {Q : World → List Nat → Prop}

/-- What Take answers, and what there is then. -/
def St.takes (s : St) (c : Int) (u : Bool) (v : Int) : Value × St :=
  if c < 1 ∨ 4 < c then (.tuple #[.agg #[.int .i64 0, .int .i64 0], .int .i64 1], s)
  else if s.isFull u then (.tuple #[.agg #[.int .i64 0, .int .i64 0], .int .i64 11], s)
  else (.tuple #[.agg #[.int .i64 (s.pick.1 : Int), .int .i64 s.turn], .int .i64 0], s.take c v)

theorem full_left {s : St} {u : Bool} (h : s.Ok) (hf : s.isFull u = false) : 0 < s.left := by
  have h1 := h.freed_le
  have h2 := h.len
  cases u
  · simp [St.isFull] at hf
    have : 0 ≤ s.left := by unfold St.left; omega
    omega
  · simp [St.isFull] at hf
    have : 0 ≤ s.left := by unfold St.left; omega
    omega
theorem takes_Ok {s : St} (h : s.Ok) {c v : Int} {u : Bool} {r : Value} {s' : St} (he : s.takes c u v = (r, s')) : s'.Ok := by
  unfold St.takes at he
  by_cases hc : c < 1 ∨ 4 < c
  · rw [if_pos hc] at he; cases he; exact h
  · rw [if_neg hc] at he
    cases hf : s.isFull u with
    | true => rw [hf] at he; cases he; exact h
    | false => rw [hf] at he; cases he; exact take_Ok h (full_left h hf) (by omega) (by omega)

theorem take_goes (hQ : Stable Q) (h : Holds B w0 (sepR (slabR b s) Q) w L) (ho : s.Ok) (c v : Int) (u : Bool) (r : Value) (s' : St) (ht : s.turn ≤ 1000000) (he : s.takes c u v = (r, s')) :
    Calls Try.prog 21 #[.pointer (some ⟨b, 0, none⟩), .int .i64 c, .bool u, .int .i64 v] w (Goes r B w0 (sepR (slabR b s') Q) L) := by
  unfold St.takes at he
  by_cases hc : c < 1 ∨ 4 < c
  · rw [if_pos hc] at he
    cases he
    exact Goes.call_made (slabR_stable _ _) hQ h fun F _ => take_class b c v u hc
  · rw [if_neg hc] at he
    cases hf : s.isFull u with
    | true =>
      rw [hf] at he
      cases he
      exact Goes.call_made (slabR_stable _ _) hQ h fun F ⟨sv, fv, hS, hF⟩ => take_full hS ho.room ho.len ho.freed_le c v u (by omega) (by omega) hf
    | false =>
      rw [hf] at he
      cases he
      refine Goes.call hQ h fun F ⟨sv, fv, hS, hF⟩ => ?_
      subst hF
      exact (take_ok hS ho c v u (by omega) (by omega) hf (full_left ho hf) ht).mono fun e w' hm => turns_of_does hm
theorem free_goes (hQ : Stable Q) (h : Holds B w0 (sepR (slabR b s) Q) w L) (ho : s.Ok) (x t : Int) {i : Nat} {c v : Int} (hl : s.look x t = some (i, c, v)) :
    Calls Try.prog 22 #[.pointer (some ⟨b, 0, none⟩), .agg #[.int .i64 x, .int .i64 t]] w (Goes (.tuple #[.int .i64 v, .int .i64 0]) B w0 (sepR (slabR b (s.free i t)) Q) L) := by
  have h1 := ho.freed_le
  have h2 := ho.len
  have h3 := ho.room
  refine Goes.call hQ h fun F ⟨sv, fv, hS, hF⟩ => ?_
  subst hF
  exact (free_some hS (by omega) (by omega) x t i c v hl).mono fun e w' hm => turns_of_does hm
theorem free_stale (hQ : Stable Q) (h : Holds B w0 (sepR (slabR b s) Q) w L) (ho : s.Ok) (x t : Int) (hl : s.look x t = none) :
    Calls Try.prog 22 #[.pointer (some ⟨b, 0, none⟩), .agg #[.int .i64 x, .int .i64 t]] w (Goes (.tuple #[.int .i64 0, .int .i64 12]) B w0 (sepR (slabR b s) Q) L) := by
  have h2 := ho.len
  have h3 := ho.room
  exact Goes.call_made (slabR_stable _ _) hQ h fun F ⟨sv, fv, hS, hF⟩ => free_none hS (by omega) x t hl
theorem get_goes (hQ : Stable Q) (h : Holds B w0 (sepR (slabR b s) Q) w L) (ho : s.Ok) (x t : Int) {i : Nat} {c v : Int} (hl : s.look x t = some (i, c, v)) :
    Calls Try.prog 24 #[.pointer (some ⟨b, 0, none⟩), .agg #[.int .i64 x, .int .i64 t]] w (Goes (.tuple #[.int .i64 v, .int .i64 0]) B w0 (sepR (slabR b s) Q) L) := by
  have h2 := ho.len
  have h3 := ho.room
  exact Goes.call_made (slabR_stable _ _) hQ h fun F ⟨sv, fv, hS, hF⟩ => get_some hS (by omega) x t i c v hl
theorem get_stale (hQ : Stable Q) (h : Holds B w0 (sepR (slabR b s) Q) w L) (ho : s.Ok) (x t : Int) (hl : s.look x t = none) :
    Calls Try.prog 24 #[.pointer (some ⟨b, 0, none⟩), .agg #[.int .i64 x, .int .i64 t]] w (Goes (.tuple #[.int .i64 0, .int .i64 12]) B w0 (sepR (slabR b s) Q) L) := by
  have h2 := ho.len
  have h3 := ho.room
  exact Goes.call_made (slabR_stable _ _) hQ h fun F ⟨sv, fv, hS, hF⟩ => get_none hS (by omega) x t hl
theorem class_goes (hQ : Stable Q) (h : Holds B w0 (sepR (slabR b s) Q) w L) (ho : s.Ok) (x t : Int) {i : Nat} {c v : Int} (hl : s.look x t = some (i, c, v)) :
    Calls Try.prog 26 #[.pointer (some ⟨b, 0, none⟩), .agg #[.int .i64 x, .int .i64 t]] w (Goes (.tuple #[.int .i64 c, .int .i64 0]) B w0 (sepR (slabR b s) Q) L) := by
  have h2 := ho.len
  have h3 := ho.room
  exact Goes.call_made (slabR_stable _ _) hQ h fun F ⟨sv, fv, hS, hF⟩ => class_some hS (by omega) x t i c v hl
theorem class_stale (hQ : Stable Q) (h : Holds B w0 (sepR (slabR b s) Q) w L) (ho : s.Ok) (x t : Int) (hl : s.look x t = none) :
    Calls Try.prog 26 #[.pointer (some ⟨b, 0, none⟩), .agg #[.int .i64 x, .int .i64 t]] w (Goes (.tuple #[.int .i64 0, .int .i64 12]) B w0 (sepR (slabR b s) Q) L) := by
  have h2 := ho.len
  have h3 := ho.room
  exact Goes.call_made (slabR_stable _ _) hQ h fun F ⟨sv, fv, hS, hF⟩ => class_none hS (by omega) x t hl
theorem set_goes (hQ : Stable Q) (h : Holds B w0 (sepR (slabR b s) Q) w L) (ho : s.Ok) (x t u : Int) {i : Nat} {c v : Int} (hl : s.look x t = some (i, c, v)) :
    Calls Try.prog 25 #[.pointer (some ⟨b, 0, none⟩), .agg #[.int .i64 x, .int .i64 t], .int .i64 u] w (Goes (.int .i64 0) B w0 (sepR (slabR b { s with slots := s.slots.set i (c, t, u) }) Q) L) := by
  have h2 := ho.len
  have h3 := ho.room
  refine Goes.call hQ h fun F ⟨sv, fv, hS, hF⟩ => ?_
  subst hF
  exact (set_some hS (by omega) x t u i c v hl).mono fun e w' hm => turns_of_does hm
theorem set_stale (hQ : Stable Q) (h : Holds B w0 (sepR (slabR b s) Q) w L) (ho : s.Ok) (x t u : Int) (hl : s.look x t = none) :
    Calls Try.prog 25 #[.pointer (some ⟨b, 0, none⟩), .agg #[.int .i64 x, .int .i64 t], .int .i64 u] w (Goes (.int .i64 12) B w0 (sepR (slabR b s) Q) L) := by
  have h2 := ho.len
  have h3 := ho.room
  exact Goes.call_made (slabR_stable _ _) hQ h fun F ⟨sv, fv, hS, hF⟩ => set_none hS (by omega) x t u hl
theorem left_goes (hQ : Stable Q) (h : Holds B w0 (sepR (slabR b s) Q) w L) (ho : s.Ok) :
    Calls Try.prog 20 #[.pointer (some ⟨b, 0, none⟩)] w (Goes (.int .i64 s.left) B w0 (sepR (slabR b s) Q) L) :=
  Goes.call_made (slabR_stable _ _) hQ h fun _ ⟨_, _, hS, _⟩ => (left_any hS ho.room ho.len ho.freed_le).mono fun _ _ ⟨he, _, hw⟩ => ⟨he, hw ▸ (Frm.refl _ _).drewN _⟩
theorem new_goes (hQ : Stable Q) (h : Holds B w0 Q w L) (n r : Nat) (h1 : 1 ≤ n) (h2 : n ≤ 4096) (h3 : r ≤ n) :
    Calls Try.prog 9 #[.int .i64 n, .int .i64 r] w (Goes (.tuple #[.pointer (some ⟨w.heap.size, 0, none⟩), .int .i64 0]) B w0 (sepR (slabR w.heap.size ⟨n, r, [], []⟩) Q) L) := by
  refine Goes.call hQ h.empty fun F hF => ?_
  have : F = [] := hF
  subst this
  refine (new_ok n r h1 h2 h3).mono fun e w' hm => ?_
  obtain ⟨he, hS, hf⟩ := hm
  exact ⟨he, _, ⟨_, _, hS, rfl⟩, hf, fun k hk => by simp [foot, Value.ownBlock] at hk; exact .inr (by omega), hS.lt⟩
theorem new_Ok {n r : Nat} (h2 : n ≤ 4096) (h3 : r ≤ n) : (⟨n, r, [], []⟩ : St).Ok :=
  ⟨h2, h3, by simp, by simp, by simp, by simp⟩

set_option maxHeartbeats 400000 in
/-- Live of no classes: of all. -/
theorem live_goes (hQ : Stable Q) (h : Holds B w0 (sepR (slabR b s) Q) w L) (ho : s.Ok) :
    Calls Try.prog 23 #[.pointer (some ⟨b, 0, none⟩), .slice none 0 0] w (Goes (.int .i64 ((s.slots.length : Int) - (s.freed.length : Int))) B w0 (sepR (slabR b s) Q) L) := by
  refine Goes.call_made (slabR_stable _ _) hQ h fun F ⟨sv, fv, hS, hF⟩ => ?_
  have h2 := ho.len
  have h3 := ho.room
  have hk := Lib.hid hS
  have Ho := Lib.hid ho.freed_le
  clear hS hF h ho
  go_enter Try.func23, Try.ntmps23
  go_wp2_with fail
  refine (held_any hk.out (by omega) Ho.out).mono ?_
  rintro e w' ⟨rfl, n, rfl⟩
  go_wp2
  go_ret
  exact ⟨rfl, (Frm.refl _ _).drewN _⟩
end
end Go.Proofs.Ytpfolcoijncfjaa
