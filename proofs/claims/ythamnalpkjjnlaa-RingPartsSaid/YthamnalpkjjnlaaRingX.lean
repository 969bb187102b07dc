/- A ring's calls: Push in one, Copy, All. -/
import Derived.Test.YthamnalpkjjnlaaRingW
namespace Go.Proofs.Ythamnalpkjjnlaa
open Go.RowKit Go.Maps

section
variable {B : Nat} {w0 w : World} {Q : World → List Nat → Prop} {L : List (Nat × Obj)}
theorem push_goes (hQ : Stable Q) {b room : Nat} {S : List It} (h : Holds B w0 (sepR (ringR b room S) Q) w L) (hr : 1 ≤ room) (t v : Int) :
    Calls Try.prog 22 #[.pointer (some ⟨b, 0, none⟩), .int .i64 t, .int .i64 v] w (Goes (.int .i64 (pushE room S t)) B w0 (sepR (ringR b room (pushS room S ⟨t, v⟩)) Q) L) := by
  obtain ⟨a, c, f, P, hf, _⟩ := h.ringOpen
  have hm := hf.many
  unfold pushE pushS
  by_cases he : early S t
  · rw [if_pos he, if_pos he]
    exact push_early hQ h he
  · rw [if_neg he, if_neg he]
    by_cases hf : S.length = room
    · rw [if_pos hf, if_pos hf]
      exact push_full hQ h he hf hr
    · rw [if_neg hf, if_neg hf]
      exact push_ok hQ h he (by omega)

theorem win_self {S : List It} (h : S.length ≤ 4096) : Win 0 S S := by
  refine ⟨?_, Nat.le_refl _, h, fun i x hx => ?_⟩
  · rcases Nat.eq_zero_or_pos S.length with h0 | h0
    · exact .inr ⟨h0, rfl⟩
    · exact .inl h0
  · have := (List.getElem?_eq_some_iff.1 hx).1
    rw [pl_lt (by omega), Nat.zero_add]
    exact hx

set_option maxHeartbeats 2000000 in
theorem copy_goes (hQ : Stable Q) {b room : Nat} {S : List It} (h : Holds B w0 (sepR (ringR b room S) Q) w L) :
    Calls Try.prog 14 #[.pointer (some ⟨b, 0, none⟩)] w fun e w' => ∃ N : Nat, e = .returned (.pointer (some ⟨N, 0, none⟩)) ∧ Holds B w0 (sepR (ringR N room S) (sepR (ringR b room S) Q)) w' L := by
  have hs := sepR_stable (ringR_stable b room S) hQ
  have hit := fun w' (hf : Frm [] w w') => items_says (h.ringAt.frm hf)
  obtain ⟨a, c, f, P, hf, h1⟩ := h.ringOpen
  have hb := h1.rBox.theBox
  obtain ⟨c0, c1, c2, c3⟩ := cells4 hb
  have hbl := lt_of_obj hb
  have H0 := Lib.hid h
  have Hf := Lib.hid hf
  have Hit := Lib.hid hit
  clear h h1 hf hit hb c1 c2
  go_enter Try.func14, Try.ntmps14
  go_wp2_with fail
  go_region_held3 (fun w' => w'.cell? ⟨b, 0, none⟩ = some (.int .i64 (room : Int)) ∧ w'.cell? ⟨b, 3, none⟩ = some (.int .i64 (S.length : Int)))
    (first | go_keep | exact ⟨hn.2.2.cell c0 (by simp), hn.2.2.cell c3 (by simp)⟩)
    ((go_at_call 31; refine (Hit.out _ ?_).mono ?_; (exact (Frm.refl _ _).drew); rintro e w1 ⟨a1, c1, rfl, hn⟩))
  all_goals
    have h2 := (H0.out.drew hs).newRowF hs hn
    have h3 := h2.newBox (sepR_stable (rowR_stable _ _ _ _ _) hs) #[.int .i64 (room : Int), .slice a1 S.length c1, .int .i64 0, .int .i64 (S.length : Int)] 59
    have hmm := Hf.out.many
    have hrm := Hf.out.room
    have h4 := (h3.conv Conv.fold).ringShut (f := 0) (P := S) ⟨win_self (by omega), Hf.out.rise, hmm, hmm, hrm⟩
    have H4 := Lib.hid h4
    clear hn h2 h3 h4
    go_wp2_with fail
    go_ret
    exact ⟨w1.heap.size, rfl, H4.out⟩

/-- What All answers: a function that has a box with the things in order. -/
def AllDoes (B : Nat) (w0 : World) (Q : World → List Nat → Prop) (L : List (Nat × Obj)) (b room : Nat) (S : List It) (e : Ending) (w' : World) : Prop :=
  ∃ (bx : Nat) (a : Option Addr) (c : Nat), e = .returned (.func (.func 33) #[] #[.pointer (some ⟨bx, 0, none⟩)]) ∧
    Holds B w0 (sepR (boxR bx #[.slice a S.length c] 57) (sepR (rowR 66 2 (.slice a S.length c) S.length (flat It.cells S)) (sepR (ringR b room S) Q))) w' L
set_option maxHeartbeats 2000000 in
theorem all_goes (hQ : Stable Q) {b room : Nat} {S : List It} (h : Holds B w0 (sepR (ringR b room S) Q) w L) : Calls Try.prog 15 #[.pointer (some ⟨b, 0, none⟩)] w (AllDoes B w0 Q L b room S) := by
  have hs := sepR_stable (ringR_stable b room S) hQ
  have hit := items_says h.ringAt
  have H0 := Lib.hid h
  have Hit := Lib.hid hit
  clear h hit
  go_enter Try.func15, Try.ntmps15
  go_wp2_with fail
  refine Hit.out.mono ?_
  rintro e w1 ⟨a, c, rfl, hn⟩
  have h2 := H0.out.newRowF hs hn
  have h3 := h2.newBox (sepR_stable (rowR_stable _ _ _ _ _) hs) #[.slice a S.length c] 57
  have H3 := Lib.hid h3
  clear hn h2 h3
  go_wp2_with fail
  go_ret
  exact ⟨_, a, c, rfl, H3.out⟩
end
end Go.Proofs.Ythamnalpkjjnlaa
