/- An insertion sort of a part of a row of events. -/
import Derived.Test.YtbkadfdpboghiaaDoorSortM
import Derived.BigRegion
namespace Go.Proofs.YtbkadfdpboghiaaDoor
open Go.RowKit Go.Maps

theorem adj_set (X Z : List Ev) (x y : Ev) : ((X ++ y :: x :: Z).set (X.length + 1) y).set X.length x = X ++ x :: y :: Z := by
  induction X with
  | nil => simp
  | cons a X ih => simp

def InsIn (B : Nat) (w0 : World) (Q : World → List Nat → Prop) (L : List (Nat × Obj)) (g n cap a : Nat) (A S R : List Ev) (x : Ev) (jv : Value) (wr : World) : Prop :=
  ∃ (P T : List Ev) (j : Nat), S = P ++ T ∧ jv = .int .i64 (j : Int) ∧ a + P.length = j ∧ (∀ y ∈ T, x.k.lt y.k = true) ∧ Alike (S ++ [x]) (P ++ [x] ++ T) ∧ Holds B w0 (sepR (evR g n cap (A ++ (P ++ [x] ++ T) ++ R)) Q) wr L
def InsOut (B : Nat) (w0 : World) (Q : World → List Nat → Prop) (L : List (Nat × Obj)) (g n cap a : Nat) (A M C : List Ev) (iv : Value) (wr : World) : Prop :=
  ∃ (t i : Nat) (S : List Ev), iv = .int .i64 (i : Int) ∧ a + t + 1 = i ∧ t ≤ M.length ∧ S.length = (M.take (t + 1)).length ∧ Asc S ∧ Alike (M.take (t + 1)) S ∧ Holds B w0 (sepR (evR g n cap (A ++ S ++ (M.drop (t + 1) ++ C))) Q) wr L

attribute [local go_sem ↓] Go.wp_at_zero Go.wp_at_succ in
set_option maxHeartbeats 2000000 in
set_option maxRecDepth 100000 in
theorem ins_goes {B : Nat} {w0 w : World} {Q : World → List Nat → Prop} {L : List (Nat × Obj)} {g n cap : Nat} (hQ : Stable Q) (A M C : List Ev) (h : Holds B w0 (sepR (evR g n cap (A ++ M ++ C)) Q) w L) {a b : Nat} (ha : A.length = a) (hb : a + M.length = b) (hlen : (A ++ M ++ C).length = n) (hn : n ≤ 1000) (_hcap : n ≤ cap) :
    Calls Tryd.prog 57 #[.slice (some ⟨g, 0, none⟩) n cap, .int .i64 (a : Int), .int .i64 (b : Int), .func (.func 46) #[] #[]] w fun e w' => e = .returned (.tuple #[]) ∧ ∃ M', Asc M' ∧ Alike M M' ∧ M'.length = M.length ∧ Holds B w0 (sepR (evR g n cap (A ++ M' ++ C)) Q) w' L := by
  have hl' : b ≤ n := by rw [← hlen, ← hb, ← ha]; simp only [List.length_append]; omega
  have Ha := Lib.hid ha
  have Hb := Lib.hid hb
  have hs : InsOut B w0 Q L g n cap a A M C (.int .i64 ((a : Int) + 1)) w := by
    cases M with
    | nil => exact ⟨0, a + 1, [], rfl, rfl, by simp, rfl, asc_nil, Alike.refl _, by simpa using h⟩
    | cons x M => exact ⟨0, a + 1, [x], rfl, rfl, by simp, by simp, List.pairwise_singleton .., by simpa using Alike.refl [x], by simpa using h⟩
  have Hs := Lib.hid hs
  have hal : a ≤ n := by omega
  clear hs h hlen ha hb
  go_enter Tryd.func57, Tryd.ntmps57
  go_wp2_with fail
  go_loopw [8] (fun iv wr => InsOut B w0 Q L g n cap a A M C iv wr) (fun iv _ => n + 2 - (intOf iv).toNat)
  case atStart => exact Hs.out
  case round =>
    obtain ⟨t, i, S, rfl, hti, ht, hSl, hSa, hSk, hH⟩ := hrel
    have Hti := Lib.hid hti
    have HH := Lib.hid hH
    have HSa := Lib.hid hSa
    have HSk := Lib.hid hSk
    clear hH hSa hSk Hs
    by_cases hlt : i < b
    · have hMl : t + 1 < M.length := by have := Hb.out; omega
      clear hti
      obtain ⟨x, hx⟩ : ∃ x, M[t + 1]? = some x := ⟨_, List.getElem?_eq_getElem (by omega)⟩
      have hSl' : S.length = t + 1 := by rw [hSl, List.length_take]; omega
      have hdr : M.drop (t + 1) = x :: M.drop (t + 2) := by
        rw [List.drop_eq_getElem_cons (by omega)]
        congr 1
        exact (List.getElem?_eq_some_iff.1 hx).2
      have htk : M.take (t + 2) = M.take (t + 1) ++ [x] := by rw [List.take_add_one (i := t + 1), hx]; rfl
      have h1 := HH.out
      rw [hdr] at h1
      have hin : InsIn B w0 Q L g n cap a A S (M.drop (t + 2) ++ C) x (.int .i64 (i : Int)) wr :=
        ⟨S, [], i, by simp, rfl, by rw [hSl']; exact Hti.out, by simp, by simpa using Alike.refl _, by simpa [List.append_assoc] using h1⟩
      have Hin := Lib.hid hin
      have Htk := Lib.hid htk
      have HSl' := Lib.hid hSl'
      have hRl : (M.drop (t + 2)).length = M.length - (t + 2) := by simp
      have HRl := Lib.hid hRl
      clear h1 hin hdr htk hx HH hSl hSl' hRl
      go_wp2_with fail
      go_loopw [9] (fun jv wr => InsIn B w0 Q L g n cap a A S (M.drop (t + 2) ++ C) x jv wr) (fun jv _ => (intOf jv).toNat)
      case atStart => exact Hin.out
      case round =>
        obtain ⟨P, T, jn, hST, rfl, hPj, hTx, hAl, hH⟩ := hrel
        have HPj := Lib.hid hPj
        have HI := Lib.hid hH
        have HST := Lib.hid hST
        have HTx := Lib.hid hTx
        have HAl := Lib.hid hAl
        have hPl : P.length + T.length = t + 1 := by rw [← HSl'.out, hST]; simp
        clear hH hST hTx hAl Hin hPj
        rcases List.eq_nil_or_concat P with rfl | ⟨P, y, rfl⟩
        · obtain rfl : a = jn := HPj.out
          have hd : decide ((a : Int) < (a : Int)) = false := by simp
          have hd2 : decide (a < a) = false := by simp
          go_wp2_with fail
          go_quiet (fail)
          go_wp2_with fail
          have HF := Lib.hid (HI.out.drewN (sepR_stable (evR_stable _ _ _ _) hQ) nq)
          go_roundw
          case rel =>
            have hd := insert_done (p := []) (q := T) (x := x) (by rw [← HST.out]; exact HSa.out) (by simp) HTx.out
            refine ⟨t + 1, i + 1, [] ++ [x] ++ T, by go_num, by have := Hti.out; omega, by omega, ?_, hd, ?_, ?_⟩
            · rw [Htk.out]; simp only [List.length_append, List.length_take, List.length_cons, List.length_nil] at hPl ⊢; omega
            · rw [Htk.out]; exact (HSk.out.append (Alike.refl [x])).trans HAl.out
            · exact HF.out
          case measure => simp [intOf]; omega
        · rw [List.concat_eq_append] at HI HST HAl hPl HPj
          obtain ⟨q, hq⟩ : ∃ q, a + P.length = q := ⟨_, rfl⟩
          have e1 : a + (P ++ [y]).length = q + 1 := by rw [List.length_append, ← hq]; simp only [List.length_cons, List.length_nil]; omega
          have hjn : q + 1 = jn := by rw [← e1]; exact HPj.out
          have gx : (A ++ ((P ++ [y]) ++ [x] ++ T) ++ (M.drop (t + 2) ++ C))[q + 1]? = some x := by
            rw [← e1, ← Ha.out, List.append_assoc, List.append_assoc, List.append_assoc, List.getElem?_append_right (by omega), Nat.add_sub_cancel_left, List.getElem?_append_right (by omega), Nat.sub_self]
            rfl
          have gy : (A ++ ((P ++ [y]) ++ [x] ++ T) ++ (M.drop (t + 2) ++ C))[q]? = some y := by
            simp only [List.append_assoc]
            rw [← hq, ← Ha.out, List.getElem?_append_right (by omega), Nat.add_sub_cancel_left, List.getElem?_append_right (by omega), Nat.sub_self]
            rfl
          have hql : q + 1 < n := by
            have h1 := (List.getElem?_eq_some_iff.1 gx).1
            have h2 := HI.out.row.1
            rw [evCells_length] at h2
            omega
          rw [hjn] at e1 gx
          obtain ⟨p0, p1, p2, p3, p4, p5, p6⟩ := HI.out.evAt gx
          obtain ⟨r0, r1, r2, r3, r4, r5, r6⟩ := HI.out.evAt gy
          have hd : decide ((a : Int) < ((jn : Nat) : Int)) = true := decide_eq_true (by omega)
          have hd2 : decide (a < jn) = true := decide_eq_true (by omega)
          have hw1 : IntKind.i64.wrap (((jn : Nat) : Int) - 1) = (q : Int) := by rw [IntWalk.i64_in _ (by omega)]; omega
          have hw2 : ((jn : Nat) : Int) - 1 = (q : Int) := by omega
          have hw3 : IntKind.i64.wrap ((q : Nat) : Int) = (q : Int) := IntWalk.i64_in _ (by omega)
          have hqi0 : (0 : Int) ≤ (q : Int) := by omega
          have hqi1 : (q : Int) < (n : Int) := by omega
          have hji0 : (0 : Int) ≤ (jn : Int) := by omega
          have hji1 : (jn : Int) < (n : Int) := by omega
          have hqn : q < n := by omega
          have hjnn : jn < n := by omega
          have Hjn := Lib.hid hjn
          have HE1 := Lib.hid e1
          have HPl := Lib.hid hPl
          clear hjn e1 hPl
          have hc := cmp_any x y
          have Gx := Lib.hid gx
          have Gy := Lib.hid gy
          have Hq := Lib.hid hq
          clear gx gy hq
          cases hxy : x.k.lt y.k
          · have h0 : 0 ≤ x.k.cmp y.k := by
              rcases cmp_cases x.k y.k with ⟨e, hl⟩ | ⟨e, _⟩ | ⟨e, _⟩
              · rw [hl] at hxy; cases hxy
              · omega
              · omega
            generalize x.k.cmp y.k = cv at hc h0
            have hcd : decide (cv < 0) = false := decide_eq_false (by omega)
            have Hc := Lib.hid hc
            have Hxy := Lib.hid hxy
            clear hc hxy h0
            go_wp2_with fail
            go_region_held3 (fun w' => w'.cell? ⟨g, jn * 7, none⟩ = some (.int .i64 x.k.at_) ∧ w'.cell? ⟨g, jn * 7 + 1, none⟩ = some (.int .i64 x.k.src) ∧ w'.cell? ⟨g, jn * 7 + 2, none⟩ = some (.int .i64 x.k.sent) ∧ w'.cell? ⟨g, jn * 7 + 3, none⟩ = some (.int .i64 x.k.no) ∧ w'.cell? ⟨g, jn * 7 + 4, none⟩ = some (.int .i64 x.dst) ∧ w'.cell? ⟨g, jn * 7 + 5, none⟩ = some (.int .i64 x.kind) ∧ w'.cell? ⟨g, jn * 7 + 6, none⟩ = some (.int .i64 x.data) ∧ w'.cell? ⟨g, q * 7, none⟩ = some (.int .i64 y.k.at_) ∧ w'.cell? ⟨g, q * 7 + 1, none⟩ = some (.int .i64 y.k.src) ∧ w'.cell? ⟨g, q * 7 + 2, none⟩ = some (.int .i64 y.k.sent) ∧ w'.cell? ⟨g, q * 7 + 3, none⟩ = some (.int .i64 y.k.no) ∧ w'.cell? ⟨g, q * 7 + 4, none⟩ = some (.int .i64 y.dst) ∧ w'.cell? ⟨g, q * 7 + 5, none⟩ = some (.int .i64 y.kind) ∧ w'.cell? ⟨g, q * 7 + 6, none⟩ = some (.int .i64 y.data))
              (first | go_keep | exact ⟨hf.cell p0 (by simp), hf.cell p1 (by simp), hf.cell p2 (by simp), hf.cell p3 (by simp), hf.cell p4 (by simp), hf.cell p5 (by simp), hf.cell p6 (by simp), hf.cell r0 (by simp), hf.cell r1 (by simp), hf.cell r2 (by simp), hf.cell r3 (by simp), hf.cell r4 (by simp), hf.cell r5 (by simp), hf.cell r6 (by simp)⟩)
              ((go_at_call 46; refine (Hc.out _).mono ?_; rintro e w6 ⟨rfl, hf⟩))
            have hQ' := sepR_stable (evR_stable g n cap (A ++ ((P ++ [y]) ++ [x] ++ T) ++ (M.drop (t + 2) ++ C))) hQ
            have h4 := (show Holds B w0 _ w6 L from by first | exact HI.out.made hQ' hf | exact (HI.out.drew hQ').made hQ' hf)
            have HF := Lib.hid h4
            clear h4 hf
            go_wp2_with fail
            go_roundw
            case rel =>
              have hd := insert_done (p := P ++ [y]) (q := T) (x := x) (by rw [← HST.out]; exact HSa.out) (by intro z hz; simp at hz; subst hz; exact Hxy.out) HTx.out
              refine ⟨t + 1, i + 1, (P ++ [y]) ++ [x] ++ T, by go_num, by have := Hti.out; omega, by omega, ?_, hd, ?_, ?_⟩
              · rw [Htk.out]; have hPl := HPl.out; simp only [List.length_append, List.length_take, List.length_cons, List.length_nil] at hPl ⊢; omega
              · rw [Htk.out]; exact (HSk.out.append (Alike.refl [x])).trans HAl.out
              · exact HF.out
            case measure => simp [intOf]; omega
          · rw [cmp_lt hxy] at hc
            have Hc := Lib.hid hc
            have Hxy := Lib.hid hxy
            clear hc hxy
            go_wp2_with fail
            go_region_held3 (fun w' => w'.cell? ⟨g, jn * 7, none⟩ = some (.int .i64 x.k.at_) ∧ w'.cell? ⟨g, jn * 7 + 1, none⟩ = some (.int .i64 x.k.src) ∧ w'.cell? ⟨g, jn * 7 + 2, none⟩ = some (.int .i64 x.k.sent) ∧ w'.cell? ⟨g, jn * 7 + 3, none⟩ = some (.int .i64 x.k.no) ∧ w'.cell? ⟨g, jn * 7 + 4, none⟩ = some (.int .i64 x.dst) ∧ w'.cell? ⟨g, jn * 7 + 5, none⟩ = some (.int .i64 x.kind) ∧ w'.cell? ⟨g, jn * 7 + 6, none⟩ = some (.int .i64 x.data) ∧ w'.cell? ⟨g, q * 7, none⟩ = some (.int .i64 y.k.at_) ∧ w'.cell? ⟨g, q * 7 + 1, none⟩ = some (.int .i64 y.k.src) ∧ w'.cell? ⟨g, q * 7 + 2, none⟩ = some (.int .i64 y.k.sent) ∧ w'.cell? ⟨g, q * 7 + 3, none⟩ = some (.int .i64 y.k.no) ∧ w'.cell? ⟨g, q * 7 + 4, none⟩ = some (.int .i64 y.dst) ∧ w'.cell? ⟨g, q * 7 + 5, none⟩ = some (.int .i64 y.kind) ∧ w'.cell? ⟨g, q * 7 + 6, none⟩ = some (.int .i64 y.data))
              (first | go_keep | exact ⟨hf.cell p0 (by simp), hf.cell p1 (by simp), hf.cell p2 (by simp), hf.cell p3 (by simp), hf.cell p4 (by simp), hf.cell p5 (by simp), hf.cell p6 (by simp), hf.cell r0 (by simp), hf.cell r1 (by simp), hf.cell r2 (by simp), hf.cell r3 (by simp), hf.cell r4 (by simp), hf.cell r5 (by simp), hf.cell r6 (by simp)⟩)
              ((go_at_call 46; refine (Hc.out _).mono ?_; rintro e w6 ⟨rfl, hf⟩))
            rename_i hSS
            clear hSS
            have P0 := hf.cell p0 (by simp)
            have P1 := hf.cell p1 (by simp)
            have P2 := hf.cell p2 (by simp)
            have P3 := hf.cell p3 (by simp)
            have P4 := hf.cell p4 (by simp)
            have P5 := hf.cell p5 (by simp)
            have P6 := hf.cell p6 (by simp)
            have R0 := hf.cell r0 (by simp)
            have R1 := hf.cell r1 (by simp)
            have R2 := hf.cell r2 (by simp)
            have R3 := hf.cell r3 (by simp)
            have R4 := hf.cell r4 (by simp)
            have R5 := hf.cell r5 (by simp)
            have R6 := hf.cell r6 (by simp)
            have hQ' := sepR_stable (evR_stable g n cap (A ++ ((P ++ [y]) ++ [x] ++ T) ++ (M.drop (t + 2) ++ C))) hQ
            have h4 := (show Holds B w0 _ w6 L from by first | exact HI.out.made hQ' hf | exact (HI.out.drew hQ').made hQ' hf)
            have fz : ∀ j, w6.frozen? ⟨g, j, none⟩ = false := fun j => h4.row.frozenAt j
            have HF := Lib.hid h4
            clear h4 hf p0 p1 p2 p3 p4 p5 p6 r0 r1 r2 r3 r4 r5 r6
            go_wp2_with fail
            go_big_region
            go_wp2_with fail
            go_roundw
            case rel =>
              have h5 := (HF.out.putEv hQ (i := jn) (by have := HF.out.row.1; rw [evCells_length] at this; omega) y).putEv hQ (i := q) (by have := HF.out.row.1; rw [evCells_length] at this; simp at *; omega) x
              refine ⟨P, y :: T, q, ?_, rfl, Hq.out, ?_, ?_, ?_⟩
              · rw [HST.out]; simp
              · intro z hz
                rcases List.mem_cons.1 hz with rfl | hz
                · exact Hxy.out
                · exact HTx.out z hz
              · have := insert_step (p := P) (q := T) Hxy.out
                refine HAl.out.trans ?_
                simpa [List.append_assoc] using this
              · have e3 : ((A ++ ((P ++ [y]) ++ [x] ++ T) ++ (M.drop (t + 2) ++ C)).set jn y).set q x = A ++ (P ++ [x] ++ (y :: T)) ++ (M.drop (t + 2) ++ C) := by
                  have h6 := adj_set (A ++ P) (T ++ (M.drop (t + 2) ++ C)) x y
                  rw [List.length_append, Ha.out, Hq.out, Hjn.out] at h6
                  simpa [List.append_assoc] using h6
                rw [e3] at h5
                exact h5.drew (sepR_stable (evR_stable _ _ _ _) hQ)
            case measure => simp [intOf]; omega
    · have hMt : M.take (t + 1) = M := List.take_of_length_le (by have := Hb.out; omega)
      have hMd : M.drop (t + 1) = [] := List.drop_eq_nil_of_le (by have := Hb.out; omega)
      have h7 := HH.out
      have h8 := HSk.out
      rw [hMt] at h8 hSl
      rw [hMd, List.nil_append] at h7
      have H7 := Lib.hid h7
      have H8 := Lib.hid h8
      clear h7 h8 hMt hMd HH HSk
      go_wp2_with fail
      go_end0
      exact ⟨rfl, S, HSa.out, H8.out, hSl, H7.out⟩
end Go.Proofs.YtbkadfdpboghiaaDoor
