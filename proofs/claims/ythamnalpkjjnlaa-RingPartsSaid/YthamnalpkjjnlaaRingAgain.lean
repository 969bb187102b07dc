/- RingAgain, walked. -/
import Derived.Test.YthamnalpkjjnlaaRingPlay
namespace Go.Proofs.Ythamnalpkjjnlaa
open Go.RowKit Go.Maps Go.ChangeShapes Go.WideShapes Go.ChangeAt

theorem open_wf {H : Type} {enc : TypeId × Value → H} {w : World} {d : DataW H} {ps : List MemPlace} {base : Nat} {spare : Nat → Bool} {held : Bool} {x : Int} (h : DataW.Trod enc Try.prog w base spare held 3 (.int .i64 x) d ps) : -9223372036854775808 ≤ x ∧ x ≤ 9223372036854775807 := by
  obtain ⟨fuel, hf⟩ := h
  obtain ⟨hl, hk⟩ := plain_Int H enc w base spare held fuel _ _ hf
  simp only [Value.cells] at hl hk
  obtain ⟨ns, hx, hn, hw⟩ := fits_ints (n := 1) ⟨hl, hk⟩
  match ns, hn with
  | [y], _ =>
    simp only [List.map_cons, List.map_nil, List.cons.injEq, and_true, Value.int.injEq, true_and] at hx
    have h2 := hw y (by simp)
    subst hx
    simp [Lit.wf, IntKind.min, IntKind.max, IntKind.signed, IntKind.bits] at h2
    omega

set_option maxHeartbeats 1000000 in
set_option maxRecDepth 100000 in
theorem again_out (w : World) (room t : Int) (a1 : Option Addr) (n1 c1 : Nat) (h : room < 1 ∨ room > 40 ∨ 60 < n1 ∨ t = 9223372036854775807) : Calls Try.prog 6 #[.int .i64 room, .slice a1 n1 c1, .int .i64 t] w (LawTrue w) := by
  have hg : room < 1 ∨ (¬ room < 1 ∧ 40 < room) ∨ (¬ room < 1 ∧ ¬ 40 < room ∧ 60 < n1) ∨ (¬ room < 1 ∧ ¬ 40 < room ∧ n1 ≤ 60 ∧ t = 9223372036854775807) := by omega
  clear h
  rcases hg with g1 | ⟨g1, g2⟩ | ⟨g1, g2, g3⟩ | ⟨g1, g2, g3, rfl⟩
  · go_enter Try.func6, Try.ntmps6
    go_wp2_with fail
    refine (awake_any _).mono ?_
    rintro e w3 ⟨rfl, hf⟩
    have H3 := Lib.hid hf
    clear hf
    go_wp2_with fail
    go_ret
    exact ⟨rfl, H3.out⟩
  · go_enter Try.func6, Try.ntmps6
    go_wp2_with fail
    refine (awake_any _).mono ?_
    rintro e w3 ⟨rfl, hf⟩
    have H3 := Lib.hid hf
    clear hf
    go_wp2_with fail
    go_ret
    exact ⟨rfl, H3.out⟩
  · go_enter Try.func6, Try.ntmps6
    go_wp2_with fail
    refine (few_gt _ a1 n1 c1 g3).mono ?_
    rintro e w2 ⟨rfl, rfl⟩
    go_wp2_with fail
    refine (awake_any _).mono ?_
    rintro e w3 ⟨rfl, hf⟩
    have H3 := Lib.hid hf
    clear hf
    go_wp2_with fail
    go_ret
    exact ⟨rfl, H3.out⟩
  · go_enter Try.func6, Try.ntmps6
    go_wp2_with fail
    refine (few_le _ a1 n1 c1 g3).mono ?_
    rintro e w2 ⟨rfl, rfl⟩
    go_wp2_with fail
    refine (awake_any _).mono ?_
    rintro e w3 ⟨rfl, hf⟩
    have H3 := Lib.hid hf
    clear hf
    go_wp2_with fail
    go_ret
    exact ⟨rfl, H3.out⟩

/-- What Front would leave out, and what Upto tells, are one. -/
theorem cnt_next (S : List It) (t : Int) : cnt (fun x => decide (x ≥ t + 1)) S = cnt (fun x => decide (x > t)) S := by
  have : (fun x : Int => decide (x ≥ t + 1)) = (fun x => decide (x > t)) := by
    funext x
    rw [decide_eq_decide]
    omega
  rw [this]
def timesOf (l : List It) : List Int := l.map It.at_
theorem times_more {S : List It} {k i : Nat} {x : It} (hx : S[i]? = some x) (h : k ≤ i) : timesOf ((S.take (i + 1)).drop k) = timesOf ((S.take i).drop k) ++ [x.at_] := by
  have hl := (List.getElem?_eq_some_iff.1 hx).1
  rw [List.take_add_one, hx, List.drop_append_of_le_length (by rw [List.length_take]; omega)]
  simp [timesOf]
theorem times_none {S : List It} {k i : Nat} (h : i ≤ k) : timesOf ((S.take i).drop k) = [] := by
  rw [List.drop_of_length_le (by rw [List.length_take]; omega)]
  rfl
theorem push_next {S : List It} (hS : Rise S) {i room : Nat} {x : It} (hx : S[i]? = some x) (hr : S.length ≤ room) : pushE room (S.take i) x.at_ = 0 ∧ pushS room (S.take i) x = S.take (i + 1) := by
  have hl := (List.getElem?_eq_some_iff.1 hx).1
  have hne : ¬ early (S.take i) x.at_ := by
    rintro ⟨y, hy, hlt⟩
    rw [List.length_take, Nat.min_eq_left (by omega), List.getElem?_take] at hy
    split at hy
    · have := hS.get hy hx (by omega)
      omega
    · cases hy
  have hlen : ¬ (S.take i).length = room := by rw [List.length_take]; omega
  unfold pushE pushS
  rw [if_neg hne, if_neg hne, if_neg hlen, if_neg hlen]
  exact ⟨rfl, by rw [List.take_add_one, hx]; rfl⟩

def AgainRel (w : World) (A C room n : Nat) (iv : Value) (wr : World) : Prop :=
  ∃ (i : Nat) (S : List It), i ≤ n ∧ iv = .int .i64 (i : Int) ∧ S.length ≤ i ∧ Holds w.heap.size w (bothR A C room S noneR) wr []

def AgTimes (w : World) (A C room : Nat) (S : List It) (k : Nat) (s iv : Value) (wr : World) : Prop :=
  ∃ (j d : Nat) (ta : Option Addr) (tc : Nat) (tl : List Int), j ≤ S.length ∧ iv = .int .i64 (j : Int) ∧ s = .slice ta d tc ∧ tl = timesOf ((S.take j).drop k) ∧ tl.length = d ∧ Holds w.heap.size w (sepR (intR (.slice ta d tc) d tl) (bothR A C room S noneR)) wr []
def AgPush (w : World) (A C room : Nat) (S : List It) (k d : Nat) (lb : Option Addr) (lcb : Nat) (ta : Option Addr) (tc : Nat) (iv : Value) (wr : World) : Prop :=
  ∃ m : Nat, m ≤ d ∧ iv = .int .i64 (m : Int) ∧ Holds w.heap.size w (sepR (ringR A room (S.take (k + m))) (sepR (intR (.slice lb d lcb) d (valsOf (S.drop k)).reverse) (sepR (intR (.slice ta d tc) d (timesOf (S.drop k))) (sepR (refR C room S) noneR)))) wr []

set_option maxHeartbeats 8000000 in
set_option maxRecDepth 100000 in
theorem again_in (w : World) (room : Nat) (h1 : 1 ≤ room) (h2 : room ≤ 40) (t : Int) (ht : -9223372036854775808 ≤ t ∧ t < 9223372036854775807) (a1 : Option Addr) (n1 c1 : Nat) (l : List OpV) (hl : SlAt opEnc 3 w a1 n1 c1 l) (h3 : n1 ≤ 60) :
    Calls Try.prog 6 #[.int .i64 (room : Int), .slice a1 n1 c1, .int .i64 t] w (LawTrue w) := by
  have gc1 := hl.2.1
  have Hl := Lib.hid hl
  have g1 : decide ((room : Int) < 1) = false := by rw [decide_eq_false_iff_not]; omega
  have g2 : decide ((room : Int) > 40) = false := by rw [decide_eq_false_iff_not]; omega
  have gt : (t == 9223372036854775807) = false := by rw [beq_eq_false_iff_ne]; omega
  have gt2 : ¬ t = 9223372036854775807 := by omega
  have et : IntKind.i64.wrap (t + 1) = t + 1 := IntWalk.i64_in _ (by omega)
  clear hl
  go_enter Try.func6, Try.ntmps6
  go_wp2_with fail
  refine (few_le _ a1 n1 c1 h3).mono ?_
  rintro e w2 ⟨rfl, hw2⟩
  obtain rfl : w = w2 := hw2.symm
  go_wp2_with fail
  refine (new_goes noneR_stable (Holds.start w) room h1 (by omega)).mono ?_
  rintro e w1 ⟨rfl, h4⟩
  obtain ⟨A, hA⟩ : ∃ A, w.heap.size = A := ⟨_, rfl⟩
  obtain ⟨C, hC⟩ : ∃ C, w1.heap.size = C := ⟨_, rfl⟩
  have h5 := (h4.newRef (sepR_stable (ringR_stable _ _ _) noneR_stable) room).conv Conv.exch
  rw [hC] at h5
  have hloop : AgainRel w w.heap.size C room n1 (.int .i64 0) (w1.alloc (.cells #[.int .i64 (room : Int), .slice none 0 0] 32)) := ⟨0, [], Nat.zero_le _, rfl, Nat.le_refl _, h5⟩
  rw [hA] at hloop
  have Hloop := Lib.hid hloop
  have HC := Lib.hid hC
  have HA := Lib.hid hA
  clear hloop h4 h5 hA hC
  rw [HA.out]
  go_wp2_with fail
  rw [HC.out]
  go_loopw [10] (fun iv wr => AgainRel w A C room n1 iv wr) (fun iv _ => n1 - (intOf iv).toNat)
  case atStart => exact Hloop.out
  case round =>
    obtain ⟨i, S, hi, rfl, hSl, hH⟩ := hrel
    have HH := Lib.hid hH
    clear hH Hloop
    by_cases hlt : i < n1
    · have hm := Hl.out.frm (Frm.of_below HH.out.below (Nat.le_refl _))
      obtain ⟨b1, o1, o, rfl, hb1, ho, hcell⟩ := hm.at_ hlt
      have p0 := hcell 0 _ rfl
      have p1 := hcell 1 _ rfl
      have p2 := hcell 2 _ rfl
      simp only [Nat.add_zero] at p0
      have hwf : IntKind.i64.wrap ((i : Int) + 1) = (i : Int) + 1 := IntWalk.i64_in _ (by omega)
      have i0 : (0 : Int) ≤ (i : Int) := by omega
      have i1 : (i : Int) < (n1 : Int) := by omega
      clear hm hcell ho
      go_wp2_with fail
      refine (does_goes noneR_stable HH.out h1 (by omega) o).mono ?_
      rintro e w3 ⟨rfl, h5⟩
      have hdl := doS_len room o S
      have H3 := Lib.hid h5
      clear h5 HH p0 p1 p2
      go_wp2_with fail
      go_roundw
      case rel => exact ⟨i + 1, doS room o S, by omega, by go_num, by omega, H3.out⟩
      case measure => simp [intOf]; omega
    · obtain rfl : i = n1 := by omega
      have hsB := bothR_stable noneR_stable A C room S
      obtain ⟨hRise, hmr, _⟩ := HH.out.bothFits
      have hu := upto_says HH.out.ringAt hRise t
      have hK := cnt_le (fun x => decide (x > t)) S
      have hfr := fun (N : Nat) (W : World) (hW : Holds w.heap.size w (sepR (ringR N room S) (bothR A C room S noneR)) W []) => front_goes hsB hW (t + 1)
      unfold FrontDoes at hfr
      simp only [cnt_next] at hfr
      have hval : 0 < cnt (fun x => decide (x > t)) S → (tellI S (cnt (fun x => decide (x > t)) S)).at_ ≤ t ∧ (valsOf (S.take (cnt (fun x => decide (x > t)) S)))[cnt (fun x => decide (x > t)) S - 1]? = some (tellI S (cnt (fun x => decide (x > t)) S)).v := fun h => by
        obtain ⟨z, hz⟩ : ∃ z, S[cnt (fun x => decide (x > t)) S - 1]? = some z := ⟨_, List.getElem?_eq_getElem (by omega)⟩
        have hb := cnt_before hz (p := fun x => decide (x > t)) (by omega)
        have hti : tellI S (cnt (fun x => decide (x > t)) S) = z := by
          obtain ⟨m, hm⟩ : ∃ m, cnt (fun x => decide (x > t)) S = m + 1 := ⟨cnt (fun x => decide (x > t)) S - 1, by omega⟩
          rw [hm] at hz ⊢
          simp only [Nat.add_sub_cancel] at hz
          simp [tellI, hz]
        refine ⟨by rw [hti]; simpa using hb, ?_⟩
        unfold valsOf
        rw [List.getElem?_map, List.getElem?_take, if_pos (by omega), hz, hti]
        rfl
      generalize cnt (fun x => decide (x > t)) S = K at hu hK hfr hval
      have Hu := Lib.hid hu
      have Hfr := Lib.hid hfr
      have Hval := Lib.hid hval
      have HRise := Lib.hid hRise
      clear hu hfr hval hRise
      go_wp2_with fail
      refine Hu.out.mono ?_
      rintro e w1 ⟨rfl, hf1⟩
      have h5 := HH.out.made hsB hf1
      have hcp := copy_goes (sepR_stable (refR_stable C room S) noneR_stable) h5
      have Hcp := Lib.hid hcp
      clear hf1 h5 hcp Hu
      dsimp only [tellT]
      go_wp2_with fail
      refine Hcp.out.mono ?_
      rintro e w2 ⟨N, rfl, h6⟩
      have Hf2 := Lib.hid (Hfr.out N w2 h6)
      clear h6 Hcp Hfr
      go_wp2_with fail
      refine Hf2.out.mono ?_
      rintro e w3 ⟨la, lc, rfl, h7⟩
      have H7 := Lib.hid (h7.drop.drop)
      obtain ⟨k, hk⟩ : ∃ k, cnt (fun x => decide (x ≥ t)) S = k := ⟨_, rfl⟩
      have hks : k ≤ S.length := by rw [← hk]; exact cnt_le _ S
      have hkb : ∀ (i : Nat) (x : It), S[i]? = some x → i < k → x.at_ < t := fun i x hx hi => by
        have := cnt_before hx (p := fun x => decide (x ≥ t)) (by rw [hk]; exact hi)
        simpa using this
      have hka : ∀ (i : Nat) (x : It), S[i]? = some x → k ≤ i → t ≤ x.at_ := fun i x hx hi => by
        have := cnt_after (from_mono t) HRise.out hx (by rw [hk]; exact hi)
        simpa using this
      have Hk := Lib.hid hk
      have Hkb := Lib.hid hkb
      have Hka := Lib.hid hka
      clear hk hkb hka
      rcases Nat.eq_zero_or_pos K with hK0 | hK0
      · subst hK0
        dsimp only [tellI, tellE, zeroIt]
        simp only [if_true]
        clear h7 Hf2 Hval
        go_wp2_with fail
        go_loopw [16, 17] (fun s iv wr => AgTimes w A C room S k s iv wr) (fun _ iv _ => S.length - (intOf iv).toNat)
        case atStart => exact ⟨0, 0, none, 0, [], Nat.zero_le _, rfl, rfl, by rw [times_none (Nat.zero_le _)], rfl, H7.out.nilRow 3 1⟩
        case round =>
          obtain ⟨j, d, ta, tc, tl, hj, rfl, rfl, htl, hdl, hT⟩ := hrel
          obtain ⟨ra, rc, hrb, hrs, _⟩ := hT.drop.drop.refAt
          obtain ⟨r0, r1⟩ := cells2 hrb
          have rz := lt_of_obj hrb
          have rgc := hrs.2.1
          have HT := Lib.hid hT
          have Htl := Lib.hid htl
          have Hdl := Lib.hid hdl
          clear hT hrb htl r0 hdl H7
          by_cases hjl : j < S.length
          · obtain ⟨g, off, z, rfl, hg, hz, hcell⟩ := hrs.at_ hjl
            have p0 := hcell 0 _ rfl
            simp only [Nat.add_zero] at p0
            have j0 : (0 : Int) ≤ (j : Int) := by omega
            have j1 : (j : Int) < (S.length : Int) := by omega
            have hwj : IntKind.i64.wrap ((j : Int) + 1) = (j : Int) + 1 := IntWalk.i64_in _ (by omega)
            by_cases hjk : j < k
            · have hlt2 := Hkb.out j z hz hjk
              have hd2 : decide (z.at_ ≥ t) = false := by rw [decide_eq_false_iff_not]; omega
              have hd3 : ¬ t ≤ z.at_ := by omega
              clear hcell hz hrs hlt2
              go_wp2_with fail
              go_roundw
              case rel => exact ⟨j + 1, d, ta, tc, tl, by omega, by go_num, rfl, by rw [Htl.out, times_none (by omega), times_none (by omega)], Hdl.out, HT.out⟩
              case measure => simp [intOf]; omega
            · have hge2 := Hka.out j z hz (by omega)
              have hd2 : decide (z.at_ ≥ t) = true := by rw [decide_eq_true_eq]; omega
              have hd3 : t ≤ z.at_ := by omega
              have hmore := times_more hz (k := k) (by omega)
              have Hmore := Lib.hid hmore
              have hT2 := HT.out.made (sepR_stable (rowR_stable _ _ _ _ _) hsB) ((Frm.refl _ _).alloc (.cells #[.int .i64 z.at_] 3))
              have HT2 := Lib.hid hT2
              have hdm : d ≤ 4096 := by
                rw [← Hdl.out, Htl.out]
                simp only [timesOf, List.length_map, List.length_drop, List.length_take]; omega
              clear hcell hz hrs hge2 hmore hT2
              go_wp2_with (at_builtin; refine Stop.of ?_)
              refine Stop.go ?_
              obtain ⟨i0, hi0, hi1, hi2, hi3⟩ := info_parts infoInt
              refine wpList_append_foot _ rfl _ _ 46 rfl 3 i0 (.int .i64 0) 1 8 Try.underlying46 hi0 hi1 hi2 hi3 rfl (by decide) (.slice ta d tc) d (flat intEnc tl) rfl HT2.out.row ⟨wr.heap.size, 0, none⟩ 1 1 [.int .i64 z.at_] rfl rfl (cells_at _ [.int .i64 z.at_] 3 _ rfl) (fun u hu => by simp at hu; subst hu; rfl) (by unfold maxLen; omega) (by omega) ?_
              intro a3 c3 w9 hown hF hnew
              have hT3 := HT2.out.appended hsB hown hF hnew
              have HT3 := Lib.hid hT3
              clear hown hF hnew hT3 HT2 hi0 hi1 hi2 hi3
              go_wp2_with fail
              go_roundw
              case rel =>
                have hfl : flat intEnc tl ++ [.int .i64 z.at_] = flat intEnc (tl ++ [z.at_]) := by rw [flat_append]; rfl
                refine ⟨j + 1, d + 1, a3, c3, tl ++ [z.at_], by omega, by go_num, by first | rfl | simp, by rw [Hmore.out, Htl.out], by rw [List.length_append, Hdl.out]; rfl, ?_⟩
                have hT4 := HT3.out
                rw [hfl] at hT4
                exact hT4
              case measure => simp [intOf]; omega
          · obtain rfl : j = S.length := by omega
            have htl := Htl.out
            rw [List.take_length] at htl
            obtain ⟨n, hn⟩ : ∃ n, S.length - k = n := ⟨_, rfl⟩
            have hdn : d = n := by rw [← Hdl.out, htl, ← hn]; simp [timesOf]
            subst hdn
            have hback := back_goes (sepR_stable (rowR_stable _ _ _ _ _) (sepR_stable (refR_stable C room S) noneR_stable)) (HT.out.conv Conv.exch) t
            unfold BackDoes at hback
            rw [Hk.out, hn, htl] at hback
            have Hback := Lib.hid hback
            have Hn := Lib.hid hn
            clear hback htl hn hrs HT Htl Hdl
            go_wp2_with fail
            refine Hback.out.mono ?_
            rintro e w4 ⟨lb, lcb, rfl, h8⟩
            have H8 := Lib.hid (h8.conv Conv.exch)
            clear h8 Hback r1 rz rgc
            go_wp2_with fail
            go_loopw [19] (fun iv wr => AgPush w A C room S k d lb lcb ta tc iv wr) (fun iv _ => d - (intOf iv).toNat)
            case atStart => exact ⟨0, Nat.zero_le _, rfl, H8.out⟩
            case round =>
              obtain ⟨m, hm, rfl, hP⟩ := hrel
              have hn := Hn.out
              clear H8
              by_cases hml : m < d
              · obtain ⟨x, hx⟩ : ∃ x, S[k + m]? = some x := ⟨_, List.getElem?_eq_getElem (by omega)⟩
                obtain ⟨pe, ps⟩ := push_next HRise.out hx hmr
                have hpu := fun (W : World) (hW : Holds w.heap.size w (sepR (ringR A room (S.take (k + m))) (sepR (intR (.slice lb d lcb) d (valsOf (S.drop k)).reverse) (sepR (intR (.slice ta d tc) d (timesOf (S.drop k))) (sepR (refR C room S) noneR)))) W []) => push_goes (sepR_stable (rowR_stable _ _ _ _ _) (sepR_stable (rowR_stable _ _ _ _ _) (sepR_stable (refR_stable C room S) noneR_stable))) hW h1 x.at_ x.v
                rw [pe, show (⟨x.at_, x.v⟩ : It) = x from rfl, ps] at hpu
                have hbv : ((valsOf (S.drop k)).reverse)[d - 1 - m]? = some x.v := by
                  have hvl : (valsOf (S.drop k)).length = d := by simp only [valsOf, List.length_map, List.length_drop]; omega
                  rw [List.getElem?_reverse (by omega), hvl, show d - 1 - (d - 1 - m) = m by omega]
                  unfold valsOf
                  rw [List.getElem?_map, List.getElem?_drop, hx]
                  rfl
                have htv : (timesOf (S.drop k))[m]? = some x.at_ := by
                  unfold timesOf
                  rw [List.getElem?_map, List.getElem?_drop, hx]
                  rfl
                obtain ⟨gb, cb, hvb, hgb, _, _⟩ := row_some (hP.conv Conv.exch).row (by omega)
                simp only [Value.slice.injEq] at hvb
                obtain ⟨rfl, _, rfl⟩ := hvb
                obtain ⟨gta, cta, hvt, hgt, _, _⟩ := row_some (hP.conv Conv.third).row (by omega)
                simp only [Value.slice.injEq] at hvt
                obtain ⟨rfl, _, rfl⟩ := hvt
                have q0 := (hP.conv Conv.exch).intCell hbv
                have q1 := (hP.conv Conv.third).intCell htv
                have hsP : Stable (sepR (ringR A room (S.take (k + m))) (sepR (intR (.slice (some ⟨gb, 0, none⟩) d lcb) d (valsOf (S.drop k)).reverse) (sepR (intR (.slice (some ⟨gta, 0, none⟩) d tc) d (timesOf (S.drop k))) (sepR (refR C room S) noneR)))) := sepR_stable (ringR_stable _ _ _) (sepR_stable (rowR_stable _ _ _ _ _) (sepR_stable (rowR_stable _ _ _ _ _) (sepR_stable (refR_stable C room S) noneR_stable)))
                have HP := Lib.hid (hP.drew hsP)
                have Hpu := Lib.hid hpu
                have Hbv := Lib.hid hbv
                have Htv := Lib.hid htv
                have e1 : IntKind.i64.wrap ((d : Int) - 1) = ((d - 1 : Nat) : Int) := by rw [IntWalk.i64_in _ (by omega)]; omega
                have e2 : IntKind.i64.wrap (((d - 1 : Nat) : Int) - (m : Int)) = ((d - 1 - m : Nat) : Int) := by rw [IntWalk.i64_in _ (by omega)]; omega
                have m0 : (0 : Int) ≤ (m : Int) := by omega
                have m1 : (m : Int) < (d : Int) := by omega
                have m2 : (0 : Int) ≤ ((d - 1 - m : Nat) : Int) := by omega
                have m3 : ((d - 1 - m : Nat) : Int) < (d : Int) := by omega
                have hwm : IntKind.i64.wrap ((m : Int) + 1) = (m : Int) + 1 := IntWalk.i64_in _ (by omega)
                clear hP hpu hbv htv hx pe ps hn
                go_wp2_with fail
                go_region_held3 (fun w' => w'.cell? ⟨gta, m, none⟩ = some (.int .i64 x.at_) ∧ w'.cell? ⟨gb, d - 1 - m, none⟩ = some (.int .i64 x.v))
                  (first | go_keep | exact ⟨c1, c2⟩)
                  ((go_at_call 22; refine (Hpu.out _ HP.out).mono ?_; rintro e w6 ⟨rfl, h9⟩; have c2 := (h9.conv Conv.exch).intCell Hbv.out; have c1 := (h9.conv Conv.third).intCell Htv.out; have H9 := Lib.hid h9; clear h9))
                clear q0 q1 c1 c2
                go_wp2_with fail
                go_roundw
                case rel => exact ⟨m + 1, by omega, by go_num, by rw [show k + (m + 1) = k + m + 1 by omega]; exact H9.out⟩
                case measure => simp [intOf]; omega
              · obtain rfl : m = d := by omega
                have hP2 := hP.conv (Conv.exch)
                have hP3 := (hP2.drop).conv Conv.exch
                have hP4 := hP3.drop
                rw [List.take_of_length_le (by omega)] at hP4
                have HP4 := Lib.hid hP4
                clear hP hP2 hP3 hP4 hn
                go_wp2_with fail
                refine (same_goes noneR_stable HP4.out HP4.out.boxes).mono ?_
                rintro e w7 ⟨rfl, h9⟩
                have H9 := Lib.hid h9
                clear h9 HP4
                go_wp2_with fail
                refine (awake_any _).mono ?_
                rintro e w8 ⟨rfl, hf⟩
                have H10 := Lib.hid (H9.out.made hsB (Frm.of_below hf (Nat.le_refl _)))
                clear hf H9
                go_wp2_with fail
                go_ret
                exact ⟨rfl, H10.out.below⟩
      · obtain ⟨v1, v2⟩ := Hval.out hK0
        obtain ⟨ga, ca, hva, hga, _, _⟩ := row_some h7.row hK0
        simp only [Value.slice.injEq] at hva
        obtain ⟨rfl, _, rfl⟩ := hva
        have p9 := h7.intCell v2
        rw [show tellE K = 0 from if_neg (by omega)]
        generalize (tellI S K).at_ = ta0 at v1 ⊢
        generalize (tellI S K).v = tv0 at p9 ⊢
        have ek : IntKind.i64.wrap ((K : Int) - 1) = ((K - 1 : Nat) : Int) := by rw [IntWalk.i64_in _ (by omega)]; omega
        have kz : ((K : Int) == 0) = false := by rw [beq_eq_false_iff_ne]; omega
        have kz2 : ¬ (K : Int) = 0 := by omega
        have kz3 : ¬ K = 0 := by omega
        have kp : decide ((K : Int) > 0) = true := by rw [decide_eq_true_eq]; omega
        have kp2 : (0 : Int) < (K : Int) := by omega
        have kp3 : decide (0 < K) = true := by rw [decide_eq_true_eq]; omega
        have v3 : ¬ t < ta0 := by omega
        have kq0 : (0 : Int) ≤ ((K - 1 : Nat) : Int) := by omega
        have kq1 : ((K - 1 : Nat) : Int) < (K : Int) := by omega
        clear v2
        clear h7 Hf2 Hval
        go_wp2_with fail
        clear p9 v1 ek kz kz2 kz3 kp kp2 kp3 v3 kq0 kq1
        go_loopw [16, 17] (fun s iv wr => AgTimes w A C room S k s iv wr) (fun _ iv _ => S.length - (intOf iv).toNat)
        case atStart => exact ⟨0, 0, none, 0, [], Nat.zero_le _, rfl, rfl, by rw [times_none (Nat.zero_le _)], rfl, H7.out.nilRow 3 1⟩
        case round =>
          obtain ⟨j, d, ta, tc, tl, hj, rfl, rfl, htl, hdl, hT⟩ := hrel
          obtain ⟨ra, rc, hrb, hrs, _⟩ := hT.drop.drop.refAt
          obtain ⟨r0, r1⟩ := cells2 hrb
          have rz := lt_of_obj hrb
          have rgc := hrs.2.1
          have HT := Lib.hid hT
          have Htl := Lib.hid htl
          have Hdl := Lib.hid hdl
          clear hT hrb htl r0 hdl H7
          by_cases hjl : j < S.length
          · obtain ⟨g, off, z, rfl, hg, hz, hcell⟩ := hrs.at_ hjl
            have p0 := hcell 0 _ rfl
            simp only [Nat.add_zero] at p0
            have j0 : (0 : Int) ≤ (j : Int) := by omega
            have j1 : (j : Int) < (S.length : Int) := by omega
            have hwj : IntKind.i64.wrap ((j : Int) + 1) = (j : Int) + 1 := IntWalk.i64_in _ (by omega)
            by_cases hjk : j < k
            · have hlt2 := Hkb.out j z hz hjk
              have hd2 : decide (z.at_ ≥ t) = false := by rw [decide_eq_false_iff_not]; omega
              have hd3 : ¬ t ≤ z.at_ := by omega
              clear hcell hz hrs hlt2
              go_wp2_with fail
              go_roundw
              case rel => exact ⟨j + 1, d, ta, tc, tl, by omega, by go_num, rfl, by rw [Htl.out, times_none (by omega), times_none (by omega)], Hdl.out, HT.out⟩
              case measure => simp [intOf]; omega
            · have hge2 := Hka.out j z hz (by omega)
              have hd2 : decide (z.at_ ≥ t) = true := by rw [decide_eq_true_eq]; omega
              have hd3 : t ≤ z.at_ := by omega
              have hmore := times_more hz (k := k) (by omega)
              have Hmore := Lib.hid hmore
              have hT2 := HT.out.made (sepR_stable (rowR_stable _ _ _ _ _) hsB) ((Frm.refl _ _).alloc (.cells #[.int .i64 z.at_] 3))
              have HT2 := Lib.hid hT2
              have hdm : d ≤ 4096 := by
                rw [← Hdl.out, Htl.out]
                simp only [timesOf, List.length_map, List.length_drop, List.length_take]; omega
              clear hcell hz hrs hge2 hmore hT2
              go_wp2_with (at_builtin; refine Stop.of ?_)
              refine Stop.go ?_
              obtain ⟨i0, hi0, hi1, hi2, hi3⟩ := info_parts infoInt
              refine wpList_append_foot _ rfl _ _ 46 rfl 3 i0 (.int .i64 0) 1 8 Try.underlying46 hi0 hi1 hi2 hi3 rfl (by decide) (.slice ta d tc) d (flat intEnc tl) rfl HT2.out.row ⟨wr.heap.size, 0, none⟩ 1 1 [.int .i64 z.at_] rfl rfl (cells_at _ [.int .i64 z.at_] 3 _ rfl) (fun u hu => by simp at hu; subst hu; rfl) (by unfold maxLen; omega) (by omega) ?_
              intro a3 c3 w9 hown hF hnew
              have hT3 := HT2.out.appended hsB hown hF hnew
              have HT3 := Lib.hid hT3
              clear hown hF hnew hT3 HT2 hi0 hi1 hi2 hi3
              go_wp2_with fail
              go_roundw
              case rel =>
                have hfl : flat intEnc tl ++ [.int .i64 z.at_] = flat intEnc (tl ++ [z.at_]) := by rw [flat_append]; rfl
                refine ⟨j + 1, d + 1, a3, c3, tl ++ [z.at_], by omega, by go_num, by first | rfl | simp, by rw [Hmore.out, Htl.out], by rw [List.length_append, Hdl.out]; rfl, ?_⟩
                have hT4 := HT3.out
                rw [hfl] at hT4
                exact hT4
              case measure => simp [intOf]; omega
          · obtain rfl : j = S.length := by omega
            have htl := Htl.out
            rw [List.take_length] at htl
            obtain ⟨n, hn⟩ : ∃ n, S.length - k = n := ⟨_, rfl⟩
            have hdn : d = n := by rw [← Hdl.out, htl, ← hn]; simp [timesOf]
            subst hdn
            have hback := back_goes (sepR_stable (rowR_stable _ _ _ _ _) (sepR_stable (refR_stable C room S) noneR_stable)) (HT.out.conv Conv.exch) t
            unfold BackDoes at hback
            rw [Hk.out, hn, htl] at hback
            have Hback := Lib.hid hback
            have Hn := Lib.hid hn
            clear hback htl hn hrs HT Htl Hdl
            go_wp2_with fail
            refine Hback.out.mono ?_
            rintro e w4 ⟨lb, lcb, rfl, h8⟩
            have H8 := Lib.hid (h8.conv Conv.exch)
            clear h8 Hback r1 rz rgc
            go_wp2_with fail
            go_loopw [19] (fun iv wr => AgPush w A C room S k d lb lcb ta tc iv wr) (fun iv _ => d - (intOf iv).toNat)
            case atStart => exact ⟨0, Nat.zero_le _, rfl, H8.out⟩
            case round =>
              obtain ⟨m, hm, rfl, hP⟩ := hrel
              have hn := Hn.out
              clear H8
              by_cases hml : m < d
              · obtain ⟨x, hx⟩ : ∃ x, S[k + m]? = some x := ⟨_, List.getElem?_eq_getElem (by omega)⟩
                obtain ⟨pe, ps⟩ := push_next HRise.out hx hmr
                have hpu := fun (W : World) (hW : Holds w.heap.size w (sepR (ringR A room (S.take (k + m))) (sepR (intR (.slice lb d lcb) d (valsOf (S.drop k)).reverse) (sepR (intR (.slice ta d tc) d (timesOf (S.drop k))) (sepR (refR C room S) noneR)))) W []) => push_goes (sepR_stable (rowR_stable _ _ _ _ _) (sepR_stable (rowR_stable _ _ _ _ _) (sepR_stable (refR_stable C room S) noneR_stable))) hW h1 x.at_ x.v
                rw [pe, show (⟨x.at_, x.v⟩ : It) = x from rfl, ps] at hpu
                have hbv : ((valsOf (S.drop k)).reverse)[d - 1 - m]? = some x.v := by
                  have hvl : (valsOf (S.drop k)).length = d := by simp only [valsOf, List.length_map, List.length_drop]; omega
                  rw [List.getElem?_reverse (by omega), hvl, show d - 1 - (d - 1 - m) = m by omega]
                  unfold valsOf
                  rw [List.getElem?_map, List.getElem?_drop, hx]
                  rfl
                have htv : (timesOf (S.drop k))[m]? = some x.at_ := by
                  unfold timesOf
                  rw [List.getElem?_map, List.getElem?_drop, hx]
                  rfl
                obtain ⟨gb, cb, hvb, hgb, _, _⟩ := row_some (hP.conv Conv.exch).row (by omega)
                simp only [Value.slice.injEq] at hvb
                obtain ⟨rfl, _, rfl⟩ := hvb
                obtain ⟨gta, cta, hvt, hgt, _, _⟩ := row_some (hP.conv Conv.third).row (by omega)
                simp only [Value.slice.injEq] at hvt
                obtain ⟨rfl, _, rfl⟩ := hvt
                have q0 := (hP.conv Conv.exch).intCell hbv
                have q1 := (hP.conv Conv.third).intCell htv
                have hsP : Stable (sepR (ringR A room (S.take (k + m))) (sepR (intR (.slice (some ⟨gb, 0, none⟩) d lcb) d (valsOf (S.drop k)).reverse) (sepR (intR (.slice (some ⟨gta, 0, none⟩) d tc) d (timesOf (S.drop k))) (sepR (refR C room S) noneR)))) := sepR_stable (ringR_stable _ _ _) (sepR_stable (rowR_stable _ _ _ _ _) (sepR_stable (rowR_stable _ _ _ _ _) (sepR_stable (refR_stable C room S) noneR_stable)))
                have HP := Lib.hid (hP.drew hsP)
                have Hpu := Lib.hid hpu
                have Hbv := Lib.hid hbv
                have Htv := Lib.hid htv
                have e1 : IntKind.i64.wrap ((d : Int) - 1) = ((d - 1 : Nat) : Int) := by rw [IntWalk.i64_in _ (by omega)]; omega
                have e2 : IntKind.i64.wrap (((d - 1 : Nat) : Int) - (m : Int)) = ((d - 1 - m : Nat) : Int) := by rw [IntWalk.i64_in _ (by omega)]; omega
                have m0 : (0 : Int) ≤ (m : Int) := by omega
                have m1 : (m : Int) < (d : Int) := by omega
                have m2 : (0 : Int) ≤ ((d - 1 - m : Nat) : Int) := by omega
                have m3 : ((d - 1 - m : Nat) : Int) < (d : Int) := by omega
                have hwm : IntKind.i64.wrap ((m : Int) + 1) = (m : Int) + 1 := IntWalk.i64_in _ (by omega)
                clear hP hpu hbv htv hx pe ps hn
                go_wp2_with fail
                go_region_held3 (fun w' => w'.cell? ⟨gta, m, none⟩ = some (.int .i64 x.at_) ∧ w'.cell? ⟨gb, d - 1 - m, none⟩ = some (.int .i64 x.v))
                  (first | go_keep | exact ⟨c1, c2⟩)
                  ((go_at_call 22; refine (Hpu.out _ HP.out).mono ?_; rintro e w6 ⟨rfl, h9⟩; have c2 := (h9.conv Conv.exch).intCell Hbv.out; have c1 := (h9.conv Conv.third).intCell Htv.out; have H9 := Lib.hid h9; clear h9))
                clear q0 q1 c1 c2
                go_wp2_with fail
                go_roundw
                case rel => exact ⟨m + 1, by omega, by go_num, by rw [show k + (m + 1) = k + m + 1 by omega]; exact H9.out⟩
                case measure => simp [intOf]; omega
              · obtain rfl : m = d := by omega
                have hP2 := hP.conv (Conv.exch)
                have hP3 := (hP2.drop).conv Conv.exch
                have hP4 := hP3.drop
                rw [List.take_of_length_le (by omega)] at hP4
                have HP4 := Lib.hid hP4
                clear hP hP2 hP3 hP4 hn
                go_wp2_with fail
                refine (same_goes noneR_stable HP4.out HP4.out.boxes).mono ?_
                rintro e w7 ⟨rfl, h9⟩
                have H9 := Lib.hid h9
                clear h9 HP4
                go_wp2_with fail
                refine (awake_any _).mono ?_
                rintro e w8 ⟨rfl, hf⟩
                have H10 := Lib.hid (H9.out.made hsB (Frm.of_below hf (Nat.le_refl _)))
                clear hf H9
                go_wp2_with fail
                go_ret
                exact ⟨rfl, H10.out.below⟩
theorem again_any (w : World) (room : Int) (a1 : Option Addr) (n1 c1 : Nat) (l : List OpV) (hl : SlAt opEnc 3 w a1 n1 c1 l) (t : Int) (ht : -9223372036854775808 ≤ t ∧ t ≤ 9223372036854775807) : Calls Try.prog 6 #[.int .i64 room, .slice a1 n1 c1, .int .i64 t] w (LawTrue w) := by
  by_cases h : room < 1 ∨ room > 40 ∨ 60 < n1 ∨ t = 9223372036854775807
  · exact again_out w room t a1 n1 c1 h
  · obtain ⟨r, hr⟩ : ∃ r : Nat, room = (r : Int) := ⟨room.toNat, by omega⟩
    subst hr
    exact again_in w r (by omega) (by omega) t (by omega) a1 n1 c1 l hl (by omega)
end Go.Proofs.Ythamnalpkjjnlaa
