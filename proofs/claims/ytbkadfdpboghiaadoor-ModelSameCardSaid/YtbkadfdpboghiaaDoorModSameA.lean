/- ModelSame: plain facts: a configuration with one start more. -/
import Derived.Test.YtbkadfdpboghiaaDoorModEvents
namespace Go.Proofs.YtbkadfdpboghiaaDoor
open Go.RowKit Go.Maps

/-- A configuration with one start more. -/
def Cf.more (C : Cf) (a : Option Addr) (c : Nat) (x : St) : Cf := { C with sa := a, sn := C.sn + 1, sc := c, ss := C.ss ++ [x] }
theorem room_more {n : Nat} (h : n ≤ 256) : roomE (n + 1) = if n = 256 then 11 else 0 := by
  unfold roomE
  by_cases h' : n = 256
  · rw [if_pos (by omega), if_pos h']
  · rw [if_neg (by omega), if_neg h']
theorem check_more {C : Cf} {a : Option Addr} {c : Nat} {x : St} (h : checkC C = 0) :
    checkC (C.more a c x) = 0 ∨ (checkC (C.more a c x) = 11 ∧ C.sn = 256) ∨ (checkC (C.more a c x) = 14 ∧ (x.dst < 0 ∨ (C.ln : Int) ≤ x.dst)) ∨ (checkC (C.more a c x) = 18 ∧ (x.at_ < 0 ∨ C.fin < x.at_)) := by
  have hok := okOf h
  have h' := firstE_ok h
  simp only [List.mem_cons, List.not_mem_nil, or_false, forall_eq_or_imp, forall_eq] at h'
  obtain ⟨h1, h2, h3, h4, h5, _, h7, h8, h9⟩ := h'
  have hk : (C.ls.all fun p => hasB C.pn p.pr) = true ∧ (C.ss.all fun s => hasB C.ln s.dst) = true := by
    unfold knownE at h8
    split at h8
    · rename_i hk; simpa using hk
    · cases h8
  have ht : C.ss.all (timelyB C.fin) = true := by
    unfold timelyE at h9
    split at h9
    · assumption
    · cases h9
  have e8 : knownE (C.more a c x) = if hasB C.ln x.dst = true then 0 else 14 := by
    unfold knownE Cf.more
    simp only [List.all_append, hk.1, hk.2, Bool.true_and, List.all_cons, List.all_nil, Bool.and_true]
  have e9 : timelyE (C.more a c x) = if timelyB C.fin x = true then 0 else 18 := by
    unfold timelyE Cf.more
    simp only [List.all_append, ht, Bool.true_and, List.all_cons, List.all_nil, Bool.and_true]
  have e : checkC (C.more a c x) = firstE [withinE C.ln 1 32, withinE C.pn 1 32, withinE C.fin 1 1073741824, withinE C.fuel 1 1024, withinE C.fan 0 8, roomE (C.sn + 1), writtenE C.ps, knownE (C.more a c x), timelyE (C.more a c x)] := rfl
  rw [h1, h2, h3, h4, h5, h7, e8, e9, room_more hok.sn] at e
  by_cases g1 : C.sn = 256
  · right; left
    rw [if_pos g1] at e
    exact ⟨e, g1⟩
  · rw [if_neg g1] at e
    by_cases g2 : hasB C.ln x.dst = true
    · rw [if_pos g2] at e
      by_cases g3 : timelyB C.fin x = true
      · left
        rw [if_pos g3] at e
        exact e
      · right; right; right
        rw [if_neg g3] at e
        refine ⟨e, ?_⟩
        by_cases g4 : x.at_ < 0
        · exact .inl g4
        · right
          rcases Int.lt_or_le C.fin x.at_ with g5 | g5
          · exact g5
          · exact absurd (by unfold timelyB; rw [decide_eq_true (by omega), decide_eq_true g5]; rfl) g3
    · right; right; left
      rw [if_neg g2] at e
      refine ⟨e, ?_⟩
      by_cases g4 : x.dst < 0
      · exact .inl g4
      · right
        rcases Int.lt_or_le x.dst (C.ln : Int) with g5 | g5
        · exact absurd (hasB_iff.2 ⟨by omega, g5⟩) g2
        · exact g5
theorem evs_more (ss : List St) (x : St) : evsOf (ss ++ [x]) = evsOf ss ++ [mkEv ss.length x] := by
  unfold evsOf
  rw [List.mapIdx_append]
  simp [List.mapIdx_cons]
theorem Alike.filterP {l r : List Ev} (h : Alike l r) (p : Ev → Bool) : Alike (l.filter p) (r.filter p) := fun k => by
  rw [List.filter_filter, List.filter_filter]
  have := congrArg (List.filter p) (h k)
  rw [List.filter_filter, List.filter_filter] at this
  simpa [Bool.and_comm] using this
/-- All but the new one. -/
def notNew (n : Nat) (e : Ev) : Bool := decide (e.k.no ≠ (n : Int))
theorem rest_is {ss : List St} {x : St} {r r3 : List Ev} {n : Nat} (hn : ss.length = n) (h1 : Asc r) (h2 : Alike (evsOf ss) r) (h3 : Asc r3) (h4 : Alike (evsOf (ss ++ [x])) r3) : r3.filter (notNew n) = r := by
  refine asc_unique (List.Pairwise.filter _ h3) h1 ((h4.filterP (notNew n)).symm.trans ?_)
  rw [evs_more, List.filter_append]
  have e1 : (evsOf ss).filter (notNew n) = evsOf ss := by
    rw [List.filter_eq_self]
    intro e he
    obtain ⟨i, s, hs, rfl⟩ := evsOf_mem he
    have hi := (List.getElem?_eq_some_iff.1 hs).1
    rw [hn] at hi
    exact decide_eq_true (show (i : Int) ≠ (n : Int) by omega)
  have e2 : [mkEv ss.length x].filter (notNew n) = [] := by
    rw [hn]
    simp [notNew, mkEv]
  rw [e1, e2, List.append_nil]
  exact h2
theorem new_is {ss : List St} {x : St} {r3 : List Ev} {n : Nat} {y : Ev} (hn : ss.length = n) (h4 : Alike (evsOf (ss ++ [x])) r3) (hy : y ∈ r3) (hno : notNew n y = false) : y = mkEv n x := by
  have hm := h4.mem.2 hy
  rw [evs_more, List.mem_append] at hm
  rcases hm with hm | hm
  · obtain ⟨i, s, hs, rfl⟩ := evsOf_mem hm
    have hi := (List.getElem?_eq_some_iff.1 hs).1
    rw [hn] at hi
    exact absurd (show (i : Int) ≠ (n : Int) by omega) (of_decide_eq_false hno)
  · rw [hn] at hm
    simpa using hm
theorem filter_take {r : List Ev} {p : Ev → Bool} {k : Nat} {y : Ev} (hy : r[k]? = some y) : (r.take (k + 1)).filter p = (r.take k).filter p ++ if p y then [y] else [] := by
  rw [List.take_add_one, hy, Option.toList_some, List.filter_append]
  congr 1
  by_cases h : p y = true
  · rw [if_pos h]; simp [h]
  · rw [if_neg h]; simp [h]
end Go.Proofs.YtbkadfdpboghiaaDoor
