/-
  What a right book is, as a Bool, said as the program asks it and as the specification does; both are one.
-/
import Derived.Test.YtddnofonodgneaaGreatDoorRLease
import Derived.Test.YtddnofonodgneaaGreatDoorOOwn
import Derived.Lib.SlicesCompact
namespace Go.Proofs.YtddnofonodgneaaGreatDoor
open Go.RowKit

def okLs (T N : Int) (x : Ls) : Bool := (x.a.ok && ownB x.t) && ((decide (1 ≤ x.k) && decide (x.k ≤ T)) && (decide (N < x.u) && decide (x.u ≤ 1000000000)))
def ascA (r : Option Ad) (a : Ad) : Bool := match r with | none => true | some b => decide (b.key < a.key)
/-- As the program asks it. -/
def leasesF (T N : Int) : Option Ad → List Ls → Bool
  | _, [] => true
  | r, x :: t => (okLs T N x && ascA r x.a) && leasesF T N (some x.a) t
def tokB (ls : List Ls) : Bool := decide ((ls.map (·.k)).Nodup)
def hasTok (k : Int) (ls : List Ls) : Bool := ls.any fun y => y.k == k
/-- As the specification asks it. -/
def leasesS (T N : Int) : List Ls → List Ls → Bool
  | _, [] => true
  | pre, x :: t => (okLs T N x && ascA (pre.getLast?.map (·.a)) x.a) && (!hasTok x.k pre && leasesS T N (pre ++ [x]) t)
def bkB (ls : List Ls) (T N : Int) : Bool := (decide (ls.length ≤ 80) && ((decide (0 ≤ T) && decide (T ≤ 1000000000)) && (decide (0 ≤ N) && decide (N ≤ 1000000000)))) && (leasesF T N none ls && tokB ls)

theorem hasTok_not {k : Int} {ls : List Ls} : hasTok k ls = false ↔ k ∉ ls.map (·.k) := by
  unfold hasTok
  rw [List.any_eq_false]
  constructor
  · intro h hm
    obtain ⟨y, hy, e⟩ := List.mem_map.1 hm
    exact h y hy (by simp [e])
  · intro h y hy hc
    exact h (List.mem_map.2 ⟨y, hy, by simpa using hc⟩)
theorem leases_tail (T N : Int) : ∀ (t pre : List Ls), (pre.map (·.k)).Nodup → leasesS T N pre t = (leasesF T N (pre.getLast?.map (·.a)) t && tokB (pre ++ t))
  | [], pre, hp => by
      unfold leasesS leasesF tokB
      rw [List.append_nil, decide_eq_true hp]; rfl
  | x :: t, pre, hp => by
      unfold leasesS leasesF
      cases hx : (okLs T N x && ascA (pre.getLast?.map (·.a)) x.a)
      · rfl
      · cases ht : hasTok x.k pre
        · have hn := hasTok_not.1 ht
          have hp' : ((pre ++ [x]).map (·.k)).Nodup := by
            rw [List.map_append, List.nodup_append]
            refine ⟨hp, by simp, fun a ha b hb => ?_⟩
            simp at hb
            subst hb
            intro e
            exact hn (e ▸ ha)
          rw [leases_tail T N t (pre ++ [x]) hp', List.getLast?_append, List.append_assoc]
          simp
        · have hd : tokB (pre ++ x :: t) = false := by
            unfold tokB
            apply decide_eq_false
            intro h
            rw [List.map_append, List.nodup_append] at h
            have hm : x.k ∈ pre.map (·.k) := Classical.byContradiction fun hc => by rw [hasTok_not.2 hc] at ht; cases ht
            exact h.2.2 _ hm _ (by simp) rfl
          rw [hd]; simp
theorem leases_same (T N : Int) (ls : List Ls) : leasesS T N [] ls = (leasesF T N none ls && tokB ls) := leases_tail T N ls [] (by simp)

/-- What stands ahead of place k. -/
def prvL (ps : List Ls) : Nat → Option Ad
  | 0 => none
  | j + 1 => (ps[j]?).map (·.a)
theorem prvL_next {ps : List Ls} {k : Nat} {q : Ls} (h : ps[k]? = some q) : prvL ps (k + 1) = some q.a := by show (ps[k]?).map _ = _; rw [h]; rfl
theorem prvL_last (ps : List Ls) : ∀ k, k ≤ ps.length → ((ps.take k).getLast?.map (·.a)) = prvL ps k
  | 0, _ => by simp [prvL]
  | k + 1, h => by
      have e : ps[k]? = some ps[k] := List.getElem?_eq_getElem (by omega)
      rw [List.take_add_one, prvL_next e, e, Option.toList_some, List.getLast?_append, List.getLast?_singleton, Option.some_or]
      rfl
theorem drop_at {α : Type} {ps : List α} {k : Nat} {q : α} (h : ps[k]? = some q) : ps.drop k = q :: ps.drop (k + 1) := by
  have hk : k < ps.length := by
    rcases Nat.lt_or_ge k ps.length with h' | h'
    · exact h'
    · rw [List.getElem?_eq_none h'] at h; cases h
  rw [List.drop_eq_getElem_cons hk]
  rw [List.getElem?_eq_getElem hk] at h
  cases h; rfl
theorem take_at {α : Type} {ps : List α} {k : Nat} {q : α} (h : ps[k]? = some q) : ps.take k ++ [q] = ps.take (k + 1) := by
  rw [List.take_add_one, h]; rfl
theorem okLs_ok {T N : Int} {x : Ls} (h : okLs T N x = true) : x.a.ok = true := by
  unfold okLs at h
  simp only [Bool.and_eq_true] at h
  exact h.1.1

theorem compact_nodup (zs : List Int) : ((Lib.compact (zs.mergeSort fun x y => decide (x ≤ y))).length = zs.length) ↔ zs.Nodup := by
  have hp : (zs.mergeSort fun x y => decide (x ≤ y)).Perm zs := List.mergeSort_perm zs _
  have hs : (zs.mergeSort fun x y => decide (x ≤ y)).Pairwise (fun x y => decide (x ≤ y) = true) := List.pairwise_mergeSort (fun a b c h1 h2 => by simp at *; omega) (fun a b => by simp; omega) zs
  rw [← hp.nodup_iff, ← hp.length_eq]
  generalize zs.mergeSort (fun x y => decide (x ≤ y)) = S at hs
  have hlen : (Lib.compact S).length = ((List.range S.length).filter (Lib.keeps S.toArray)).length := by
    unfold Lib.compact Lib.compactUpTo
    rw [List.length_map]
  have hkp : ∀ j, j + 1 < S.length → (Lib.keeps S.toArray (j + 1) = true ↔ S[j]? ≠ S[j + 1]?) := by
    intro j hj
    have e1 : S[j]? = some S[j] := List.getElem?_eq_getElem (by omega)
    have e2 : S[j + 1]? = some S[j + 1] := List.getElem?_eq_getElem hj
    rw [e1, e2]
    have g1 : S.toArray[j]! = S[j] := by rw [getElem!_pos _ _ (by simp; omega)]; simp
    have g2 : S.toArray[j + 1]! = S[j + 1] := by rw [getElem!_pos _ _ (by simp; omega)]; simp
    unfold Lib.keeps
    rw [Nat.add_sub_cancel, g1, g2, decide_eq_true_eq]
    constructor
    · rintro (h | h)
      · omega
      · intro e; exact h (Option.some.inj e).symm
    · intro h
      exact Or.inr fun e => h (by rw [e])
  constructor
  · intro h
    rw [hlen] at h
    have hall : ∀ j, j < S.length → Lib.keeps S.toArray j = true := by
      intro j hj
      have h2 : ((List.range S.length).filter (Lib.keeps S.toArray)).length = (List.range S.length).length := by rw [h, List.length_range]
      exact (List.length_filter_eq_length_iff.1 h2) j (List.mem_range.2 hj)
    rw [List.nodup_iff_pairwise_ne, List.pairwise_iff_getElem]
    intro i j hi hj hij
    have hs' := List.pairwise_iff_getElem.1 hs
    obtain ⟨J, rfl⟩ : ∃ J, j = J + 1 := ⟨j - 1, by omega⟩
    have n1 := (hkp J hj).1 (hall _ hj)
    rw [List.getElem?_eq_getElem (by omega : J < S.length), List.getElem?_eq_getElem hj] at n1
    have n2 : S[J] ≠ S[J + 1] := fun e => n1 (by rw [e])
    have l1 := hs' J (J + 1) (by omega) hj (by omega)
    simp at l1
    by_cases h3 : i = J
    · subst h3; exact n2
    · have l2 := hs' i J hi (by omega) (by omega)
      simp at l2
      omega
  · intro h
    rw [Lib.compact_all S]
    intro j hj
    cases j with
    | zero => simp [Lib.keeps]
    | succ J =>
      rw [hkp J hj, List.getElem?_eq_getElem (by omega : J < S.length), List.getElem?_eq_getElem hj]
      have := (List.pairwise_iff_getElem.1 (List.nodup_iff_pairwise_ne.1 h)) J (J + 1) (by omega) hj (by omega)
      simpa using this
theorem tok_compact (ls : List Ls) (n : Nat) (hn : n = ls.length) : (((Lib.compact ((ls.map (·.k)).mergeSort fun x y => decide (x ≤ y))).length : Int) == (n : Int)) = tokB ls := by
  have h := compact_nodup (ls.map (·.k))
  rw [List.length_map, ← hn] at h
  unfold tokB
  by_cases hd : (ls.map (·.k)).Nodup
  · rw [decide_eq_true hd, h.2 hd]; simp
  · rw [decide_eq_false hd, beq_eq_false_iff_ne]
    intro e
    exact hd (h.1 (by omega))

end Go.Proofs.YtddnofonodgneaaGreatDoor
