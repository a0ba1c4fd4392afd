/-
  slices: two sorted rows, cut at places that fit, are merged by halves (plain).
-/
import Derived.Test.YtgohffeneibhdaaSIns
import Derived.Test.YtgohffeneibhdaaMSrt
import Derived.Test.YtgohffeneibhdaaSSymB
namespace Go.Proofs.Ytgohffeneibhdaa
open Go.RowKit

theorem Ordr.irr {A : Pf → Prop} {c : Pf → Pf → Int} (ho : Ordr A c) {x : Pf} (hx : A x) : ¬ c x x < 0 := fun h => ho.asym x x hx hx h h
theorem srt_at {A : Pf → Prop} {c : Pf → Pf → Int} (ho : Ordr A c) {U : List Pf} (hA : ∀ x ∈ U, A x) (h : Srt c U) {i j : Nat} {x y : Pf} (hij : i ≤ j) (hx : U[i]? = some x) (hy : U[j]? = some y) : ¬ c y x < 0 := by
  obtain ⟨hi, ex⟩ := List.getElem?_eq_some_iff.1 hx
  obtain ⟨hj, ey⟩ := List.getElem?_eq_some_iff.1 hy
  rcases Nat.lt_or_ge i j with h1 | h1
  · have := List.pairwise_iff_getElem.1 h i j hi hj h1
    rw [ex, ey] at this
    exact this
  · have : i = j := by omega
    subst this
    rw [hx] at hy
    cases hy
    exact ho.irr (hA x (List.mem_of_getElem? hx))
theorem mem_take_at {U : List Pf} {S : Nat} {x : Pf} (h : x ∈ U.take S) : ∃ i, i < S ∧ U[i]? = some x := by
  obtain ⟨i, hi, e⟩ := List.mem_iff_getElem.1 h
  have hl := hi
  rw [List.length_take] at hl
  refine ⟨i, by omega, ?_⟩
  rw [List.getElem_take] at e
  rw [← e]
  exact List.getElem?_eq_getElem _
theorem mem_drop_at {U : List Pf} {S : Nat} {x : Pf} (h : x ∈ U.drop S) : ∃ i, S ≤ i ∧ U[i]? = some x := by
  obtain ⟨i, hi, e⟩ := List.mem_iff_getElem.1 h
  have hl := hi
  rw [List.length_drop] at hl
  refine ⟨S + i, by omega, ?_⟩
  rw [List.getElem_drop] at e
  rw [← e]
  exact List.getElem?_eq_getElem _

/-- The halves of a merge: where the cut fits, the merged halves are the merged whole. -/
theorem mrg_cut {A : Pf → Prop} {c : Pf → Pf → Int} (ho : Ordr A c) {U V : List Pf} (hUA : ∀ x ∈ U, A x) (hVA : ∀ x ∈ V, A x) (hU : Srt c U) (hV : Srt c V) (S E : Nat)
    (h1 : S = 0 ∨ V.length ≤ E ∨ (∃ x z, 0 < S ∧ U[S - 1]? = some x ∧ V[E]? = some z ∧ ¬ c z x < 0))
    (h2 : U.length ≤ S ∨ E = 0 ∨ (∃ x y, 0 < E ∧ U[S]? = some x ∧ V[E - 1]? = some y ∧ c y x < 0))
    {R1 R2 : List Pf} (p1 : R1.Perm (U.take S ++ V.take E)) (s1 : Srt c R1) (p2 : R2.Perm (U.drop S ++ V.drop E)) (s2 : Srt c R2) : (R1 ++ R2).Perm (U ++ V) ∧ Srt c (R1 ++ R2) := by
  refine ⟨?_, ?_⟩
  · refine (p1.append p2).trans ?_
    have e : U ++ V = (U.take S ++ U.drop S) ++ (V.take E ++ V.drop E) := by rw [List.take_append_drop, List.take_append_drop]
    rw [e, List.append_assoc, List.append_assoc]
    refine List.Perm.append_left _ ?_
    rw [← List.append_assoc, ← List.append_assoc]
    exact List.Perm.append_right _ List.perm_append_comm
  · unfold Srt at *
    rw [List.pairwise_append]
    refine ⟨s1, s2, fun x hx y hy => ?_⟩
    rcases List.mem_append.1 (p1.mem_iff.1 hx) with hx | hx <;> rcases List.mem_append.1 (p2.mem_iff.1 hy) with hy | hy <;> obtain ⟨i, hi, ei⟩ := mem_take_at hx <;> obtain ⟨j, hj, ej⟩ := mem_drop_at hy
    · exact srt_at ho hUA hU (by omega) ei ej
    · rcases h1 with h | h | ⟨x', z', h0, e1, e2, hn⟩
      · omega
      · have := (List.getElem?_eq_some_iff.1 ej).1; omega
      · have a1 := srt_at ho hUA hU (show i ≤ S - 1 by omega) ei e1
        have a2 := srt_at ho hVA hV hj e2 ej
        have Ax := hUA x (List.mem_of_getElem? ei)
        have Ax' := hUA x' (List.mem_of_getElem? e1)
        have Az := hVA z' (List.mem_of_getElem? e2)
        have Ay := hVA y (List.mem_of_getElem? ej)
        exact ho.thru x z' y Ax Az Ay (ho.thru x x' z' Ax Ax' Az a1 hn) a2
    · rcases h2 with h | h | ⟨x', y', h0, e1, e2, hn⟩
      · have := (List.getElem?_eq_some_iff.1 ej).1; omega
      · omega
      · have a1 := srt_at ho hVA hV (show i ≤ E - 1 by omega) ei e2
        have a2 := srt_at ho hUA hU hj e1 ej
        have Ax := hVA x (List.mem_of_getElem? ei)
        have Ax' := hUA x' (List.mem_of_getElem? e1)
        have Ay' := hVA y' (List.mem_of_getElem? e2)
        have Ay := hUA y (List.mem_of_getElem? ej)
        exact ho.thru x x' y Ax Ax' Ay (ho.thru x y' x' Ax Ay' Ax' a1 (ho.asym y' x' Ay' Ax' hn)) a2
    · exact srt_at ho hVA hV (by omega) ei ej

end Go.Proofs.Ytgohffeneibhdaa

namespace Go.Proofs.Ytgohffeneibhdaa
open Go.RowKit

/-- Where the search for the cut stands. -/
def InvC (c : Pf → Pf → Int) (U V : List Pf) (a M lo hi i j : Nat) : Prop := lo ≤ i ∧ i ≤ j ∧ j ≤ hi ∧ (i = lo ∨ ∃ x z, U[i - 1 - a]? = some x ∧ V[M - i]? = some z ∧ ¬ c z x < 0) ∧ (j = hi ∨ ∃ x y, U[j - a]? = some x ∧ V[M - 1 - j]? = some y ∧ c y x < 0)
def RngC (a m b M lo hi : Nat) : Prop := a ≤ lo ∧ lo ≤ hi ∧ hi ≤ m ∧ hi ≤ M ∧ M + m ≤ lo + b ∧ (lo = a ∨ lo + b = M + m) ∧ (hi = m ∨ hi = M)
theorem inv_cut {c : Pf → Pf → Int} {U V : List Pf} {a m b M lo hi i : Nat} (h : InvC c U V a M lo hi i i) (hu : m = a + U.length) (hv : b = m + V.length) (hB : RngC a m b M lo hi) :
    (i - a = 0 ∨ V.length ≤ M - i ∨ (∃ x z, 0 < i - a ∧ U[i - a - 1]? = some x ∧ V[M - i]? = some z ∧ ¬ c z x < 0)) ∧ (U.length ≤ i - a ∨ M - i = 0 ∨ (∃ x y, 0 < M - i ∧ U[i - a]? = some x ∧ V[M - i - 1]? = some y ∧ c y x < 0)) := by
  obtain ⟨b1, b2, b3, b4, b5, b6, b7⟩ := hB
  obtain ⟨h1, h2, h3, h4, h5⟩ := h
  constructor
  · rcases h4 with h4 | ⟨x, z, e1, e2, e3⟩
    · rcases b6 with b6 | b6
      · exact Or.inl (by omega)
      · exact Or.inr (Or.inl (by omega))
    · rcases Nat.eq_zero_or_pos (i - a) with h0 | h0
      · exact Or.inl h0
      · exact Or.inr (Or.inr ⟨x, z, h0, by rw [show i - a - 1 = i - 1 - a by omega]; exact e1, e2, e3⟩)
  · rcases h5 with h5 | ⟨x, y, e1, e2, e3⟩
    · rcases b7 with b7 | b7
      · exact Or.inl (by omega)
      · exact Or.inr (Or.inl (by omega))
    · rcases Nat.eq_zero_or_pos (M - i) with h0 | h0
      · exact Or.inr (Or.inl h0)
      · exact Or.inr (Or.inr ⟨x, y, h0, e1, by rw [show M - i - 1 = M - 1 - i by omega]; exact e2, e3⟩)

end Go.Proofs.Ytgohffeneibhdaa
