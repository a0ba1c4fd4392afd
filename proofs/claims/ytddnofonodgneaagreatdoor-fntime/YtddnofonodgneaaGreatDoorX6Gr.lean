/-
  The place where an address comes in is there; what the shifting loop of a Grant makes of a list.
-/
import Derived.Test.YtddnofonodgneaaGreatDoorV6PtD
namespace Go.Proofs.YtddnofonodgneaaGreatDoor
open Go.RowKit

theorem low_upto {ls : List Ls} {ad : Ad} (hs : SrtL ls) : ∀ k, k ≤ ls.length → ∃ i, i ≤ k ∧ (∀ (j : Nat) (q : Ls), j < i → ls[j]? = some q → q.a.key < ad.key) ∧ (∀ (j : Nat) (q : Ls), i ≤ j → j < k → ls[j]? = some q → ad.key ≤ q.a.key)
  | 0, _ => ⟨0, Nat.le_refl _, fun j q h => absurd h (Nat.not_lt_zero _), fun j q _ h => absurd h (Nat.not_lt_zero _)⟩
  | k + 1, hk => by
      obtain ⟨i, hi, h1, h2⟩ := low_upto (ad := ad) hs k (by omega)
      have hq : ls[k]? = some ls[k] := List.getElem?_eq_getElem (by omega)
      by_cases hlt : ls[k].a.key < ad.key
      · refine ⟨k + 1, Nat.le_refl _, fun j q hj hjq => ?_, fun j q h1 h2 => by omega⟩
        by_cases hjk : j = k
        · subst hjk
          rw [hq] at hjq
          cases hjq
          exact hlt
        · have := hs.1 j k q ls[k] (by omega) hjq hq
          omega
      · refine ⟨i, by omega, h1, fun j q hj hjk hjq => ?_⟩
        by_cases hjk' : j = k
        · subst hjk'
          rw [hq] at hjq
          cases hjq
          omega
        · exact h2 j q hj (by omega) hjq
theorem low_ex {ls : List Ls} {ad : Ad} (hs : SrtL ls) : ∃ i, LowAt ls ad i := by
  obtain ⟨i, hi, h1, h2⟩ := low_upto (ad := ad) hs ls.length (Nat.le_refl _)
  exact ⟨i, hi, h1, fun j q hj hq => h2 j q hj (List.getElem?_eq_some_iff.1 hq).1 hq⟩

/-- The loop's list: the last one is laid behind, those behind the place m are moved. -/
theorem set_newL {α : Type} (ps : List α) (q : α) (m : Nat) (h : m ≤ ps.length) : ((ps ++ [q]).take (m + 1) ++ ps.drop m).set m q = ps.take m ++ [q] ++ ps.drop m := by
  have hl : ((ps ++ [q]).take m).length = m := by rw [List.length_take, List.length_append]; simp; omega
  rw [List.take_succ_eq_append_getElem (by simp; omega), List.append_assoc, List.set_append_right _ _ (by omega), hl, Nat.sub_self, List.take_append_of_le_length h]
  simp
theorem set_mvL {α : Type} (ps : List α) (p q : α) (i : Nat) (hq : ps[i]? = some q) : ((ps ++ [p]).take (i + 1 + 1) ++ ps.drop (i + 1)).set (i + 1) q = (ps ++ [p]).take (i + 1) ++ ps.drop i := by
  have hi : i < ps.length := (List.getElem?_eq_some_iff.1 hq).1
  have hl : ((ps ++ [p]).take (i + 1)).length = i + 1 := by rw [List.length_take, List.length_append]; simp; omega
  rw [List.take_succ_eq_append_getElem (i := i + 1) (by simp; omega), List.append_assoc, List.set_append_right _ _ (by omega), hl, Nat.sub_self, List.drop_eq_getElem_cons hi, (List.getElem?_eq_some_iff.1 hq).2]
  rfl
theorem ins_first {α : Type} (ps : List α) (p : α) : (ps ++ [p]).take (ps.length + 1) ++ ps.drop ps.length = ps ++ [p] := by
  rw [List.drop_length, List.append_nil, List.take_of_length_le (by simp)]

/-- The program's Grant, whatever comes. -/
theorem gr_ok {ls : List Ls} {T N : Int} {ad : Ad} {own : ByteArray} {span : Int} (hr : gokB ls T N ad own span = true) : bkB ls T N = true ∧ IntKind.i64.wrap (N + span) = N + span ∧ T ≠ 1000000000 := by
  unfold gokB at hr
  simp only [Bool.and_eq_true] at hr
  obtain ⟨hb, _, _, ⟨⟨h1, h1b⟩, _⟩, hT0⟩ := hr
  have h1c : (decide (1 ≤ span) && decide (span ≤ 1000)) = true := by rw [h1, h1b]; rfl
  exact ⟨hb, (sp_wrap (bk_now hb) h1c).1, by simpa using hT0⟩
theorem bk_tok {ls : List Ls} {T N : Int} (h : bkB ls T N = true) : 0 ≤ T ∧ T ≤ 1000000000 := by
  unfold bkB at h
  simp only [Bool.and_eq_true, decide_eq_true_eq] at h
  exact h.1.2.1

end Go.Proofs.YtddnofonodgneaaGreatDoor
