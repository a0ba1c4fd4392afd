/-
  What follows of a session that is opened, in plain terms.
-/
import Derived.Test.YtjenbmiiikeenaaV7IEx
import Derived.Test.YtjenbmiiikeenaaV7Ask
import Derived.Test.YtjenbmiiikeenaaV7IOp
import Derived.Test.YtjenbmiiikeenaaV7SOp
namespace Go.Proofs.Ytjenbmiiikeenaa
open Go.RowKit

theorem new_ok (N u : Int) (hu : tmB u = true) : okSs (⟨N, 0, ⟨#[]⟩, u⟩ : Ss) = true := by
  unfold okSs emB
  rw [hu]
  simp
  show ((0 : Nat) : Int) ≤ 200
  omega
theorem sesF_app {N u : Int} {ls : List Ss} (hu : tmB u = true) : ∀ p, p < N → sesF N p ls = true → sesF (N + 1) p (ls ++ [(⟨N, 0, ⟨#[]⟩, u⟩ : Ss)]) = true := by
  induction ls with
  | nil =>
    intro p hp _
    simp only [List.nil_append, sesF, Bool.and_eq_true, decide_eq_true_eq, new_ok N u hu]
    exact ⟨⟨⟨hp, by omega⟩, trivial⟩, trivial⟩
  | cons x t ih =>
    intro p _ h
    simp only [sesF, Bool.and_eq_true, decide_eq_true_eq] at h
    obtain ⟨⟨⟨h1, h2⟩, h3⟩, h4⟩ := h
    simp only [List.cons_append, sesF, Bool.and_eq_true, decide_eq_true_eq]
    exact ⟨⟨⟨h1, by omega⟩, h3⟩, ih x.i h2 h4⟩
theorem dkB_app {N u : Int} {ls : List Ss} {n : Nat} (hn : n = ls.length) (h : (dkB ls N && (!((n : Int) == 12) && (!(N == 1000000) && tmB u))) = true) : dkB (ls ++ [(⟨N, 0, ⟨#[]⟩, u⟩ : Ss)]) (N + 1) = true := by
  simp only [Bool.and_eq_true, Bool.not_eq_true', beq_eq_false_iff_ne] at h
  obtain ⟨hb, h1, h2, h3⟩ := h
  obtain ⟨h4, h5, h6, h7⟩ := dk_next hb
  unfold dkB
  rw [List.length_append, sesF_app h3 0 (by omega) h7]
  simp only [Bool.and_eq_true, decide_eq_true_eq, and_true]
  simp
  omega
theorem stay_all {N : Int} {L : List Ss} (h : dkB L N = true) : stayS 0 L = L ∧ goneS 0 L = [] := by
  have hm := sesF_mem (dk_next h).2.2.2
  have hu : ∀ q ∈ L, ¬ q.u < 0 := fun q hq => by have := (ok_parts (hm q hq).1).2.2.2.1; omega
  unfold stayS goneS
  constructor
  · rw [List.filter_eq_self]
    intro q hq
    simp [hu q hq]
  · rw [List.map_eq_nil_iff, List.filter_eq_nil_iff]
    intro q hq
    simp [hu q hq]
theorem gone_new (N u : Int) (ls : List Ss) : (goneS (u + 1) (ls ++ [(⟨N, 0, ⟨#[]⟩, u⟩ : Ss)])).any (fun x => x == N) = true := by
  unfold goneS
  rw [List.any_eq_true]
  refine ⟨N, List.mem_map.2 ⟨(⟨N, 0, ⟨#[]⟩, u⟩ : Ss), List.mem_filter.2 ⟨by simp, by simp; omega⟩, rfl⟩, by simp⟩
theorem find_new {N u : Int} {ls : List Ss} {n : Nat} (hn : n = ls.length) (h : sesF N 0 ls = true) : findS N (ls ++ [(⟨N, 0, ⟨#[]⟩, u⟩ : Ss)]) = some n ∧ (ls ++ [(⟨N, 0, ⟨#[]⟩, u⟩ : Ss)])[n]? = some (⟨N, 0, ⟨#[]⟩, u⟩ : Ss) := by
  have h1 : (ls ++ [(⟨N, 0, ⟨#[]⟩, u⟩ : Ss)])[n]? = some (⟨N, 0, ⟨#[]⟩, u⟩ : Ss) := by rw [List.getElem?_append_right (by omega), hn]; simp
  refine ⟨findS_some h1 rfl fun j r hj hr he => ?_, h1⟩
  rw [List.getElem?_append_left (by omega)] at hr
  have := (sesF_mem h r (List.mem_of_getElem? hr)).2.1
  omega
theorem any_take {L : List Int} {k : Nat} {x : Int} {N : Int} (h : L[k]? = some x) : (L.take (k + 1)).any (fun y => y == N) = ((L.take k).any (fun y => y == N) || (x == N)) := by
  rw [← take_at7 h, List.any_append]
  simp

end Go.Proofs.Ytjenbmiiikeenaa
