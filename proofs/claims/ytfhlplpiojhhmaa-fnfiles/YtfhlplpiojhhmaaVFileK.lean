/-
  Both FileOk: a file is right if what is sure of it is none of what it has not, and it is not too long.
-/
import Derived.Test.YtfhlplpiojhhmaaVFileO
namespace Go.Proofs.Ytfhlplpiojhhmaa
open Go.RowKit

/-- FileOk, of how many bytes there are and how many are sure. -/
def okF (n : Nat) (S : Int) : Bool := decide (0 ≤ S) && (decide (S ≤ (n : Int)) && decide (n ≤ 400000))
theorem okF_yes {n : Nat} {S : Int} (h : okF n S = true) : 0 ≤ S ∧ S ≤ (n : Int) ∧ n ≤ 400000 := by
  unfold okF at h; simp only [Bool.and_eq_true, decide_eq_true_eq] at h; exact h
theorem okF_of {n : Nat} {S : Int} (h0 : 0 ≤ S) (h1 : S ≤ (n : Int)) (h2 : n ≤ 400000) : okF n S = true := by
  unfold okF; simp only [Bool.and_eq_true, decide_eq_true_eq]; exact ⟨h0, h1, h2⟩
theorem okF_no {n : Nat} {S : Int} (h : ¬ (0 ≤ S ∧ S ≤ (n : Int) ∧ n ≤ 400000)) : okF n S = false := by
  cases e : okF n S
  · rfl
  · exact absurd (okF_yes e) h

set_option maxHeartbeats 400000 in
theorem l1InF (x lo hi : Int) (w : World) :
    Calls Try.prog 28 #[.int .i64 x, .int .i64 lo, .int .i64 hi] w fun e w' => e = .returned (.bool (decide (lo ≤ x) && decide (x ≤ hi))) ∧ w = w' := by
  by_cases h : lo ≤ x
  · have d1 : decide (lo ≤ x) = true := decide_eq_true h
    rw [d1, Bool.true_and]
    go_enter Try.func28, Try.ntmps28
    go_wp2
    go_ret
    exact ⟨rfl, rfl⟩
  · have d1 : decide (lo ≤ x) = false := decide_eq_false h
    rw [d1, Bool.false_and]
    go_enter Try.func28, Try.ntmps28
    go_wp2
    go_ret
    exact ⟨rfl, rfl⟩

set_option maxHeartbeats 2000000 in
theorem iFileOk_any (a : Option Addr) (n c : Nat) (S : Int) (w : World) :
    Calls Try.prog 10 #[.agg #[.slice a n c, .int .i64 S]] w fun e w' => e = .returned (.bool (okF n S)) ∧ Below w.heap.size w w' := by
  by_cases h0 : 0 ≤ S
  · by_cases h1 : S ≤ (n : Int)
    · by_cases h2 : n ≤ 400000
      · rw [okF_of h0 h1 h2]
        have d0 : decide (0 ≤ S) = true := decide_eq_true h0
        have d1 : decide (S ≤ (n : Int)) = true := decide_eq_true h1
        have d2 : decide ((n : Int) ≤ 400000) = true := decide_eq_true (by omega)
        go_enter Try.func10, Try.ntmps10
        go_wp2
        go_ret
        exact ⟨rfl, alloc_below w _⟩
      · rw [okF_no (by omega)]
        have d0 : decide (0 ≤ S) = true := decide_eq_true h0
        have d1 : decide (S ≤ (n : Int)) = true := decide_eq_true h1
        have d2 : decide ((n : Int) ≤ 400000) = false := decide_eq_false (by omega)
        go_enter Try.func10, Try.ntmps10
        go_wp2
        go_ret
        exact ⟨rfl, alloc_below w _⟩
    · rw [okF_no (by omega)]
      have d0 : decide (0 ≤ S) = true := decide_eq_true h0
      have d1 : decide (S ≤ (n : Int)) = false := decide_eq_false h1
      go_enter Try.func10, Try.ntmps10
      go_wp2
      go_ret
      exact ⟨rfl, alloc_below w _⟩
  · rw [okF_no (by omega)]
    have d0 : decide (0 ≤ S) = false := decide_eq_false h0
    go_enter Try.func10, Try.ntmps10
    go_wp2
    go_ret
    exact ⟨rfl, alloc_below w _⟩

set_option maxHeartbeats 2000000 in
theorem sFileOk_any (a : Option Addr) (n c : Nat) (S : Int) (w : World) :
    Calls Try.prog 9 #[.agg #[.slice a n c, .int .i64 S]] w fun e w' => e = .returned (.bool (okF n S)) ∧ Below w.heap.size w w' := by
  by_cases h2 : n ≤ 400000
  · have e : okF n S = (decide (0 ≤ S) && decide (S ≤ (n : Int))) := by unfold okF; rw [decide_eq_true h2, Bool.and_true]
    rw [e]
    have HL := hidP (l1InF S 0 n)
    generalize (decide (0 ≤ S) && decide (S ≤ (n : Int))) = r at *
    have d2 : decide ((n : Int) ≤ 400000) = true := decide_eq_true (by omega)
    go_enter Try.func9, Try.ntmps9
    go_wp2_with fail
    refine (HL.out _).mono ?_
    rintro e w2 ⟨rfl, rfl⟩
    go_wp2_with fail
    go_ret
    exact ⟨rfl, alloc_below w _⟩
  · rw [okF_no (by omega)]
    have d2 : decide ((n : Int) ≤ 400000) = false := decide_eq_false (by omega)
    go_enter Try.func9, Try.ntmps9
    go_wp2
    go_ret
    exact ⟨rfl, alloc_below w _⟩

end Go.Proofs.Ytfhlplpiojhhmaa
