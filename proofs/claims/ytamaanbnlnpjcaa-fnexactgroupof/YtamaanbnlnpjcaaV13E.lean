/-
  Both EntryOk: they answer alike.
-/
import Derived.Test.YtamaanbnlnpjcaaVEntS
import Derived.Test.YtamaanbnlnpjcaaV12GB
namespace Go.Proofs.Ytamaanbnlnpjcaa
open Go.ChangeShapes Go.WideShapes Go.ChangeAt Go.RowKit Go.Joins Go.Deep

/-- An entry that is right: of its term, its kind, how many bytes its data has, and whether that is a group's. -/
def enB (T K : Int) (n : Nat) (C : Bool) : Bool := (decide (1 ≤ T) && decide (T ≤ 1000000)) && (((K == 1) && ((n : Int) == 0)) || ((K == 2) && decide ((n : Int) ≤ 400)) || ((K == 3) && C))
theorem enB_no {T K : Int} {n : Nat} {C : Bool} (h : (decide (1 ≤ T) && decide (T ≤ 1000000)) = false) : enB T K n C = false := by unfold enB; rw [h]; rfl
theorem enB_1 {T : Int} {n : Nat} {C : Bool} (h : (decide (1 ≤ T) && decide (T ≤ 1000000)) = true) : enB T 1 n C = ((n : Int) == 0) := by unfold enB; rw [h]; simp
theorem enB_2 {T : Int} {n : Nat} {C : Bool} (h : (decide (1 ≤ T) && decide (T ≤ 1000000)) = true) : enB T 2 n C = decide ((n : Int) ≤ 400) := by unfold enB; rw [h]; simp
theorem enB_3 {T : Int} {n : Nat} {C : Bool} (h : (decide (1 ≤ T) && decide (T ≤ 1000000)) = true) : enB T 3 n C = C := by unfold enB; rw [h]; simp
theorem enB_4 {T K : Int} {n : Nat} {C : Bool} (h : (decide (1 ≤ T) && decide (T ≤ 1000000)) = true) (h1 : K ≠ 1) (h2 : K ≠ 2) (h3 : K ≠ 3) : enB T K n C = false := by unfold enB; rw [h]; simp [h1, h2, h3]
set_option maxRecDepth 10000 in
set_option maxHeartbeats 2000000 in
theorem sEntryOk_any (a : Option Addr) (n c : Nat) (T K : Int) (C : Bool) (NP NB : Nat) (w : World)
    (HG : K = 3 → ∀ W, Below w.heap.size w W → Calls Try.prog 84 #[.slice a n c] W fun e w' => ∃ a c b d, e = .returned (.tuple #[.agg #[.slice a NP c, .slice b NB d], .bool C]) ∧ Below W.heap.size W w') :
    Calls Try.prog 49 #[.agg #[.int .i64 T, .int .i64 K, .slice a n c]] w fun e w' => e = .returned (.bool (enB T K n C)) ∧ Below w.heap.size w w' := by
  have HL := hidP (fun W => l1In12 T 1 1000000 W)
  cases ht : (decide (1 ≤ T) && decide (T ≤ 1000000))
  · rw [enB_no ht]
    rw [ht] at HL
    clear HG
    go_enter Try.func49, Try.ntmps49
    go_wp2_with fail
    refine (HL.out _).mono ?_
    rintro e w1 ⟨rfl, rfl⟩
    go_wp2_with fail
    go_ret
    exact ⟨rfl, alloc_below _ _⟩
  · rw [ht] at HL
    by_cases h1 : K = 1
    · subst h1
      rw [enB_1 ht]
      clear HG
      go_enter Try.func49, Try.ntmps49
      go_wp2_with fail
      refine (HL.out _).mono ?_
      rintro e w1 ⟨rfl, rfl⟩
      go_wp2_with fail
      go_ret
      exact ⟨rfl, alloc_below _ _⟩
    have k1 : (K == 1) = false := by simpa using h1
    by_cases h2 : K = 2
    · subst h2
      rw [enB_2 ht]
      clear HG
      go_enter Try.func49, Try.ntmps49
      go_wp2_with fail
      refine (HL.out _).mono ?_
      rintro e w1 ⟨rfl, rfl⟩
      go_wp2_with fail
      go_ret
      exact ⟨rfl, alloc_below _ _⟩
    have k2 : (K == 2) = false := by simpa using h2
    by_cases h3 : K = 3
    · subst h3
      rw [enB_3 ht]
      have HGG := hidP (HG rfl)
      clear HG
      go_enter Try.func49, Try.ntmps49
      go_wp2_with fail
      refine (HL.out _).mono ?_
      rintro e w1 ⟨rfl, rfl⟩
      go_wp2_with fail
      refine (HGG.out _ (alloc_below _ _)).mono ?_
      rintro e w2 ⟨a1, c1, b1, d1, rfl, hb2⟩
      have HB := hidP hb2
      clear hb2
      go_wp2_with fail
      go_ret
      refine ⟨rfl, ?_⟩
      have hz := HB.out.size
      simp at hz
      repeat (first | with_reducible exact Below.refl _ _ | with_reducible exact (alloc_below w _).trans (HB.out.mono (alloc_below w _).size) | (with_reducible refine Below.drew ?_) | (with_reducible refine Below.alloc ?_ ?_ _; rotate_left; (focus (first | omega | (simp; omega) | (simp; done)))) | (with_reducible refine Below.setCell ?_ ?_ _; rotate_left; (focus (first | omega | (simp; omega) | (simp; done)))))
    have k3 : (K == 3) = false := by simpa using h3
    rw [enB_4 ht h1 h2 h3]
    clear HG
    go_enter Try.func49, Try.ntmps49
    go_wp2_with fail
    refine (HL.out _).mono ?_
    rintro e w1 ⟨rfl, rfl⟩
    go_wp2_with fail
    go_ret
    exact ⟨rfl, alloc_below _ _⟩

set_option maxRecDepth 10000 in
set_option maxHeartbeats 2000000 in
theorem iEntryOk_any (a : Option Addr) (n c : Nat) (T K : Int) (C : Bool) (NP NB : Nat) (w : World)
    (HG : K = 3 → ∀ W, Below w.heap.size w W → Calls Try.prog 42 #[.slice a n c] W fun e w' => ∃ a c b d, e = .returned (.tuple #[.agg #[.slice a NP c, .slice b NB d], .bool C]) ∧ Below W.heap.size W w') :
    Calls Try.prog 98 #[.agg #[.int .i64 T, .int .i64 K, .slice a n c]] w fun e w' => e = .returned (.bool (enB T K n C)) ∧ Below w.heap.size w w' := by
  cases ht : (decide (1 ≤ T) && decide (T ≤ 1000000))
  · rw [enB_no ht]
    clear HG
    by_cases t1 : T < 1
    · have t3 : decide (T < 1) = true := decide_eq_true t1
      go_enter Try.func98, Try.ntmps98
      go_wp2_with fail
      go_ret
      exact ⟨rfl, alloc_below _ _⟩
    · have t3 : decide (T < 1) = false := decide_eq_false t1
      have t2 : T > 1000000 := by simp at ht; omega
      have t4 : decide (T > 1000000) = true := decide_eq_true t2
      go_enter Try.func98, Try.ntmps98
      go_wp2_with fail
      go_ret
      exact ⟨rfl, alloc_below _ _⟩
  · have t1 : ¬ T < 1 := by simp at ht; omega
    have t2 : ¬ T > 1000000 := by simp at ht; omega
    have t3 : decide (T < 1) = false := decide_eq_false t1
    have t4 : decide (T > 1000000) = false := decide_eq_false t2
    by_cases h1 : K = 1
    · subst h1
      rw [enB_1 ht]
      clear HG
      go_enter Try.func98, Try.ntmps98
      go_wp2_with fail
      go_ret
      exact ⟨rfl, alloc_below _ _⟩
    have k1 : (K == 1) = false := by simpa using h1
    by_cases h2 : K = 2
    · subst h2
      rw [enB_2 ht]
      clear HG
      go_enter Try.func98, Try.ntmps98
      go_wp2_with fail
      go_ret
      exact ⟨rfl, alloc_below _ _⟩
    have k2 : (K == 2) = false := by simpa using h2
    by_cases h3 : K = 3
    · subst h3
      rw [enB_3 ht]
      have HGG := hidP (HG rfl)
      clear HG
      go_enter Try.func98, Try.ntmps98
      go_wp2_with fail
      refine (HGG.out _ (alloc_below _ _)).mono ?_
      rintro e w2 ⟨a1, c1, b1, d1, rfl, hb2⟩
      have HB := hidP hb2
      clear hb2
      go_wp2_with fail
      go_ret
      refine ⟨rfl, ?_⟩
      have hz := HB.out.size
      simp at hz
      repeat (first | with_reducible exact Below.refl _ _ | with_reducible exact (alloc_below w _).trans (HB.out.mono (alloc_below w _).size) | (with_reducible refine Below.drew ?_) | (with_reducible refine Below.alloc ?_ ?_ _; rotate_left; (focus (first | omega | (simp; omega) | (simp; done)))) | (with_reducible refine Below.setCell ?_ ?_ _; rotate_left; (focus (first | omega | (simp; omega) | (simp; done)))))
    have k3 : (K == 3) = false := by simpa using h3
    rw [enB_4 ht h1 h2 h3]
    clear HG
    go_enter Try.func98, Try.ntmps98
    go_wp2_with fail
    go_ret
    exact ⟨rfl, alloc_below _ _⟩

theorem entry_both (T K : Int) (n : Nat) (zs : List Int) (hn : n = zs.length) (ho : Oct zs) :
    ∃ r : Bool, (∀ (g : Nat) (W : World), RowG KBy W (some ⟨g, 0, none⟩) zs → Calls Try.prog 49 #[.agg #[.int .i64 T, .int .i64 K, .slice (some ⟨g, 0, none⟩) n n]] W fun e w' => e = .returned (.bool r) ∧ Below W.heap.size W w') ∧
      (∀ (g : Nat) (W : World), RowG KBy W (some ⟨g, 0, none⟩) zs → Calls Try.prog 98 #[.agg #[.int .i64 T, .int .i64 K, .slice (some ⟨g, 0, none⟩) n n]] W fun e w' => e = .returned (.bool r) ∧ Below W.heap.size W w') := by
  obtain ⟨PS, NP, BS, NB, C, -, -, -, -, hs, hi⟩ := getg_both n zs hn ho
  refine ⟨enB T K n C, fun g W h => sEntryOk_any _ n n T K C NP NB W (fun _ W2 hb => (hs g W2 (h.later hb)).mono ?_), fun g W h => iEntryOk_any _ n n T K C NP NB W (fun _ W2 hb => (hi g W2 (h.later hb)).mono ?_)⟩
  all_goals
    rintro e w' ⟨a, c, b, d, he, _, _, _, hb'⟩
    exact ⟨a, c, b, d, he, hb'⟩

end Go.Proofs.Ytamaanbnlnpjcaa
