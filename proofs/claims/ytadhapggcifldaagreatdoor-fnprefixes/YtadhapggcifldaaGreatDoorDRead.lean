/-
  The program's reading of a digit, by its plain twin; the plain twin of its reading of numbers.
-/
import Derived.Test.YtadhapggcifldaaGreatDoorRows
import Derived.WalkKit
import Derived.WalkSpells
import Derived.WalkLawsBesides
import Derived.Laws.RangeAny
namespace Go.Proofs.YtadhapggcifldaaGreatDoor
open Go.RowKit

/-- A sign's digit, and whether it is one of the base. -/
def dgv (r : Int) : Int := if 48 ≤ r ∧ r ≤ 57 then r - 48 else if 97 ≤ r ∧ r ≤ 102 then r - 97 + 10 else -1
def dgk (r base : Int) : Bool := decide (0 ≤ dgv r) && decide (dgv r < base)

theorem dgv_bd (r : Int) : -1 ≤ dgv r ∧ dgv r ≤ 15 := by unfold dgv; split; omega; split <;> omega

set_option maxHeartbeats 1000000 in
theorem digit_any (r base : Int) (h0 : 0 ≤ r) (h1 : r ≤ 2147483647) (hb : base = 10 ∨ base = 16) (w : World) :
    Calls Tryz.prog 81 #[.int .i32 r, .int .i64 base] w fun e w' => e = .returned (.tuple #[.int .i64 (dgv r), .bool (dgk r base)]) ∧ w' = w := by
  have go : ∀ (d : Int) (b : Bool), dgv r = d → dgk r base = b → Calls Tryz.prog 81 #[.int .i32 r, .int .i64 base] w (fun e w' => e = .returned (.tuple #[.int .i64 d, .bool b]) ∧ w' = w) → Calls Tryz.prog 81 #[.int .i32 r, .int .i64 base] w fun e w' => e = .returned (.tuple #[.int .i64 (dgv r), .bool (dgk r base)]) ∧ w' = w := by
    intro d b e1 e2 h; rw [e1, e2]; exact h
  by_cases a1 : 48 ≤ r ∧ r ≤ 57
  · have e : dgv r = r - 48 := by unfold dgv; rw [if_pos a1]
    have k : dgk r base = true := by unfold dgk; rw [e]; simp; omega
    refine go _ _ e k ?_
    obtain ⟨a2, a3⟩ := a1
    clear go e k
    have q1 : decide (r - 48 < 10) = true := by simp; omega
    have q2 : decide (r - 48 < 16) = true := by simp; omega
    rcases hb with rfl | rfl
    all_goals
      go_enter Tryz.func81, Tryz.ntmps81
      go_wp2
      go_ret2
      exact ⟨rfl, rfl⟩
  · by_cases a2 : 97 ≤ r ∧ r ≤ 102
    · have e : dgv r = r - 97 + 10 := by unfold dgv; rw [if_neg a1, if_pos a2]
      obtain ⟨a3, a4⟩ := a2
      have n1 : ¬ r ≤ 57 := by omega
      have q1 : decide (r - 97 + 10 < 10) = false := by simp; omega
      have q2 : decide (r - 97 + 10 < 16) = true := by simp; omega
      clear a1
      rcases hb with rfl | rfl
      · have k : dgk r 10 = false := by unfold dgk; rw [e]; simp; omega
        refine go _ _ e k ?_
        clear go e k
        go_enter Tryz.func81, Tryz.ntmps81
        go_wp2
        go_ret2
        exact ⟨rfl, rfl⟩
      · have k : dgk r 16 = true := by unfold dgk; rw [e]; simp; omega
        refine go _ _ e k ?_
        clear go e k
        go_enter Tryz.func81, Tryz.ntmps81
        go_wp2
        go_ret2
        exact ⟨rfl, rfl⟩
    · have e : dgv r = -1 := by unfold dgv; rw [if_neg a1, if_neg a2]
      have k : dgk r base = false := by unfold dgk; rw [e]; simp
      refine go _ _ e k ?_
      clear go e k
      have hh : r < 48 ∨ (57 < r ∧ r < 97) ∨ 102 < r := by omega
      clear a1 a2
      rcases hh with hh | ⟨h3, h4⟩ | hh
      all_goals
        rcases hb with rfl | rfl
        all_goals
          go_enter Tryz.func81, Tryz.ntmps81
          go_wp2
          go_ret2
          exact ⟨rfl, rfl⟩

/-- The numbers of a text: those that are done, and the one at hand (-1: no digit yet). -/
def rn (sep base most : Int) : List UInt8 → List Int → Int → Option (List Int)
  | [], done, cur => some (done ++ [cur])
  | c :: r, done, cur =>
      if (c.toNat : Int) = sep then (if done.length = 7 then none else rn sep base most r (done ++ [cur]) (-1))
      else if dgk c.toNat base = true then (if most < (if cur < 0 then 0 else cur) * base + dgv c.toNat then none else rn sep base most r done ((if cur < 0 then 0 else cur) * base + dgv c.toNat)) else none

end Go.Proofs.YtadhapggcifldaaGreatDoor
