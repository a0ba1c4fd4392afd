/-
  The library's cmp.Compare and cmp.Or at int, each by its plain twin; nothing in memory turns.
-/
import Derived.Test.YtmbmekcppmbokaaGreatACmp
namespace Go.Proofs.YtmbmekcppmbokaaGreat
open Go.RowKit

set_option maxHeartbeats 400000 in
theorem cmpInt_any (a b : Int) (w : World) :
    Calls Tryz.prog 107 #[.int .i64 a, .int .i64 b] w fun e w' => e = .returned (.int .i64 (cmpW a b)) ∧ w' = w := by
  by_cases h1 : a < b
  · have e : cmpW a b = -1 := by simp [cmpW, h1]
    rw [e]
    go_enter Tryz.func107, Tryz.ntmps107
    go_wp2
    go_ret
    exact ⟨rfl, rfl⟩
  · by_cases h2 : b < a
    · have e : cmpW a b = 1 := by simp [cmpW, h1, h2]
      rw [e]
      go_enter Tryz.func107, Tryz.ntmps107
      go_wp2
      go_ret
      exact ⟨rfl, rfl⟩
    · have e : cmpW a b = 0 := by simp [cmpW, h1, h2]
      rw [e]
      go_enter Tryz.func107, Tryz.ntmps107
      go_wp2
      go_ret
      exact ⟨rfl, rfl⟩

/-- the first that is not 0 -/
def orI (c d : Int) : Int := if (c != 0) = true then c else d
theorem orI_1 {c d : Int} (h : (c != 0) = true) : orI c d = c := by simp only [orI, h, if_true]
theorem orI_2 {c d : Int} (h : (c != 0) = false) : orI c d = d := by simp [orI, h]

/-- a number that is 0, said so that no walk looks in -/
def ZeroI (c : Int) : Prop := (c != 0) = false

set_option maxHeartbeats 1000000 in
theorem cmpOr_any (c d : Int) (p : Nat) (w : World) (x0 : w.cell? ⟨p, 0, none⟩ = some (.int .i64 c)) (x1 : w.cell? ⟨p, 1, none⟩ = some (.int .i64 d)) :
    Calls Tryz.prog 105 #[.slice (some ⟨p, 0, none⟩) 2 2] w fun e w' => e = .returned (.int .i64 (orI c d)) ∧ w' = w := by
  go_enter Tryz.func105, Tryz.ntmps105
  go_wp2
  go_loop [8] (fun i => i = .int .i64 0 ∨ (i = .int .i64 1 ∧ ZeroI c) ∨ (i = .int .i64 2 ∧ ZeroI c ∧ ZeroI d)) (fun i => 2 - (intOf i).toNat)
  case atStart => exact Or.inl rfl
  case round =>
    rcases hrel with rfl | ⟨rfl, k0⟩ | ⟨rfl, k0, k1⟩
    · cases hc : (c != 0)
      · go_wp2
        go_round
        case rel => exact Or.inr (Or.inl ⟨rfl, hc⟩)
        case measure => simp [intOf]
      · go_wp2
        go_ret
        exact ⟨ret_int (orI_1 hc).symm, rfl⟩
    · cases hc : (d != 0)
      · go_wp2
        go_round
        case rel => exact Or.inr (Or.inr ⟨rfl, k0, hc⟩)
        case measure => simp [intOf]
      · have HZ : Hid (orI c d = d) := orI_2 k0
        go_wp2
        go_ret
        exact ⟨ret_int HZ.out.symm, rfl⟩
    · have HZ : Hid (orI c d = 0) := (orI_2 k0).trans (by simpa [ZeroI] using k1)
      go_wp2
      go_ret
      exact ⟨ret_int HZ.out.symm, rfl⟩

end Go.Proofs.YtmbmekcppmbokaaGreat
