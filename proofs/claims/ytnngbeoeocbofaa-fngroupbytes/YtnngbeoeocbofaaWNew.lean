/-
  The specification's l1New: a cursor over the code's bytes, in a block of its own; nothing old turns.
-/
import Derived.Test.YtnngbeoeocbofaaWBelow
namespace Go.Proofs.Ytnngbeoeocbofaa
open Go.RowKit

/-- The code's bytes, as memory holds them. -/
def Bytes (w : World) (a : Option Addr) (len : Nat) : Prop := ∀ j, j < len → ∃ p o v, a = some ⟨p, o, none⟩ ∧ p < w.heap.size ∧ w.cell? ⟨p, o + j, none⟩ = some (.int .u8 v) ∧ 0 ≤ v ∧ v < 256

set_option maxRecDepth 100000 in
set_option maxHeartbeats 1000000 in
theorem l1New_any (a : Option Addr) (len cap : Nat) (w : World) (hB : Bytes w a len) (hl : len ≤ 1048576) :
    Calls Try.prog 35 #[.slice a len cap] w fun e w' => e = .returned (.pointer (some ⟨w.heap.size, 0, none⟩)) ∧ Cur w' w.heap.size a len cap ∧ Below w.heap.size w w' ∧ w'.heap.size = w.heap.size + 1 := by
  have HB : Hid (Bytes w a len) := hB
  clear hB
  go_enter Try.func35, Try.ntmps35
  go_wp2
  go_loop [3, 4] (fun t3 t4 => ∃ (h : Int) (k : Nat), k ≤ len ∧ t3 = .int .i64 h ∧ t4 = .int .i64 k) (fun _ t4 => len - (intOf t4).toNat)
  case atStart => exact ⟨_, 0, Nat.zero_le _, rfl, rfl⟩
  case round =>
    obtain ⟨h, k, hk, rfl, rfl⟩ := hrel
    by_cases h1 : k < len
    · by_cases h2 : k < 4000
      · obtain ⟨p, o, v, rfl, hp, cv, v0, v9⟩ := HB.out k h1
        go_wp2
        go_round
        case rel => exact ⟨_, k + 1, by omega, rfl, by go_num⟩
        case measure => simp [intOf]; omega
      · go_wp2
        go_ret
        refine ⟨rfl, ⟨by simp [go_sem], ⟨0, Nat.zero_le _, by simp [go_sem]⟩, ⟨h, by simp [go_sem]⟩, by simp [go_sem], by simp [go_sem], fun j hj => ?_, hl⟩, (Below.refl _ w).alloc (Nat.le_refl _) _, by simp⟩
        obtain ⟨p, o, v, ha, hp, cv, v0, v9⟩ := HB.out j hj
        exact ⟨p, o, v, ha, hp, (((Below.refl _ w).alloc (Nat.le_refl _) _).cell hp).trans cv, v0, v9⟩
    · go_wp2
      go_ret
      refine ⟨rfl, ⟨by simp [go_sem], ⟨0, Nat.zero_le _, by simp [go_sem]⟩, ⟨h, by simp [go_sem]⟩, by simp [go_sem], by simp [go_sem], fun j hj => ?_, hl⟩, (Below.refl _ w).alloc (Nat.le_refl _) _, by simp⟩
      obtain ⟨p, o, v, ha, hp, cv, v0, v9⟩ := HB.out j hj
      exact ⟨p, o, v, ha, hp, (((Below.refl _ w).alloc (Nat.le_refl _) _).cell hp).trans cv, v0, v9⟩

end Go.Proofs.Ytnngbeoeocbofaa
