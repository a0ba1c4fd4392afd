/-
  The specification's l1Byte: a number from 0 to 255; the cursor lies as before, on or one farther; nothing else turns.
-/
import Derived.Test.YtnngbeoeocbofaaWCur
import Derived.RegionTactic
namespace Go.Proofs.Ytnngbeoeocbofaa
open Go.RowKit

theorem and255 (x : Int) : 0 ≤ bits .and .i64 x 255 ∧ bits .and .i64 x 255 ≤ 255 := by
  have e : bits .and .i64 x 255 = IntKind.i64.wrap ((BitVec.ofInt 64 x &&& BitVec.ofInt 64 255).toNat : Int) := rfl
  have h : (BitVec.ofInt 64 x &&& BitVec.ofInt 64 255).toNat ≤ 255 := by
    rw [BitVec.toNat_and]
    exact Nat.le_trans Nat.and_le_right (by decide)
  rw [e, IntKind.wrap_i64]
  omega

set_option maxHeartbeats 1000000 in
theorem l1Byte_any (c : Nat) (a : Option Addr) (len cap : Nat) (W : World) (hC : Cur W c a len cap) :
    Calls Try.prog 61 #[.pointer (some ⟨c, 0, none⟩)] W fun e W' => (∃ x : Int, 0 ≤ x ∧ x ≤ 255 ∧ e = .returned (.int .i64 x)) ∧ Cur W' c a len cap ∧ Kp c W W' := by
  have HC : Hid (Cur W c a len cap) := hC
  obtain ⟨i, hi, c1⟩ := hC.idx
  obtain ⟨m, c2⟩ := hC.mix
  have c0 := hC.row
  have g1 := hC.fr1
  have g2 := hC.fr2
  have hl := hC.few
  by_cases hlt : i < len
  · obtain ⟨p, o, v, rfl, hp, cv, v0, v9⟩ := hC.byt i hlt
    have hne : c ≠ p := by omega
    clear hC
    go_enter Try.func61, Try.ntmps61
    go_wp2_with fail
    go_region
    all_goals
      go_wp2_with fail
      go_region
    all_goals
      go_wp2_with fail
      go_region
    all_goals
      go_wp2_with fail
      go_ret
      refine ⟨⟨_, (and255 _).1, (and255 _).2, rfl⟩, ?_, ?_⟩
      · repeat (first | with_reducible exact HC.out | with_reducible refine Cur.drew ?_ | with_reducible refine Cur.set2 ?_ _ | (with_reducible refine Cur.set1 ?_ _ (i + 1) (by omega) (by omega)))
      · repeat (first | with_reducible exact Kp.refl _ _ | (with_reducible refine Kp.trans ?_ (Kp.drew _ _)) | (with_reducible refine Kp.trans ?_ (Kp.set _ _ _ _)))
  · clear hC
    go_enter Try.func61, Try.ntmps61
    go_wp2_with fail
    go_region
    all_goals
      go_wp2_with fail
      go_region
    all_goals
      go_wp2_with fail
      go_ret
      refine ⟨⟨_, (and255 _).1, (and255 _).2, rfl⟩, ?_, ?_⟩
      · repeat (first | with_reducible exact HC.out | with_reducible refine Cur.drew ?_ | with_reducible refine Cur.set2 ?_ _)
      · repeat (first | with_reducible exact Kp.refl _ _ | (with_reducible refine Kp.trans ?_ (Kp.drew _ _)) | (with_reducible refine Kp.trans ?_ (Kp.set _ _ _ _)))

end Go.Proofs.Ytnngbeoeocbofaa
