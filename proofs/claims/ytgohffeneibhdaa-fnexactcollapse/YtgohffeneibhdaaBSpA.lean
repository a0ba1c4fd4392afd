/-
  The program's above, by its plain twin; nothing old in memory turns.
-/
import Derived.Test.YtgohffeneibhdaaBAddr
import Derived.Deep.RegionWith
import Derived.Deep.DeepCutAuto
namespace Go.Proofs.Ytgohffeneibhdaa
open Go.RowKit

set_option maxHeartbeats 1000000 in
theorem above_any (s : Bool) (H L : BitVec 64) (n : Nat) (hn : n + 1 ≤ 128) (w : World) :
    Calls Try.prog 63 #[.agg #[.bool s, .int .i64 H.toInt, .int .i64 L.toInt, .int .i64 n]] w fun e w' => e = .returned (.agg #[.bool s, .int .i64 (cH (n + 1) H).toInt, .int .i64 (cL (n + 1) L).toInt, .int .i64 ((n : Int) + 1)]) ∧ Below w.heap.size w w' := by
  have hcl := cleared_any s H L (n + 1) hn
  simp only [Int.natCast_add, Int.natCast_one] at hcl
  have HCL : Hid (∀ w, _) := hcl
  clear hcl
  go_enter Try.func63, Try.ntmps63
  go_wp2_with fail
  refine (HCL.out _).mono ?_
  rintro e w1 ⟨rfl, hb1⟩
  have hz1 := hb1.size
  try simp at hz1
  have f10 : w.heap.size < w1.heap.size := by omega
  have f11 : w.heap.size + 1 < w1.heap.size := by omega
  refine olds_k (w.heap.size + 2) hb1 ?_ ?_
  · first | omega | (simp; omega) | (simp; done)
  intro hc1 hf1
  go_wp2_with fail
  refine bodyPost_ret (v := .agg #[.bool s, .int .i64 (cH (n + 1) H).toInt, .int .i64 (cL (n + 1) L).toInt, .int .i64 ((n : Int) + 1)]) (by simp [results, Try.results63, go_sem, hc1]) rfl ⟨rfl, ?_⟩
  repeat (first | with_reducible exact Below.refl _ _ | (with_reducible refine Below.drew ?_) | (with_reducible refine Below.alloc ?_ ?_ _; rotate_left; (focus (first | omega | (simp; omega) | (simp; done)))) | (with_reducible refine Below.setCell ?_ ?_ _; rotate_left; (focus (first | omega | (simp; omega) | (simp; done)))) | (with_reducible refine Below.trans ?_ (hb1.mono ?_); rotate_left; (focus (first | omega | (simp; omega) | (simp; done)))))

end Go.Proofs.Ytgohffeneibhdaa
