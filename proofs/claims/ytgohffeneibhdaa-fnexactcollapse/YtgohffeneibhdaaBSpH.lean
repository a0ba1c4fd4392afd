/-
  The program's halves of a span, by its plain twin; nothing old in memory turns.
-/
import Derived.Test.YtgohffeneibhdaaBFil
import Derived.Deep.RegionWith
import Derived.Deep.DeepCutAuto
namespace Go.Proofs.Ytgohffeneibhdaa
open Go.RowKit

set_option maxHeartbeats 1000000 in
theorem halves_any (s : Bool) (H L : BitVec 64) (k : Nat) (hk : k + 1 ≤ 128) (w : World) :
    Calls Try.prog 82 #[.agg #[.bool s, .int .i64 H.toInt, .int .i64 L.toInt, .int .i64 ((k : Int) + 1)]] w fun e w' => e = .returned (.tuple #[.agg #[.bool s, .int .i64 H.toInt, .int .i64 L.toInt, .int .i64 k], .agg #[.bool s, .int .i64 (cH k (fH (k + 1) H)).toInt, .int .i64 (cL k (fL (k + 1) L)).toInt, .int .i64 k]]) ∧ Below w.heap.size w w' := by
  have hcl := last_any s H L (k + 1) hk
  simp only [Int.natCast_add, Int.natCast_one] at hcl
  have HL : Hid (∀ w, _) := hcl
  clear hcl
  have HC : Hid (∀ w, _) := cleared_any s (fH (k + 1) H) (fL (k + 1) L) k (by omega)
  go_enter Try.func82, Try.ntmps82
  go_wp2_with fail
  go_region_with (first | (go_at_call 91; refine (HL.out _).mono ?_; rintro e w1 ⟨rfl, hb1⟩; have hz1 := hb1.size; (try simp at hz1); (first | (refine ltk (w.heap.size) (w1.heap.size) ?_ ?_; (focus omega); intro f10) | skip); (first | (refine ltk (w.heap.size + 1) (w1.heap.size) ?_ ?_; (focus omega); intro f11) | skip); (first | (refine ltk (w.heap.size + 2) (w1.heap.size) ?_ ?_; (focus omega); intro f12) | skip); (refine olds_k (w.heap.size + 3) hb1 ?_ ?_; (focus (first | omega | (simp; omega) | (simp; done))); intro hc1 hf1)) | (go_at_call 83; refine (HC.out _).mono ?_; rintro e w2 ⟨rfl, hb2⟩; have hz2 := hb2.size; (try simp at hz2); (first | (refine ltk (w.heap.size) (w2.heap.size) ?_ ?_; (focus omega); intro f20) | skip); (first | (refine ltk (w.heap.size + 1) (w2.heap.size) ?_ ?_; (focus omega); intro f21) | skip); (first | (refine ltk (w.heap.size + 2) (w2.heap.size) ?_ ?_; (focus omega); intro f22) | skip); (refine olds_k (w.heap.size + 3) hb2 ?_ ?_; (focus (first | omega | (simp; omega) | (simp; done))); intro hc2 hf2)))
  all_goals
    go_wp2_with fail
    refine bodyPost_ret (v := .tuple #[.agg #[.bool s, .int .i64 H.toInt, .int .i64 L.toInt, .int .i64 k], .agg #[.bool s, .int .i64 (cH k (fH (k + 1) H)).toInt, .int .i64 (cL k (fL (k + 1) L)).toInt, .int .i64 k]]) (by simp [results, Try.results82, go_sem, hc1, hc2]) rfl ⟨rfl, ?_⟩
    repeat (first | with_reducible exact Below.refl _ _ | (with_reducible refine Below.drew ?_) | (with_reducible refine Below.alloc ?_ ?_ _; rotate_left; (focus (first | omega | (simp; omega) | (simp; done)))) | (with_reducible refine Below.setCell ?_ ?_ _; rotate_left; (focus (first | omega | (simp; omega) | (simp; done)))) | (with_reducible refine Below.trans ?_ (hb2.mono ?_); rotate_left; (focus (first | omega | (simp; omega) | (simp; done)))) | (with_reducible refine Below.trans ?_ (hb1.mono ?_); rotate_left; (focus (first | omega | (simp; omega) | (simp; done)))))

end Go.Proofs.Ytgohffeneibhdaa
