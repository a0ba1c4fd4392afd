/-
  The program's prefix, last and above of a span, each by its plain twin; nothing old in memory turns.
-/
import Derived.Test.YtgohffeneibhdaaBAddr
import Derived.Deep.RegionWith
import Derived.Deep.DeepCutAuto
namespace Go.Proofs.Ytgohffeneibhdaa
open Go.RowKit

theorem wd_le (s : Bool) : wd s ≤ 128 := by cases s <;> decide

set_option maxHeartbeats 1000000 in
theorem prefix_any (s : Bool) (H L : BitVec 64) (n : Nat) (hn : n ≤ 128) (w : World) :
    Calls Try.prog 64 #[.agg #[.bool s, .int .i64 H.toInt, .int .i64 L.toInt, .int .i64 n]] w fun e w' => e = .returned (.agg #[.bool s, .int .i64 H.toInt, .int .i64 L.toInt, .int .i64 ((wd s : Int) - n)]) ∧ Below w.heap.size w w' := by
  have hw := wd_le s
  have hwr : IntKind.i64.wrap ((wd s : Int) - n) = (wd s : Int) - n := by rw [← w64]; unfold wrap64; omega
  go_enter Try.func64, Try.ntmps64
  go_wp2_with fail
  go_region_with ((go_at_call 61; refine (width_any s H.toInt L.toInt _).mono ?_; rintro e w1 ⟨rfl, hb1⟩; have hz1 := hb1.size; (try simp at hz1); (first | (refine ltk (w.heap.size) (w1.heap.size) ?_ ?_; (focus omega); intro f10) | skip); (first | (refine ltk (w.heap.size + 1) (w1.heap.size) ?_ ?_; (focus omega); intro f11) | skip); (refine olds_k (w.heap.size + 2) hb1 ?_ ?_; (focus (first | omega | (simp; omega) | (simp; done))); intro hc1 hf1)))
  all_goals
    go_wp2_with fail
    refine bodyPost_ret (v := .agg #[.bool s, .int .i64 H.toInt, .int .i64 L.toInt, .int .i64 ((wd s : Int) - n)]) (by simp [results, Try.results64, go_sem, hc1]) rfl ⟨rfl, ?_⟩
    repeat (first | with_reducible exact Below.refl _ _ | (with_reducible refine Below.drew ?_) | (with_reducible refine Below.alloc ?_ ?_ _; rotate_left; (focus (first | omega | (simp; omega) | (simp; done)))) | (with_reducible refine Below.setCell ?_ ?_ _; rotate_left; (focus (first | omega | (simp; omega) | (simp; done)))) | (with_reducible refine Below.trans ?_ (hb1.mono ?_); rotate_left; (focus (first | omega | (simp; omega) | (simp; done)))))

end Go.Proofs.Ytgohffeneibhdaa
