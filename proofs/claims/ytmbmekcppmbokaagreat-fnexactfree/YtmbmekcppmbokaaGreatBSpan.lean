/-
  The program's methods of a span (an address and how many of its last bits are free), each by its plain twin; nothing old in memory turns.
-/
import Derived.Test.YtmbmekcppmbokaaGreatBAddr
import Derived.Deep.RegionWith
import Derived.Deep.DeepCutAuto
namespace Go.Proofs.YtmbmekcppmbokaaGreat
open Go.RowKit

/-- '==' on two addresses, and on two spans. -/
theorem eqAd (a : Bool) (b c : Int) (d : Bool) (e f : Int) (w : World) : (Op.equalIn 10000 35 (.agg #[.bool a, .int .i64 b, .int .i64 c]) (.agg #[.bool d, .int .i64 e, .int .i64 f])).run Tryz.prog w = .ok (a == d && (b == e && c == f)) w := by
  have u3 := Tryz.underlying3
  have a3 := Tryz.isAgg3
  have z3 := Tryz.sizeOf3
  have u4 := Tryz.underlying4
  have a4 := Tryz.isAgg4
  have z4 := Tryz.sizeOf4
  have hS : Tryz.prog.underlying 35 = some (.struct (Tryz.prog.fieldsOf 35)) := by kernel_rfl
  have hp : Tryz.prog.stoodInHeld 35 = false := by kernel_rfl
  rw [show (10000 : Nat) = 9999 + 1 from rfl, run_equalIn_agg w 9999 35 _ _ hS hp]
  simp only [Program.fieldsOf, Tryz.underlying35]
  go_simp
  by_cases h1 : a = d <;> by_cases h2 : b = e <;> by_cases h3 : c = f <;> simp [h1, h2, h3]

theorem beqI (x y : BitVec 64) : (x.toInt == y.toInt) = (x == y) := by
  rw [Bool.eq_iff_iff, beq_iff_eq, beq_iff_eq, BitVec.toInt_inj]

/-- whether the span (s, H, L) of size n has the address (s', H', L') -/
def hasB (s : Bool) (H L : BitVec 64) (n : Nat) (s' : Bool) (H' L' : BitVec 64) : Bool := s' == s && (cH n H' == H && cL n L' == L)

theorem hasEq (s : Bool) (H L : BitVec 64) (n : Nat) (s' : Bool) (H' L' : BitVec 64) (wx : World) : (Op.equalIn 10000 35 (.agg #[.bool s', .int .i64 (cH n H').toInt, .int .i64 (cL n L').toInt]) (.agg #[.bool s, .int .i64 H.toInt, .int .i64 L.toInt])).run Tryz.prog wx = .ok (hasB s H L n s' H' L') wx := by
  rw [eqAd, beqI, beqI]; rfl

set_option maxHeartbeats 1000000 in
theorem has_any (s : Bool) (H L : BitVec 64) (n : Nat) (hn : n ≤ 128) (s' : Bool) (H' L' : BitVec 64) (w : World) :
    Calls Tryz.prog 86 #[.agg #[.bool s, .int .i64 H.toInt, .int .i64 L.toInt, .int .i64 n], .agg #[.bool s', .int .i64 H'.toInt, .int .i64 L'.toInt]] w fun e w' => e = .returned (.bool (hasB s H L n s' H' L')) ∧ Below w.heap.size w w' := by
  have hq := hasEq s H L n s' H' L'
  go_enter Tryz.func86, Tryz.ntmps86
  go_wp2_with fail
  go_region_with ((go_at_call 98; refine (cleared_any s' H' L' n hn _).mono ?_; rintro e w1 ⟨rfl, hb1⟩; have hz1 := hb1.size; (try simp at hz1); (first | (refine ltk (w.heap.size) (w1.heap.size) ?_ ?_; (focus omega); intro f10) | skip); (first | (refine ltk (w.heap.size + 1) (w1.heap.size) ?_ ?_; (focus omega); intro f11) | skip); (refine olds_k (w.heap.size + 2) hb1 ?_ ?_; (focus (first | omega | (simp; omega) | (simp; done))); intro hc1 hf1)))
  all_goals
    go_wp2_with fail
    go_ret
    refine ⟨rfl, ?_⟩
    repeat (first | with_reducible exact Below.refl _ _ | (with_reducible refine Below.drew ?_) | (with_reducible refine Below.alloc ?_ ?_ _; rotate_left; (focus (first | omega | (simp; omega) | (simp; done)))) | (with_reducible refine Below.setCell ?_ ?_ _; rotate_left; (focus (first | omega | (simp; omega) | (simp; done)))) | (with_reducible refine Below.trans ?_ (hb1.mono ?_); rotate_left; (focus (first | omega | (simp; omega) | (simp; done)))))

end Go.Proofs.YtmbmekcppmbokaaGreat
