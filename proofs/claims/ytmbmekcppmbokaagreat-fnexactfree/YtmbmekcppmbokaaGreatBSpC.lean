/-
  The program's within and overlaps of spans, each by its plain twin; nothing old in memory turns.
-/
import Derived.Test.YtmbmekcppmbokaaGreatBSpan
import Derived.Deep.RegionWith
import Derived.Deep.DeepCutAuto
namespace Go.Proofs.YtmbmekcppmbokaaGreat
open Go.RowKit

/-- whether the span (s, H, L, n) lies in (s', H', L', m) -/
def withB (s : Bool) (H L : BitVec 64) (n : Nat) (s' : Bool) (H' L' : BitVec 64) (m : Nat) : Bool := decide (n ≤ m) && hasB s' H' L' m s H L

set_option maxHeartbeats 1000000 in
theorem within_any (s : Bool) (H L : BitVec 64) (n : Nat) (s' : Bool) (H' L' : BitVec 64) (m : Nat) (hm : m ≤ 128) (w : World) :
    Calls Tryz.prog 89 #[.agg #[.bool s, .int .i64 H.toInt, .int .i64 L.toInt, .int .i64 n], .agg #[.bool s', .int .i64 H'.toInt, .int .i64 L'.toInt, .int .i64 m]] w fun e w' => e = .returned (.bool (withB s H L n s' H' L' m)) ∧ Below w.heap.size w w' := by
  by_cases h : n ≤ m
  · rw [withB, decide_eq_true h, Bool.true_and]
    go_enter Tryz.func89, Tryz.ntmps89
    go_wp2_with fail
    refine (has_any s' H' L' m hm s H L _).mono ?_
    rintro e w1 ⟨rfl, hb1⟩
    have hz1 := hb1.size
    try simp at hz1
    have f10 : w.heap.size < w1.heap.size := by omega
    have f11 : w.heap.size + 1 < w1.heap.size := by omega
    refine olds_k (w.heap.size + 2) hb1 ?_ ?_
    · first | omega | (simp; omega) | (simp; done)
    intro hc1 hf1
    go_wp2_with fail
    go_ret
    refine ⟨rfl, ?_⟩
    repeat (first | with_reducible exact Below.refl _ _ | (with_reducible refine Below.drew ?_) | (with_reducible refine Below.alloc ?_ ?_ _; rotate_left; (focus (first | omega | (simp; omega) | (simp; done)))) | (with_reducible refine Below.setCell ?_ ?_ _; rotate_left; (focus (first | omega | (simp; omega) | (simp; done)))) | (with_reducible refine Below.trans ?_ (hb1.mono ?_); rotate_left; (focus (first | omega | (simp; omega) | (simp; done)))))
  · rw [withB, decide_eq_false h, Bool.false_and]
    go_enter Tryz.func89, Tryz.ntmps89
    go_wp2_with fail
    go_ret
    refine ⟨rfl, ?_⟩
    repeat (first | with_reducible exact Below.refl _ _ | (with_reducible refine Below.drew ?_) | (with_reducible refine Below.alloc ?_ ?_ _; rotate_left; (focus (first | omega | (simp; omega) | (simp; done)))) | (with_reducible refine Below.setCell ?_ ?_ _; rotate_left; (focus (first | omega | (simp; omega) | (simp; done)))))

set_option maxHeartbeats 1000000 in
theorem overlaps_any (s : Bool) (H L : BitVec 64) (n : Nat) (hn : n ≤ 128) (s' : Bool) (H' L' : BitVec 64) (m : Nat) (hm : m ≤ 128) (w : World) :
    Calls Tryz.prog 108 #[.agg #[.bool s, .int .i64 H.toInt, .int .i64 L.toInt, .int .i64 n], .agg #[.bool s', .int .i64 H'.toInt, .int .i64 L'.toInt, .int .i64 m]] w fun e w' => e = .returned (.bool (withB s H L n s' H' L' m || withB s' H' L' m s H L n)) ∧ Below w.heap.size w w' := by
  have HW : Hid (∀ w, _) := within_any s H L n s' H' L' m hm
  have HX : Hid (∀ w, _) := within_any s' H' L' m s H L n hn
  generalize withB s H L n s' H' L' m = b1 at HW ⊢
  generalize withB s' H' L' m s H L n = b2 at HX ⊢
  cases b1
  · rw [Bool.false_or]
    go_enter Tryz.func108, Tryz.ntmps108
    go_wp2_with fail
    refine (HW.out _).mono ?_
    rintro e w1 ⟨rfl, hb1⟩
    have hz1 := hb1.size
    try simp at hz1
    have f10 : w.heap.size < w1.heap.size := by omega
    have f11 : w.heap.size + 1 < w1.heap.size := by omega
    refine olds_k (w.heap.size + 2) hb1 ?_ ?_
    · first | omega | (simp; omega) | (simp; done)
    intro hc1 hf1
    go_wp2_with fail
    refine (HX.out _).mono ?_
    rintro e w2 ⟨rfl, hb2⟩
    have hz2 := hb2.size
    try simp at hz2
    have f20 : w.heap.size < w2.heap.size := by omega
    have f21 : w.heap.size + 1 < w2.heap.size := by omega
    refine olds_k (w.heap.size + 2) hb2 ?_ ?_
    · first | omega | (simp; omega) | (simp; done)
    intro hc2 hf2
    go_wp2_with fail
    go_ret
    refine ⟨rfl, ?_⟩
    repeat (first | with_reducible exact Below.refl _ _ | (with_reducible refine Below.drew ?_) | (with_reducible refine Below.alloc ?_ ?_ _; rotate_left; (focus (first | omega | (simp; omega) | (simp; done)))) | (with_reducible refine Below.setCell ?_ ?_ _; rotate_left; (focus (first | omega | (simp; omega) | (simp; done)))) | (with_reducible refine Below.trans ?_ (hb2.mono ?_); rotate_left; (focus (first | omega | (simp; omega) | (simp; done)))) | (with_reducible refine Below.trans ?_ (hb1.mono ?_); rotate_left; (focus (first | omega | (simp; omega) | (simp; done)))))
  · rw [Bool.true_or]
    go_enter Tryz.func108, Tryz.ntmps108
    go_wp2_with fail
    refine (HW.out _).mono ?_
    rintro e w1 ⟨rfl, hb1⟩
    have hz1 := hb1.size
    try simp at hz1
    have f10 : w.heap.size < w1.heap.size := by omega
    have f11 : w.heap.size + 1 < w1.heap.size := by omega
    refine olds_k (w.heap.size + 2) hb1 ?_ ?_
    · first | omega | (simp; omega) | (simp; done)
    intro hc1 hf1
    go_wp2_with fail
    go_ret
    refine ⟨rfl, ?_⟩
    repeat (first | with_reducible exact Below.refl _ _ | (with_reducible refine Below.drew ?_) | (with_reducible refine Below.alloc ?_ ?_ _; rotate_left; (focus (first | omega | (simp; omega) | (simp; done)))) | (with_reducible refine Below.setCell ?_ ?_ _; rotate_left; (focus (first | omega | (simp; omega) | (simp; done)))) | (with_reducible refine Below.trans ?_ (hb1.mono ?_); rotate_left; (focus (first | omega | (simp; omega) | (simp; done)))))

end Go.Proofs.YtmbmekcppmbokaaGreat
