/-
  The program's LastOf, by its plain twin; nothing old in memory turns.
-/
import Derived.Test.YtkmfbbcofojfaaaBSpX
import Derived.Test.YtkmfbbcofojfaaaBFil
import Derived.Deep.RegionWith
import Derived.Deep.DeepCutAuto
namespace Go.Proofs.Ytkmfbbcofojfaaa
open Go.RowKit

set_option maxHeartbeats 1000000 in
theorem iLastOf_no (s : Bool) (H L : BitVec 64) (b : Int) (hp : pokB s H L b = false) (w : World) :
    Calls Try.prog 16 #[.agg #[.bool s, .int .i64 H.toInt, .int .i64 L.toInt, .int .i64 b]] w fun e w' => e = .returned (.tuple #[.agg #[.bool false, .int .i64 0, .int .i64 0], .bool false]) ∧ Below w.heap.size w w' := by
  have HS : Hid (∀ w, _) := spanOf_no s H L b hp
  clear hp
  go_enter Try.func16, Try.ntmps16
  go_wp2_with fail
  refine (HS.out _).mono ?_
  rintro e w1 ⟨rfl, hb1⟩
  have hz1 := hb1.size
  try simp at hz1
  have f10 : w.heap.size < w1.heap.size := by omega
  have f11 : w.heap.size + 1 < w1.heap.size := by omega
  refine olds_k (w.heap.size + 2) hb1 ?_ ?_
  · first | omega | (simp; omega) | (simp; done)
  intro hc1 hf1
  go_wp2_with fail
  refine bodyPost_ret (v := .tuple #[.agg #[.bool false, .int .i64 0, .int .i64 0], .bool false]) (by simp [results, Try.results16, go_sem, hc1, f11]) rfl ⟨rfl, ?_⟩
  repeat (first | with_reducible exact Below.refl _ _ | (with_reducible refine Below.drew ?_) | (with_reducible refine Below.alloc ?_ ?_ _; rotate_left; (focus (first | omega | (simp; omega) | (simp; done)))) | (with_reducible refine Below.setCell ?_ ?_ _; rotate_left; (focus (first | omega | (simp; omega) | (simp; done)))) | (with_reducible refine Below.trans ?_ (hb1.mono ?_); rotate_left; (focus (first | omega | (simp; omega) | (simp; done)))))

set_option maxHeartbeats 1000000 in
theorem iLastOf_yes (s : Bool) (H L : BitVec 64) (b : Int) (n : Nat) (hn : (n : Int) = (wd s : Int) - b) (hp : pokB s H L b = true) (w : World) :
    Calls Try.prog 16 #[.agg #[.bool s, .int .i64 H.toInt, .int .i64 L.toInt, .int .i64 b]] w fun e w' => e = .returned (.tuple #[.agg #[.bool s, .int .i64 (fH n H).toInt, .int .i64 (fL n L).toInt], .bool true]) ∧ Below w.heap.size w w' := by
  have hn1 : n ≤ 128 := by have := wd_le' s; have := (pokB_parts hp).2.1; omega
  have HS : Hid (∀ w, _) := spanOf_yes s H L b n hn hp
  have HL : Hid (∀ w, _) := last_any s H L n hn1
  clear hp hn
  go_enter Try.func16, Try.ntmps16
  go_wp2_with fail
  refine (HS.out _).mono ?_
  rintro e w1 ⟨rfl, hb1⟩
  have hz1 := hb1.size
  try simp at hz1
  have f10 : w.heap.size < w1.heap.size := by omega
  have f11 : w.heap.size + 1 < w1.heap.size := by omega
  refine olds_k (w.heap.size + 2) hb1 ?_ ?_
  · first | omega | (simp; omega) | (simp; done)
  intro hc1 hf1
  go_wp2_with fail
  refine (HL.out _).mono ?_
  rintro e w2 ⟨rfl, hb2⟩
  have hz2 := hb2.size
  try simp at hz2
  have f20 : w.heap.size < w2.heap.size := by omega
  have f21 : w.heap.size + 1 < w2.heap.size := by omega
  refine olds_k (w.heap.size + 2) hb2 ?_ ?_
  · first | omega | (simp; omega) | (simp; done)
  intro hc2 hf2
  go_wp2_with fail
  refine bodyPost_ret (v := .tuple #[.agg #[.bool s, .int .i64 (fH n H).toInt, .int .i64 (fL n L).toInt], .bool true]) (by simp [results, Try.results16, go_sem, hc1, hc2, f11]) rfl ⟨rfl, ?_⟩
  repeat (first | with_reducible exact Below.refl _ _ | (with_reducible refine Below.drew ?_) | (with_reducible refine Below.alloc ?_ ?_ _; rotate_left; (focus (first | omega | (simp; omega) | (simp; done)))) | (with_reducible refine Below.setCell ?_ ?_ _; rotate_left; (focus (first | omega | (simp; omega) | (simp; done)))) | (with_reducible refine Below.trans ?_ (hb2.mono ?_); rotate_left; (focus (first | omega | (simp; omega) | (simp; done)))) | (with_reducible refine Below.trans ?_ (hb1.mono ?_); rotate_left; (focus (first | omega | (simp; omega) | (simp; done)))))

end Go.Proofs.Ytkmfbbcofojfaaa
