/-
  The program's above, by its plain twin; nothing old in memory turns.
-/
import Derived.Test.YtgohffeneibhdaaBAddr
import Derived.Deep.RegionWith
import Derived.Deep.DeepCutAuto
namespace Go.Proofs.Ytgohffeneibhdaa
open Go.RowKit

set_option maxHeartbeats 1000000 in
theorem above_any (s : Bool) (H L : BitVec 64) (n : Nat) (hn : n + 1 ≤ 128) (w : World) :
    Calls Try.prog 63 #[.agg #[.bool s, .int .i64 H.toInt, .int .i64 L.toInt, .int .i64 n]] w fun e w' => e = .returned (.agg #[.bool s, .int .i64 (cH (n + 1) H).toInt, .int .i64 (cL (n + 1) L).toInt, .int .i64 ((n : Int) + 1)]) ∧ Below w.heap.size w w' := by
  have hcl := cleared_any s H L (n + 1) hn
  simp only [Int.natCast_add, Int.natCast_one] at hcl
  have HCL : Hid (∀ w, _) := hcl
  clear hcl
  go_enter Try.func63, Try.ntmps63
  go_wp2_with fail
  refine (HCL.out _).mono ?_
  rintro e w1 ⟨rfl, hb1⟩
  have hz1 := hb1.size
  try simp at hz1
  have f10 : w.heap.size < w1.heap.size := by omega
  have f11 : w.heap.size + 1 < w1.heap.size := by omega
  refine olds_k (w.heap.size + 2) hb1 ?_ ?_
  · first | omega | (simp; omega) | (simp; done)
  intro hc1 hf1
  go_wp2_with fail
  refine bodyPost_ret (v := .agg #[.bool s, .int .i64 (cH (n + 1) H).toInt, .int .i64 (cL (n + 1) L).toInt, .int .i64 ((n : Int) + 1)]) (by simp [results, Try.results63, go_sem, hc1]) rfl ⟨rfl, ?_⟩
  repeat (first | with_reducible exact Below.refl _ _ | (with_reducible refine Below.drew ?_) | (with_reducible refine Below.alloc ?_ ?_ _; rotate_left; (focus (first | omega | (simp; omega) | (simp; done)))) | (with_reducible refine Below.setCell ?_ ?_ _; rotate_left; (focus (first | omega | (simp; omega) | (simp; done)))) | (with_reducible refine Below.trans ?_ (hb1.mono ?_); rotate_left; (focus (first | omega | (simp; omega) | (simp; done)))))

end Go.Proofs.Ytgohffeneibhdaa

namespace Go.Proofs.Ytgohffeneibhdaa
open Go.RowKit

set_option maxHeartbeats 400000 in
theorem filled_any (s : Bool) (H L : BitVec 64) (n : Nat) (hn : n ≤ 128) (w : World) :
    Calls Try.prog 97 #[.agg #[.bool s, .int .i64 H.toInt, .int .i64 L.toInt], .int .i64 n] w fun e w' => e = .returned (.agg #[.bool s, .int .i64 (fH n H).toInt, .int .i64 (fL n L).toInt]) ∧ Below w.heap.size w w' := by
  go_enter Try.func97, Try.ntmps97
  go_wp2_with fail
  refine (lastBits_any n hn _).mono ?_
  rintro e w1 ⟨rfl, hb⟩
  obtain ⟨hc, hf⟩ := olds (n := w.heap.size + 2) (hb.mono (by simp))
  have hz1 : w.heap.size + 1 < w1.heap.size := by have := hb.size; simp at this; omega
  have hz0 : w.heap.size < w1.heap.size := by omega
  have b1 : Below w.heap.size w w1 := (((Below.refl _ w).alloc (Nat.le_refl _) _).alloc (by simp) _).trans (hb.mono (by simp; omega))
  go_wp2
  refine bodyPost_ret (v := .agg #[.bool s, .int .i64 (fH n H).toInt, .int .i64 (fL n L).toInt]) (by simp [results, Try.results97, go_sem, hc, bOr, fH, fL]) rfl ⟨rfl, ?_⟩
  repeat (first | with_reducible exact b1 | (with_reducible refine Below.setCell ?_ (by first | omega | (simp; done) | (simp; omega)) _) | (with_reducible refine Below.alloc ?_ (by first | omega | (simp; done) | (simp; omega)) _))

set_option maxHeartbeats 1000000 in
theorem last_any (s : Bool) (H L : BitVec 64) (n : Nat) (hn : n ≤ 128) (w : World) :
    Calls Try.prog 91 #[.agg #[.bool s, .int .i64 H.toInt, .int .i64 L.toInt, .int .i64 n]] w fun e w' => e = .returned (.agg #[.bool s, .int .i64 (fH n H).toInt, .int .i64 (fL n L).toInt]) ∧ Below w.heap.size w w' := by
  go_enter Try.func91, Try.ntmps91
  go_wp2_with fail
  refine (filled_any s H L n hn _).mono ?_
  rintro e w1 ⟨rfl, hb1⟩
  have hz1 := hb1.size
  try simp at hz1
  have f10 : w.heap.size < w1.heap.size := by omega
  have f11 : w.heap.size + 1 < w1.heap.size := by omega
  refine olds_k (w.heap.size + 2) hb1 ?_ ?_
  · first | omega | (simp; omega) | (simp; done)
  intro hc1 hf1
  go_wp2_with fail
  refine bodyPost_ret (v := .agg #[.bool s, .int .i64 (fH n H).toInt, .int .i64 (fL n L).toInt]) (by simp [results, Try.results91, go_sem, hc1]) rfl ⟨rfl, ?_⟩
  repeat (first | with_reducible exact Below.refl _ _ | (with_reducible refine Below.drew ?_) | (with_reducible refine Below.alloc ?_ ?_ _; rotate_left; (focus (first | omega | (simp; omega) | (simp; done)))) | (with_reducible refine Below.setCell ?_ ?_ _; rotate_left; (focus (first | omega | (simp; omega) | (simp; done)))) | (with_reducible refine Below.trans ?_ (hb1.mono ?_); rotate_left; (focus (first | omega | (simp; omega) | (simp; done)))))

end Go.Proofs.Ytgohffeneibhdaa

namespace Go.Proofs.Ytgohffeneibhdaa
open Go.RowKit

set_option maxHeartbeats 1000000 in
theorem halves_any (s : Bool) (H L : BitVec 64) (k : Nat) (hk : k + 1 ≤ 128) (w : World) :
    Calls Try.prog 82 #[.agg #[.bool s, .int .i64 H.toInt, .int .i64 L.toInt, .int .i64 ((k : Int) + 1)]] w fun e w' => e = .returned (.tuple #[.agg #[.bool s, .int .i64 H.toInt, .int .i64 L.toInt, .int .i64 k], .agg #[.bool s, .int .i64 (cH k (fH (k + 1) H)).toInt, .int .i64 (cL k (fL (k + 1) L)).toInt, .int .i64 k]]) ∧ Below w.heap.size w w' := by
  have hcl := last_any s H L (k + 1) hk
  simp only [Int.natCast_add, Int.natCast_one] at hcl
  have HL : Hid (∀ w, _) := hcl
  clear hcl
  have HC : Hid (∀ w, _) := cleared_any s (fH (k + 1) H) (fL (k + 1) L) k (by omega)
  go_enter Try.func82, Try.ntmps82
  go_wp2_with fail
  go_region_with (first | (go_at_call 91; refine (HL.out _).mono ?_; rintro e w1 ⟨rfl, hb1⟩; have hz1 := hb1.size; (try simp at hz1); (first | (refine ltk (w.heap.size) (w1.heap.size) ?_ ?_; (focus omega); intro f10) | skip); (first | (refine ltk (w.heap.size + 1) (w1.heap.size) ?_ ?_; (focus omega); intro f11) | skip); (first | (refine ltk (w.heap.size + 2) (w1.heap.size) ?_ ?_; (focus omega); intro f12) | skip); (refine olds_k (w.heap.size + 3) hb1 ?_ ?_; (focus (first | omega | (simp; omega) | (simp; done))); intro hc1 hf1)) | (go_at_call 83; refine (HC.out _).mono ?_; rintro e w2 ⟨rfl, hb2⟩; have hz2 := hb2.size; (try simp at hz2); (first | (refine ltk (w.heap.size) (w2.heap.size) ?_ ?_; (focus omega); intro f20) | skip); (first | (refine ltk (w.heap.size + 1) (w2.heap.size) ?_ ?_; (focus omega); intro f21) | skip); (first | (refine ltk (w.heap.size + 2) (w2.heap.size) ?_ ?_; (focus omega); intro f22) | skip); (refine olds_k (w.heap.size + 3) hb2 ?_ ?_; (focus (first | omega | (simp; omega) | (simp; done))); intro hc2 hf2)))
  all_goals
    go_wp2_with fail
    refine bodyPost_ret (v := .tuple #[.agg #[.bool s, .int .i64 H.toInt, .int .i64 L.toInt, .int .i64 k], .agg #[.bool s, .int .i64 (cH k (fH (k + 1) H)).toInt, .int .i64 (cL k (fL (k + 1) L)).toInt, .int .i64 k]]) (by simp [results, Try.results82, go_sem, hc1, hc2]) rfl ⟨rfl, ?_⟩
    repeat (first | with_reducible exact Below.refl _ _ | (with_reducible refine Below.drew ?_) | (with_reducible refine Below.alloc ?_ ?_ _; rotate_left; (focus (first | omega | (simp; omega) | (simp; done)))) | (with_reducible refine Below.setCell ?_ ?_ _; rotate_left; (focus (first | omega | (simp; omega) | (simp; done)))) | (with_reducible refine Below.trans ?_ (hb2.mono ?_); rotate_left; (focus (first | omega | (simp; omega) | (simp; done)))) | (with_reducible refine Below.trans ?_ (hb1.mono ?_); rotate_left; (focus (first | omega | (simp; omega) | (simp; done)))))

end Go.Proofs.Ytgohffeneibhdaa

namespace Go.Proofs.Ytgohffeneibhdaa
open Go.RowKit

theorem wd_le (s : Bool) : wd s ≤ 128 := by cases s <;> decide

set_option maxHeartbeats 1000000 in
theorem prefix_any (s : Bool) (H L : BitVec 64) (n : Nat) (hn : n ≤ 128) (w : World) :
    Calls Try.prog 64 #[.agg #[.bool s, .int .i64 H.toInt, .int .i64 L.toInt, .int .i64 n]] w fun e w' => e = .returned (.agg #[.bool s, .int .i64 H.toInt, .int .i64 L.toInt, .int .i64 ((wd s : Int) - n)]) ∧ Below w.heap.size w w' := by
  have hw := wd_le s
  have hwr : IntKind.i64.wrap ((wd s : Int) - n) = (wd s : Int) - n := by rw [← w64]; unfold wrap64; omega
  go_enter Try.func64, Try.ntmps64
  go_wp2_with fail
  go_region_with ((go_at_call 61; refine (width_any s H.toInt L.toInt _).mono ?_; rintro e w1 ⟨rfl, hb1⟩; have hz1 := hb1.size; (try simp at hz1); (first | (refine ltk (w.heap.size) (w1.heap.size) ?_ ?_; (focus omega); intro f10) | skip); (first | (refine ltk (w.heap.size + 1) (w1.heap.size) ?_ ?_; (focus omega); intro f11) | skip); (refine olds_k (w.heap.size + 2) hb1 ?_ ?_; (focus (first | omega | (simp; omega) | (simp; done))); intro hc1 hf1)))
  all_goals
    go_wp2_with fail
    refine bodyPost_ret (v := .agg #[.bool s, .int .i64 H.toInt, .int .i64 L.toInt, .int .i64 ((wd s : Int) - n)]) (by simp [results, Try.results64, go_sem, hc1]) rfl ⟨rfl, ?_⟩
    repeat (first | with_reducible exact Below.refl _ _ | (with_reducible refine Below.drew ?_) | (with_reducible refine Below.alloc ?_ ?_ _; rotate_left; (focus (first | omega | (simp; omega) | (simp; done)))) | (with_reducible refine Below.setCell ?_ ?_ _; rotate_left; (focus (first | omega | (simp; omega) | (simp; done)))) | (with_reducible refine Below.trans ?_ (hb1.mono ?_); rotate_left; (focus (first | omega | (simp; omega) | (simp; done)))))

end Go.Proofs.Ytgohffeneibhdaa
