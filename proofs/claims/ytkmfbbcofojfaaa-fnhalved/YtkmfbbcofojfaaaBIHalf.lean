/-
  The program's Halves, by its plain twin; nothing old in memory turns.
-/
import Derived.Test.YtkmfbbcofojfaaaBSpX
import Derived.Test.YtkmfbbcofojfaaaBSpH
import Derived.Test.YtkmfbbcofojfaaaBSpB
import Derived.Deep.RegionHeld3
import Derived.Deep.RegionWith
import Derived.Deep.DeepCutAuto
namespace Go.Proofs.Ytkmfbbcofojfaaa
open Go.RowKit

set_option maxHeartbeats 1000000 in
theorem iHalves_no (s : Bool) (H L : BitVec 64) (b : Int) (hp : pokB s H L b = false) (w : World) :
    Calls Try.prog 9 #[.agg #[.bool s, .int .i64 H.toInt, .int .i64 L.toInt, .int .i64 b]] w fun e w' => e = .returned (.tuple #[.agg #[.bool false, .int .i64 0, .int .i64 0, .int .i64 0], .agg #[.bool false, .int .i64 0, .int .i64 0, .int .i64 0], .bool false]) ∧ Below w.heap.size w w' := by
  have HS : Hid (∀ w, _) := spanOf_no s H L b hp
  clear hp
  go_enter Try.func9, Try.ntmps9
  go_wp2_with fail
  refine (HS.out _).mono ?_
  rintro e w1 ⟨rfl, hb1⟩
  have hz1 := hb1.size
  try simp at hz1
  have f10 : w.heap.size < w1.heap.size := by omega
  have f11 : w.heap.size + 1 < w1.heap.size := by omega
  have f12 : w.heap.size + 2 < w1.heap.size := by omega
  refine olds_k (w.heap.size + 3) hb1 ?_ ?_
  · first | omega | (simp; omega) | (simp; done)
  intro hc1 hf1
  go_wp2_with fail
  refine bodyPost_ret (v := .tuple #[.agg #[.bool false, .int .i64 0, .int .i64 0, .int .i64 0], .agg #[.bool false, .int .i64 0, .int .i64 0, .int .i64 0], .bool false]) (by simp [results, Try.results9, go_sem, hc1, f11, f12]) rfl ⟨rfl, ?_⟩
  repeat (first | with_reducible exact Below.refl _ _ | (with_reducible refine Below.drew ?_) | (with_reducible refine Below.alloc ?_ ?_ _; rotate_left; (focus (first | omega | (simp; omega) | (simp; done)))) | (with_reducible refine Below.setCell ?_ ?_ _; rotate_left; (focus (first | omega | (simp; omega) | (simp; done)))) | (with_reducible refine Below.trans ?_ (hb1.mono ?_); rotate_left; (focus (first | omega | (simp; omega) | (simp; done)))))

set_option maxHeartbeats 1000000 in
theorem iHalves_one (s : Bool) (H L : BitVec 64) (b : Int) (hn : (0 : Int) = (wd s : Int) - b) (hp : pokB s H L b = true) (w : World) :
    Calls Try.prog 9 #[.agg #[.bool s, .int .i64 H.toInt, .int .i64 L.toInt, .int .i64 b]] w fun e w' => e = .returned (.tuple #[.agg #[.bool false, .int .i64 0, .int .i64 0, .int .i64 0], .agg #[.bool false, .int .i64 0, .int .i64 0, .int .i64 0], .bool false]) ∧ Below w.heap.size w w' := by
  have HS : Hid (∀ w, _) := spanOf_yes s H L b 0 hn hp
  clear hp hn
  go_enter Try.func9, Try.ntmps9
  go_wp2_with fail
  refine (HS.out _).mono ?_
  rintro e w1 ⟨rfl, hb1⟩
  have hz1 := hb1.size
  try simp at hz1
  have f10 : w.heap.size < w1.heap.size := by omega
  have f11 : w.heap.size + 1 < w1.heap.size := by omega
  have f12 : w.heap.size + 2 < w1.heap.size := by omega
  refine olds_k (w.heap.size + 3) hb1 ?_ ?_
  · first | omega | (simp; omega) | (simp; done)
  intro hc1 hf1
  go_wp2_with fail
  refine bodyPost_ret (v := .tuple #[.agg #[.bool false, .int .i64 0, .int .i64 0, .int .i64 0], .agg #[.bool false, .int .i64 0, .int .i64 0, .int .i64 0], .bool false]) (by simp [results, Try.results9, go_sem, hc1, f11, f12]) rfl ⟨rfl, ?_⟩
  repeat (first | with_reducible exact Below.refl _ _ | (with_reducible refine Below.drew ?_) | (with_reducible refine Below.alloc ?_ ?_ _; rotate_left; (focus (first | omega | (simp; omega) | (simp; done)))) | (with_reducible refine Below.setCell ?_ ?_ _; rotate_left; (focus (first | omega | (simp; omega) | (simp; done)))) | (with_reducible refine Below.trans ?_ (hb1.mono ?_); rotate_left; (focus (first | omega | (simp; omega) | (simp; done)))))

set_option maxHeartbeats 8000000 in
theorem iHalves_yes (s : Bool) (H L : BitVec 64) (b : Int) (k : Nat) (hn : (k : Int) + 1 = (wd s : Int) - b) (hp : pokB s H L b = true) (w : World) :
    Calls Try.prog 9 #[.agg #[.bool s, .int .i64 H.toInt, .int .i64 L.toInt, .int .i64 b]] w fun e w' => e = .returned (.tuple #[.agg #[.bool s, .int .i64 H.toInt, .int .i64 L.toInt, .int .i64 ((wd s : Int) - k)], .agg #[.bool s, .int .i64 (cH k (fH (k + 1) H)).toInt, .int .i64 (cL k (fL (k + 1) L)).toInt, .int .i64 ((wd s : Int) - k)], .bool true]) ∧ Below w.heap.size w w' := by
  have hn1 : k + 1 ≤ 128 := by have := wd_le' s; have := (pokB_parts hp).2.1; omega
  have hs := spanOf_yes s H L b (k + 1) (by omega) hp
  simp only [Int.natCast_add, Int.natCast_one] at hs
  have HS : Hid (∀ w, _) := hs
  have HH : Hid (∀ w, _) := halves_any s H L k hn1
  have HA : Hid (∀ w, _) := prefix_any s H L k (by omega)
  have HB : Hid (∀ w, _) := prefix_any s (cH k (fH (k + 1) H)) (cL k (fL (k + 1) L)) k (by omega)
  clear hs hp hn
  generalize cH k (fH (k + 1) H) = X1 at HH HB ⊢
  generalize cL k (fL (k + 1) L) = X2 at HH HB ⊢
  go_enter Try.func9, Try.ntmps9
  go_wp2_with fail
  refine (HS.out _).mono ?_
  rintro e w1 ⟨rfl, hb1⟩
  have hz1 := hb1.size
  try simp at hz1
  have f10 : w.heap.size < w1.heap.size := by omega
  have f11 : w.heap.size + 1 < w1.heap.size := by omega
  have f12 : w.heap.size + 2 < w1.heap.size := by omega
  refine olds_k (w.heap.size + 3) hb1 ?_ ?_
  · first | omega | (simp; omega) | (simp; done)
  intro hc1 hf1
  go_upto_region 4 with fail
  go_cut [7, 8] (fun t7 t8 X => ∃ p q N : Nat, t7 = .pointer (some ⟨p, 0, none⟩) ∧ t8 = .pointer (some ⟨q, 0, none⟩) ∧ (X.cell? ⟨p, 0, none⟩ = some (.bool s) ∧ X.cell? ⟨p, 1, none⟩ = some (.int .i64 H.toInt) ∧ X.cell? ⟨p, 2, none⟩ = some (.int .i64 L.toInt) ∧ X.cell? ⟨p, 3, none⟩ = some (.int .i64 k)) ∧ (X.cell? ⟨q, 0, none⟩ = some (.bool s) ∧ X.cell? ⟨q, 1, none⟩ = some (.int .i64 X1.toInt) ∧ X.cell? ⟨q, 2, none⟩ = some (.int .i64 X2.toInt) ∧ X.cell? ⟨q, 3, none⟩ = some (.int .i64 k)) ∧ (X.cell? ⟨w.heap.size + 1, 0, none⟩ = some (.bool false) ∧ X.cell? ⟨w.heap.size + 1, 1, none⟩ = some (.int .i64 0) ∧ X.cell? ⟨w.heap.size + 1, 2, none⟩ = some (.int .i64 0) ∧ X.cell? ⟨w.heap.size + 1, 3, none⟩ = some (.int .i64 0)) ∧ (X.cell? ⟨w.heap.size + 2, 0, none⟩ = some (.bool false) ∧ X.cell? ⟨w.heap.size + 2, 1, none⟩ = some (.int .i64 0) ∧ X.cell? ⟨w.heap.size + 2, 2, none⟩ = some (.int .i64 0) ∧ X.cell? ⟨w.heap.size + 2, 3, none⟩ = some (.int .i64 0)) ∧ (X.frozen? ⟨w.heap.size + 1, 0, none⟩ = false ∧ X.frozen? ⟨w.heap.size + 1, 1, none⟩ = false ∧ X.frozen? ⟨w.heap.size + 1, 2, none⟩ = false ∧ X.frozen? ⟨w.heap.size + 1, 3, none⟩ = false) ∧ (X.frozen? ⟨w.heap.size + 2, 0, none⟩ = false ∧ X.frozen? ⟨w.heap.size + 2, 1, none⟩ = false ∧ X.frozen? ⟨w.heap.size + 2, 2, none⟩ = false ∧ X.frozen? ⟨w.heap.size + 2, 3, none⟩ = false) ∧ w.heap.size + 2 < p ∧ w.heap.size + 2 < q ∧ X.heap.size = N ∧ p < N ∧ q < N ∧ Below w.heap.size w X)
  case first =>
    go_wp2_with fail
    refine (HH.out _).mono ?_
    rintro e w2 ⟨rfl, hb2⟩
    have hz2 := hb2.size
    try simp at hz2
    have f20 : w.heap.size < w2.heap.size := by omega
    have f21 : w.heap.size + 1 < w2.heap.size := by omega
    have f22 : w.heap.size + 2 < w2.heap.size := by omega
    refine olds_k (w.heap.size + 3) hb2 ?_ ?_
    · first | omega | (simp; omega) | (simp; done)
    intro hc2 hf2
    go_wp2_with fail
    go_meet
    refine ⟨_, _, _, rfl, rfl, ⟨?_, ?_, ?_, ?_⟩, ⟨?_, ?_, ?_, ?_⟩, ⟨?_, ?_, ?_, ?_⟩, ⟨?_, ?_, ?_, ?_⟩, ⟨?_, ?_, ?_, ?_⟩, ⟨?_, ?_, ?_, ?_⟩, ?_, ?_, rfl, ?_, ?_, ?_⟩
    all_goals try (go_simp; done)
    all_goals try omega
    all_goals try (simp; omega)
    repeat (first | with_reducible exact Below.refl _ _ | (with_reducible refine Below.drew ?_) | (with_reducible refine Below.alloc ?_ ?_ _; rotate_left; (focus (first | omega | (simp; omega) | (simp; done)))) | (with_reducible refine Below.setCell ?_ ?_ _; rotate_left; (focus (first | omega | (simp; omega) | (simp; done)))) | (with_reducible refine Below.trans ?_ (hb2.mono ?_); rotate_left; (focus (first | omega | (simp; omega) | (simp; done)))) | (with_reducible refine Below.trans ?_ (hb1.mono ?_); rotate_left; (focus (first | omega | (simp; omega) | (simp; done)))))
  case rest =>
    obtain ⟨p, q, N, rfl, rfl, ⟨a0, a1, a2, a3⟩, ⟨b0, b1, b2, b3⟩, ⟨c0, c1, c2, c3⟩, ⟨d0, d1, d2, d3⟩, ⟨g0, g1, g2, g3⟩, ⟨h0, h1, h2, h3⟩, m1, m2, hN, m3, m4, hX⟩ := hcut
    clear hc1 hf1 hb1
    go_wp2_with fail
    have np1 : w.heap.size + 1 ≠ p := by omega
    have np2 : w.heap.size + 2 ≠ p := by omega
    have nq1 : w.heap.size + 1 ≠ q := by omega
    have nq2 : w.heap.size + 2 ≠ q := by omega
    have e1 := Nat.lt_trans (Nat.lt_of_succ_lt m1) m3
    have e2 := Nat.lt_trans m1 m3
    go_region_with (first | (go_at_call_of 34 (Value.int IntKind.i64 H.toInt); refine (HA.out _).mono ?_; rintro e w3 ⟨rfl, hb3⟩; have hz3 := hb3.size; (try simp at hz3); (refine ltk (w.heap.size + 1) (w3.heap.size) ?_ ?_; (focus omega); intro f31); (refine ltk (w.heap.size + 2) (w3.heap.size) ?_ ?_; (focus omega); intro f32); (refine ltk p (w3.heap.size) ?_ ?_; (focus omega); intro f33); (refine ltk q (w3.heap.size) ?_ ?_; (focus omega); intro f34); (refine olds_k N hb3 ?_ ?_; (focus (first | omega | (simp; omega) | (simp; done))); intro hc3 hf3)) | (go_at_call_of 34 (Value.int IntKind.i64 X1.toInt); refine (HB.out _).mono ?_; rintro e w4 ⟨rfl, hb4⟩; have hz4 := hb4.size; (try simp at hz4); (refine ltk (w.heap.size + 1) (w4.heap.size) ?_ ?_; (focus omega); intro f41); (refine ltk (w.heap.size + 2) (w4.heap.size) ?_ ?_; (focus omega); intro f42); (refine ltk p (w4.heap.size) ?_ ?_; (focus omega); intro f43); (refine ltk q (w4.heap.size) ?_ ?_; (focus omega); intro f44); (refine olds_k N hb4 ?_ ?_; (focus (first | omega | (simp; omega) | (simp; done))); intro hc4 hf4)))
    all_goals
      go_wp2_with fail
      refine bodyPost_ret (v := .tuple #[.agg #[.bool s, .int .i64 H.toInt, .int .i64 L.toInt, .int .i64 ((wd s : Int) - k)], .agg #[.bool s, .int .i64 X1.toInt, .int .i64 X2.toInt, .int .i64 ((wd s : Int) - k)], .bool true]) (by simp [results, Try.results9, go_sem, hc3, hc4, c0, c1, c2, c3, d0, d1, d2, d3, e1, e2]) rfl ⟨rfl, ?_⟩
      repeat (first | with_reducible exact hX | (with_reducible refine Below.drew ?_) | (with_reducible refine Below.alloc ?_ ?_ _; rotate_left; (focus (first | omega | (simp; omega) | (simp; done)))) | (with_reducible refine Below.setCell ?_ ?_ _; rotate_left; (focus (first | omega | (simp; omega) | (simp; done)))) | (with_reducible refine Below.trans ?_ (hb4.mono ?_); rotate_left; (focus (first | omega | (simp; omega) | (simp; done)))) | (with_reducible refine Below.trans ?_ (hb3.mono ?_); rotate_left; (focus (first | omega | (simp; omega) | (simp; done)))))

