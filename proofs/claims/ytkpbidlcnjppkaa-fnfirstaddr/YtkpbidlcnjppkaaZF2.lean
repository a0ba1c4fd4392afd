/-
  What firstAddrD_holds needs, part 2.
-/
import Derived.Test.YtkpbidlcnjppkaaZF1
import Derived.Deep.RegionWith
import Derived.Deep.DeepCutAuto
import Derived.Deep.RegionHeld3
import Derived.RangeFuncNested
import Derived.RangeFuncBound
import Derived.RangeFuncCalls
import Derived.RangeFuncLeaves
import Derived.Shelf.Abstract
import Derived.Shelf.RegionOpen
import Derived.WalkKit
import Derived.OwnWalkIn
import Derived.TacticsInMore
import Derived.LoopNIn
import Derived.LoopIn
namespace Go.Proofs.Ytkpbidlcnjppkaa
open Go.RowKit

set_option maxHeartbeats 1000000 in
theorem spanOf_ok (s : Bool) (H L : BitVec 64) (b : Int) (n : Nat) (hn : n ≤ 128) (hok : okB s H.toInt L.toInt = true) (hb0 : 0 ≤ b) (hbw : b ≤ (wd s : Int)) (hsub : IntKind.i64.wrap ((wd s : Int) - b) = (n : Int)) (hh : hasB s H L n s H L = true) (w : World) :
    Calls Try.prog 21 #[.agg #[.bool s, .int .i64 H.toInt, .int .i64 L.toInt, .int .i64 b]] w fun e w' => e = .returned (.tuple #[.agg #[.bool s, .int .i64 H.toInt, .int .i64 L.toInt, .int .i64 n], .bool true]) ∧ Below w.heap.size w w' := by
  have HH : Hid (∀ w, _) := has_any s H L n hn s H L
  rw [hh] at HH
  clear hh
  have HK : Hid (∀ w, _) := iAddrOk_any s H.toInt L.toInt
  rw [hok] at HK
  clear hok
  have d1 : decide (b < 0) = false := decide_eq_false (by omega)
  have d2 : decide ((wd s : Int) < b) = false := decide_eq_false (by omega)
  go_enter Try.func21, Try.ntmps21
  go_upto_region 2 with fail
  go_cut [24] (fun t24 wc => t24 = .bool false ∧ Below (w.heap.size + 3) (((w.alloc (.cells #[.bool s, .int .i64 H.toInt, .int .i64 L.toInt, .int .i64 b] 27)).alloc (.cells #[.bool false, .int .i64 0, .int .i64 0, .int .i64 0] 50)).alloc (.cells #[.bool s, .int .i64 H.toInt, .int .i64 L.toInt, .int .i64 0] 50)) wc ∧ Below w.heap.size w wc)
  case first =>
    first | (go_region_with (first | (go_at_call 30; refine (HK.out _).mono ?_; rintro e w1 ⟨rfl, hb1⟩; have hz1 := hb1.size; (try simp at hz1); (first | (refine ltk (w.heap.size) (w1.heap.size) ?_ ?_; (focus omega); intro f10) | skip); (first | (refine ltk (w.heap.size + 1) (w1.heap.size) ?_ ?_; (focus omega); intro f11) | skip); (first | (refine ltk (w.heap.size + 2) (w1.heap.size) ?_ ?_; (focus omega); intro f12) | skip); (refine olds_k (w.heap.size + 3) hb1 ?_ ?_; (focus (first | omega | (simp; omega) | (simp; done))); intro hc1 hf1)) | (go_at_call 16; refine (width_any s H.toInt L.toInt _).mono ?_; rintro e w2 ⟨rfl, hb2⟩; have hz2 := hb2.size; (try simp at hz2); (first | (refine ltk (w.heap.size) (w2.heap.size) ?_ ?_; (focus omega); intro f20) | skip); (first | (refine ltk (w.heap.size + 1) (w2.heap.size) ?_ ?_; (focus omega); intro f21) | skip); (first | (refine ltk (w.heap.size + 2) (w2.heap.size) ?_ ?_; (focus omega); intro f22) | skip); (refine olds_k (w.heap.size + 3) hb2 ?_ ?_; (focus (first | omega | (simp; omega) | (simp; done))); intro hc2 hf2)))) | fail
    all_goals
      go_wp2_with fail
      go_meet
      refine ⟨rfl, ?_, ?_⟩
      · repeat (first | with_reducible exact Below.refl _ _ | (with_reducible refine Below.drew ?_) | (with_reducible refine Below.alloc ?_ ?_ _; rotate_left; (focus (first | omega | (simp; omega) | (simp; done)))) | (with_reducible refine Below.setCell ?_ ?_ _; rotate_left; (focus (first | omega | (simp; omega) | (simp; done)))) | (with_reducible refine Below.trans ?_ (hb2.mono ?_); rotate_left; (focus (first | omega | (simp; omega) | (simp; done)))) | (with_reducible refine Below.trans ?_ (hb1.mono ?_); rotate_left; (focus (first | omega | (simp; omega) | (simp; done)))))
      · repeat (first | with_reducible exact Below.refl _ _ | (with_reducible refine Below.drew ?_) | (with_reducible refine Below.alloc ?_ ?_ _; rotate_left; (focus (first | omega | (simp; omega) | (simp; done)))) | (with_reducible refine Below.setCell ?_ ?_ _; rotate_left; (focus (first | omega | (simp; omega) | (simp; done)))) | (with_reducible refine Below.trans ?_ (hb2.mono ?_); rotate_left; (focus (first | omega | (simp; omega) | (simp; done)))) | (with_reducible refine Below.trans ?_ (hb1.mono ?_); rotate_left; (focus (first | omega | (simp; omega) | (simp; done)))))
  case rest =>
    obtain ⟨rfl, hB, hW⟩ := hcut
    rename_i wc
    have hzc := hB.size
    simp at hzc
    have y0 : w.heap.size < wc.heap.size := by omega
    have y1 : w.heap.size + 1 < wc.heap.size := by omega
    have y2 : w.heap.size + 2 < wc.heap.size := by omega
    obtain ⟨hc, hf⟩ := olds hB
    go_upto_region 4 with fail
    go_cut [] (fun wd4 => w.heap.size + 2 < wd4.heap.size ∧ wd4.cell? ⟨w.heap.size, 0, none⟩ = some (.bool s) ∧ wd4.cell? ⟨w.heap.size, 1, none⟩ = some (.int .i64 H.toInt) ∧ wd4.cell? ⟨w.heap.size, 2, none⟩ = some (.int .i64 L.toInt) ∧ wd4.cell? ⟨w.heap.size + 2, 0, none⟩ = some (.bool s) ∧ wd4.cell? ⟨w.heap.size + 2, 1, none⟩ = some (.int .i64 H.toInt) ∧ wd4.cell? ⟨w.heap.size + 2, 2, none⟩ = some (.int .i64 L.toInt) ∧ wd4.cell? ⟨w.heap.size + 2, 3, none⟩ = some (.int .i64 n) ∧ wd4.cell? ⟨w.heap.size + 1, 0, none⟩ = some (.bool false) ∧ wd4.cell? ⟨w.heap.size + 1, 1, none⟩ = some (.int .i64 0) ∧ wd4.cell? ⟨w.heap.size + 1, 2, none⟩ = some (.int .i64 0) ∧ wd4.cell? ⟨w.heap.size + 1, 3, none⟩ = some (.int .i64 0) ∧ wd4.frozen? ⟨w.heap.size + 1, 0, none⟩ = false ∧ wd4.frozen? ⟨w.heap.size + 1, 1, none⟩ = false ∧ wd4.frozen? ⟨w.heap.size + 1, 2, none⟩ = false ∧ wd4.frozen? ⟨w.heap.size + 1, 3, none⟩ = false ∧ Below w.heap.size w wd4)
    case first =>
      first | (go_region_with ((go_at_call 16; refine (width_any s H.toInt L.toInt _).mono ?_; rintro e w3 ⟨rfl, hb3⟩; have hz3 := hb3.size; (try simp at hz3); (first | (refine ltk (w.heap.size) (w3.heap.size) ?_ ?_; (focus omega); intro f30) | skip); (first | (refine ltk (w.heap.size + 1) (w3.heap.size) ?_ ?_; (focus omega); intro f31) | skip); (first | (refine ltk (w.heap.size + 2) (w3.heap.size) ?_ ?_; (focus omega); intro f32) | skip); (refine olds_k (w.heap.size + 3) hb3 ?_ ?_; (focus (first | omega | (simp; omega) | (simp; done))); intro hc3 hf3)))) | fail
      all_goals
        go_wp2_with fail
        go_meet
        refine ⟨?_, ?_, ?_, ?_, ?_, ?_, ?_, ?_, ?_, ?_, ?_, ?_, ?_, ?_, ?_, ?_, ?_⟩
        all_goals try (go_simp; done)
        repeat (first | with_reducible exact hW | (with_reducible refine Below.drew ?_) | (with_reducible refine Below.alloc ?_ ?_ _; rotate_left; (focus (first | omega | (simp; omega) | (simp; done)))) | (with_reducible refine Below.setCell ?_ ?_ _; rotate_left; (focus (first | omega | (simp; omega) | (simp; done)))) | (with_reducible refine Below.trans ?_ (hb3.mono ?_); rotate_left; (focus (first | omega | (simp; omega) | (simp; done)))))
    case rest =>
      obtain ⟨x0, p0, p1, p2, q0, q1, q2, q3, r0, r1, r2, r3, g0, g1, g2, g3, hV⟩ := hcut
      clear hc hf hB hW
      have x1 := Nat.lt_of_succ_lt x0
      go_wp2_with fail
      refine (HH.out _).mono ?_
      rintro e w4 ⟨rfl, hb4⟩
      have hz4 := hb4.size
      try simp at hz4
      have f40 : w.heap.size < w4.heap.size := by omega
      have f41 : w.heap.size + 1 < w4.heap.size := by omega
      have f42 : w.heap.size + 2 < w4.heap.size := by omega
      refine olds_k (w.heap.size + 3) hb4 ?_ ?_
      · first | omega | (simp; omega) | (simp; done)
      intro hc4 hf4
      go_wp2_with fail
      refine bodyPost_ret (v := .tuple #[.agg #[.bool s, .int .i64 H.toInt, .int .i64 L.toInt, .int .i64 n], .bool true]) (by simp [results, Try.results21, go_sem, hc4, r0, r1, r2, r3]) rfl ⟨rfl, ?_⟩
      repeat (first | with_reducible exact hV | (with_reducible refine Below.drew ?_) | (with_reducible refine Below.alloc ?_ ?_ _; rotate_left; (focus (first | omega | (simp; omega) | (simp; done)))) | (with_reducible refine Below.setCell ?_ ?_ _; rotate_left; (focus (first | omega | (simp; omega) | (simp; done)))) | (with_reducible refine Below.trans ?_ (hb4.mono ?_); rotate_left; (focus (first | omega | (simp; omega) | (simp; done)))))

set_option maxHeartbeats 1000000 in
theorem spanOf_off (s : Bool) (H L : BitVec 64) (b : Int) (n : Nat) (hn : n ≤ 128) (hok : okB s H.toInt L.toInt = true) (hb0 : 0 ≤ b) (hbw : b ≤ (wd s : Int)) (hsub : IntKind.i64.wrap ((wd s : Int) - b) = (n : Int)) (hh : hasB s H L n s H L = false) (w : World) :
    Calls Try.prog 21 #[.agg #[.bool s, .int .i64 H.toInt, .int .i64 L.toInt, .int .i64 b]] w fun e w' => e = .returned (.tuple #[.agg #[.bool false, .int .i64 0, .int .i64 0, .int .i64 0], .bool false]) ∧ Below w.heap.size w w' := by
  have HH : Hid (∀ w, _) := has_any s H L n hn s H L
  rw [hh] at HH
  clear hh
  have HK : Hid (∀ w, _) := iAddrOk_any s H.toInt L.toInt
  rw [hok] at HK
  clear hok
  have d1 : decide (b < 0) = false := decide_eq_false (by omega)
  have d2 : decide ((wd s : Int) < b) = false := decide_eq_false (by omega)
  go_enter Try.func21, Try.ntmps21
  go_upto_region 2 with fail
  go_cut [24] (fun t24 wc => t24 = .bool false ∧ Below (w.heap.size + 3) (((w.alloc (.cells #[.bool s, .int .i64 H.toInt, .int .i64 L.toInt, .int .i64 b] 27)).alloc (.cells #[.bool false, .int .i64 0, .int .i64 0, .int .i64 0] 50)).alloc (.cells #[.bool s, .int .i64 H.toInt, .int .i64 L.toInt, .int .i64 0] 50)) wc ∧ Below w.heap.size w wc)
  case first =>
    first | (go_region_with (first | (go_at_call 30; refine (HK.out _).mono ?_; rintro e w1 ⟨rfl, hb1⟩; have hz1 := hb1.size; (try simp at hz1); (first | (refine ltk (w.heap.size) (w1.heap.size) ?_ ?_; (focus omega); intro f10) | skip); (first | (refine ltk (w.heap.size + 1) (w1.heap.size) ?_ ?_; (focus omega); intro f11) | skip); (first | (refine ltk (w.heap.size + 2) (w1.heap.size) ?_ ?_; (focus omega); intro f12) | skip); (refine olds_k (w.heap.size + 3) hb1 ?_ ?_; (focus (first | omega | (simp; omega) | (simp; done))); intro hc1 hf1)) | (go_at_call 16; refine (width_any s H.toInt L.toInt _).mono ?_; rintro e w2 ⟨rfl, hb2⟩; have hz2 := hb2.size; (try simp at hz2); (first | (refine ltk (w.heap.size) (w2.heap.size) ?_ ?_; (focus omega); intro f20) | skip); (first | (refine ltk (w.heap.size + 1) (w2.heap.size) ?_ ?_; (focus omega); intro f21) | skip); (first | (refine ltk (w.heap.size + 2) (w2.heap.size) ?_ ?_; (focus omega); intro f22) | skip); (refine olds_k (w.heap.size + 3) hb2 ?_ ?_; (focus (first | omega | (simp; omega) | (simp; done))); intro hc2 hf2)))) | fail
    all_goals
      go_wp2_with fail
      go_meet
      refine ⟨rfl, ?_, ?_⟩
      · repeat (first | with_reducible exact Below.refl _ _ | (with_reducible refine Below.drew ?_) | (with_reducible refine Below.alloc ?_ ?_ _; rotate_left; (focus (first | omega | (simp; omega) | (simp; done)))) | (with_reducible refine Below.setCell ?_ ?_ _; rotate_left; (focus (first | omega | (simp; omega) | (simp; done)))) | (with_reducible refine Below.trans ?_ (hb2.mono ?_); rotate_left; (focus (first | omega | (simp; omega) | (simp; done)))) | (with_reducible refine Below.trans ?_ (hb1.mono ?_); rotate_left; (focus (first | omega | (simp; omega) | (simp; done)))))
      · repeat (first | with_reducible exact Below.refl _ _ | (with_reducible refine Below.drew ?_) | (with_reducible refine Below.alloc ?_ ?_ _; rotate_left; (focus (first | omega | (simp; omega) | (simp; done)))) | (with_reducible refine Below.setCell ?_ ?_ _; rotate_left; (focus (first | omega | (simp; omega) | (simp; done)))) | (with_reducible refine Below.trans ?_ (hb2.mono ?_); rotate_left; (focus (first | omega | (simp; omega) | (simp; done)))) | (with_reducible refine Below.trans ?_ (hb1.mono ?_); rotate_left; (focus (first | omega | (simp; omega) | (simp; done)))))
  case rest =>
    obtain ⟨rfl, hB, hW⟩ := hcut
    rename_i wc
    have hzc := hB.size
    simp at hzc
    have y0 : w.heap.size < wc.heap.size := by omega
    have y1 : w.heap.size + 1 < wc.heap.size := by omega
    have y2 : w.heap.size + 2 < wc.heap.size := by omega
    obtain ⟨hc, hf⟩ := olds hB
    go_upto_region 4 with fail
    go_cut [] (fun wd4 => w.heap.size + 2 < wd4.heap.size ∧ wd4.cell? ⟨w.heap.size, 0, none⟩ = some (.bool s) ∧ wd4.cell? ⟨w.heap.size, 1, none⟩ = some (.int .i64 H.toInt) ∧ wd4.cell? ⟨w.heap.size, 2, none⟩ = some (.int .i64 L.toInt) ∧ wd4.cell? ⟨w.heap.size + 2, 0, none⟩ = some (.bool s) ∧ wd4.cell? ⟨w.heap.size + 2, 1, none⟩ = some (.int .i64 H.toInt) ∧ wd4.cell? ⟨w.heap.size + 2, 2, none⟩ = some (.int .i64 L.toInt) ∧ wd4.cell? ⟨w.heap.size + 2, 3, none⟩ = some (.int .i64 n) ∧ wd4.cell? ⟨w.heap.size + 1, 0, none⟩ = some (.bool false) ∧ wd4.cell? ⟨w.heap.size + 1, 1, none⟩ = some (.int .i64 0) ∧ wd4.cell? ⟨w.heap.size + 1, 2, none⟩ = some (.int .i64 0) ∧ wd4.cell? ⟨w.heap.size + 1, 3, none⟩ = some (.int .i64 0) ∧ wd4.frozen? ⟨w.heap.size + 1, 0, none⟩ = false ∧ wd4.frozen? ⟨w.heap.size + 1, 1, none⟩ = false ∧ wd4.frozen? ⟨w.heap.size + 1, 2, none⟩ = false ∧ wd4.frozen? ⟨w.heap.size + 1, 3, none⟩ = false ∧ Below w.heap.size w wd4)
    case first =>
      first | (go_region_with ((go_at_call 16; refine (width_any s H.toInt L.toInt _).mono ?_; rintro e w3 ⟨rfl, hb3⟩; have hz3 := hb3.size; (try simp at hz3); (first | (refine ltk (w.heap.size) (w3.heap.size) ?_ ?_; (focus omega); intro f30) | skip); (first | (refine ltk (w.heap.size + 1) (w3.heap.size) ?_ ?_; (focus omega); intro f31) | skip); (first | (refine ltk (w.heap.size + 2) (w3.heap.size) ?_ ?_; (focus omega); intro f32) | skip); (refine olds_k (w.heap.size + 3) hb3 ?_ ?_; (focus (first | omega | (simp; omega) | (simp; done))); intro hc3 hf3)))) | fail
      all_goals
        go_wp2_with fail
        go_meet
        refine ⟨?_, ?_, ?_, ?_, ?_, ?_, ?_, ?_, ?_, ?_, ?_, ?_, ?_, ?_, ?_, ?_, ?_⟩
        all_goals try (go_simp; done)
        repeat (first | with_reducible exact hW | (with_reducible refine Below.drew ?_) | (with_reducible refine Below.alloc ?_ ?_ _; rotate_left; (focus (first | omega | (simp; omega) | (simp; done)))) | (with_reducible refine Below.setCell ?_ ?_ _; rotate_left; (focus (first | omega | (simp; omega) | (simp; done)))) | (with_reducible refine Below.trans ?_ (hb3.mono ?_); rotate_left; (focus (first | omega | (simp; omega) | (simp; done)))))
    case rest =>
      obtain ⟨x0, p0, p1, p2, q0, q1, q2, q3, r0, r1, r2, r3, g0, g1, g2, g3, hV⟩ := hcut
      clear hc hf hB hW
      have x1 := Nat.lt_of_succ_lt x0
      go_wp2_with fail
      refine (HH.out _).mono ?_
      rintro e w4 ⟨rfl, hb4⟩
      have hz4 := hb4.size
      try simp at hz4
      have f40 : w.heap.size < w4.heap.size := by omega
      have f41 : w.heap.size + 1 < w4.heap.size := by omega
      have f42 : w.heap.size + 2 < w4.heap.size := by omega
      refine olds_k (w.heap.size + 3) hb4 ?_ ?_
      · first | omega | (simp; omega) | (simp; done)
      intro hc4 hf4
      go_wp2_with fail
      refine bodyPost_ret (v := .tuple #[.agg #[.bool false, .int .i64 0, .int .i64 0, .int .i64 0], .bool false]) (by simp [results, Try.results21, go_sem, hc4, r0, r1, r2, r3]) rfl ⟨rfl, ?_⟩
      repeat (first | with_reducible exact hV | (with_reducible refine Below.drew ?_) | (with_reducible refine Below.alloc ?_ ?_ _; rotate_left; (focus (first | omega | (simp; omega) | (simp; done)))) | (with_reducible refine Below.setCell ?_ ?_ _; rotate_left; (focus (first | omega | (simp; omega) | (simp; done)))) | (with_reducible refine Below.trans ?_ (hb4.mono ?_); rotate_left; (focus (first | omega | (simp; omega) | (simp; done)))))

end Go.Proofs.Ytkpbidlcnjppkaa
namespace Go.Proofs.Ytkpbidlcnjppkaa
open Go.RowKit

theorem pokB_parts {s : Bool} {H L : BitVec 64} {b : Int} (hp : pokB s H L b = true) : okB s H.toInt L.toInt = true ∧ (0 ≤ b ∧ b ≤ (wd s : Int)) ∧ hasB s H L ((wd s : Int) - b).toNat s H L = true := by
  simp only [pokB, Bool.and_eq_true, decide_eq_true_eq] at hp
  exact hp
theorem wrapSub (s : Bool) (b : Int) (h : 0 ≤ b ∧ b ≤ (wd s : Int)) : IntKind.i64.wrap ((wd s : Int) - b) = ((((wd s : Int) - b).toNat : Nat) : Int) := by
  have := wd_le' s
  rw [← w64]; unfold wrap64; omega

theorem spanOf_yes (s : Bool) (H L : BitVec 64) (b : Int) (n : Nat) (hn : (n : Int) = (wd s : Int) - b) (hp : pokB s H L b = true) (w : World) :
    Calls Try.prog 21 #[.agg #[.bool s, .int .i64 H.toInt, .int .i64 L.toInt, .int .i64 b]] w fun e w' => e = .returned (.tuple #[.agg #[.bool s, .int .i64 H.toInt, .int .i64 L.toInt, .int .i64 n], .bool true]) ∧ Below w.heap.size w w' := by
  obtain ⟨hok, hb, hh⟩ := pokB_parts hp
  have e : ((wd s : Int) - b).toNat = n := by omega
  rw [e] at hh
  have := wd_le' s
  have hs := wrapSub s b hb
  rw [e] at hs
  exact spanOf_ok s H L b n (by omega) hok hb.1 hb.2 hs hh w

theorem spanOf_no (s : Bool) (H L : BitVec 64) (b : Int) (hp : pokB s H L b = false) (w : World) :
    Calls Try.prog 21 #[.agg #[.bool s, .int .i64 H.toInt, .int .i64 L.toInt, .int .i64 b]] w fun e w' => e = .returned (.tuple #[.agg #[.bool false, .int .i64 0, .int .i64 0, .int .i64 0], .bool false]) ∧ Below w.heap.size w w' := by
  cases hok : okB s H.toInt L.toInt
  · exact spanOf_bad s H L b hok w
  · by_cases h0 : b < 0
    · exact spanOf_neg s H L b hok h0 w
    · by_cases h1 : (wd s : Int) < b
      · exact spanOf_big s H L b hok (by omega) h1 w
      · have hb : 0 ≤ b ∧ b ≤ (wd s : Int) := by omega
        have hh : hasB s H L ((wd s : Int) - b).toNat s H L = false := by
          rw [pokB, hok, decide_eq_true hb] at hp
          simpa using hp
        have := wd_le' s
        exact spanOf_off s H L b _ (by omega) hok hb.1 hb.2 (wrapSub s b hb) hh w

end Go.Proofs.Ytkpbidlcnjppkaa
namespace Go.Proofs.Ytkpbidlcnjppkaa
open Go.RowKit

set_option maxHeartbeats 1000000 in
theorem iNthOf_yes (s : Bool) (H L : BitVec 64) (b m : Int) (S : Bool) (X Y : BitVec 64) (n : Nat) (hn : (n : Int) = (wd s : Int) - b) (hp : pokB s H L b = true) (ha : (∀ w : World, Calls Try.prog 22 #[.agg #[.bool s, .int .i64 H.toInt, .int .i64 L.toInt], .int .i64 m] w fun e w' => e = .returned (.tuple #[.agg #[.bool S, .int .i64 X.toInt, .int .i64 Y.toInt], .bool true]) ∧ Below w.heap.size w w')) (hh : hasB s H L n S X Y = true) (w : World) :
    Calls Try.prog 9 #[.agg #[.bool s, .int .i64 H.toInt, .int .i64 L.toInt, .int .i64 b], .int .i64 m] w fun e w' => e = .returned (.tuple #[.agg #[.bool S, .int .i64 X.toInt, .int .i64 Y.toInt], .bool true]) ∧ Below w.heap.size w w' := by
  have hn1 : n ≤ 128 := by have := wd_le' s; have := (pokB_parts hp).2.1; omega
  have HS : Hid (∀ w, _) := spanOf_yes s H L b n hn hp
  have HA : Hid (∀ w : World, _) := ha
  have HH : Hid (∀ w, _) := has_any s H L n hn1 S X Y
  rw [hh] at HH
  clear hp ha hn hn1 hh
  go_enter Try.func9, Try.ntmps9
  go_wp2_with fail
  refine (HS.out _).mono ?_
  rintro e w1 ⟨rfl, hb1⟩
  have hz1 := hb1.size
  try simp at hz1
  have f10 : w.heap.size < w1.heap.size := by omega
  have f11 : w.heap.size + 1 < w1.heap.size := by omega
  refine olds_k (w.heap.size + 2) hb1 ?_ ?_
  · first | omega | (simp; omega) | (simp; done)
  intro hc1 hf1
  have q1 : w.heap.size + 1 < w1.heap.size + 1 := by omega
  go_wp2_with fail
  refine (HA.out _).mono ?_
  rintro e w2 ⟨rfl, hb2⟩
  have hz2 := hb2.size
  try simp at hz2
  have f2x0 : w.heap.size + 1 < w2.heap.size := by omega
  have f2x1 : w1.heap.size < w2.heap.size := by omega
  have f2x2 : w1.heap.size < w2.heap.size + 1 := by omega
  have f2x3 : w.heap.size + 1 < w2.heap.size + 1 := by omega
  refine olds_k (w1.heap.size + 1) hb2 ?_ ?_
  · first | omega | (simp; omega) | (simp; done)
  intro hc2 hf2
  go_wp2_with fail
  refine (HH.out _).mono ?_
  rintro e w3 ⟨rfl, hb3⟩
  have hz3 := hb3.size
  try simp at hz3
  have f3x0 : w.heap.size + 1 < w3.heap.size := by omega
  have f3x1 : w2.heap.size < w3.heap.size := by omega
  refine olds_k (w2.heap.size + 1) hb3 ?_ ?_
  · first | omega | (simp; omega) | (simp; done)
  intro hc3 hf3
  go_wp2_with fail
  refine bodyPost_ret (v := .tuple #[.agg #[.bool S, .int .i64 X.toInt, .int .i64 Y.toInt], .bool true]) (by simp [results, Try.results9, go_sem, hc1, hc2, hc3, f11, f2x0, f2x3, q1]) rfl ⟨rfl, ?_⟩
  repeat (first | with_reducible exact Below.refl _ _ | (with_reducible refine Below.drew ?_) | (with_reducible refine Below.alloc ?_ ?_ _; rotate_left; (focus (first | omega | (simp; omega) | (simp; done)))) | (with_reducible refine Below.setCell ?_ ?_ _; rotate_left; (focus (first | omega | (simp; omega) | (simp; done)))) | (with_reducible refine Below.trans ?_ (hb3.mono ?_); rotate_left; (focus (first | omega | (simp; omega) | (simp; done)))) | (with_reducible refine Below.trans ?_ (hb2.mono ?_); rotate_left; (focus (first | omega | (simp; omega) | (simp; done)))) | (with_reducible refine Below.trans ?_ (hb1.mono ?_); rotate_left; (focus (first | omega | (simp; omega) | (simp; done)))))

end Go.Proofs.Ytkpbidlcnjppkaa
namespace Go.Proofs.Ytkpbidlcnjppkaa
open Go.RowKit

theorem seven_of_below {W X : World} {n b c : Nat} {v0 v1 v2 v3 u0 u1 u2 : Value} (hB : Below n W X) (hb : b < n) (hc : c < n)
    (k : W.cell? ⟨b, 0, none⟩ = some v0 ∧ W.cell? ⟨b, 1, none⟩ = some v1 ∧ W.cell? ⟨b, 2, none⟩ = some v2 ∧ W.cell? ⟨b, 3, none⟩ = some v3 ∧ W.cell? ⟨c, 0, none⟩ = some u0 ∧ W.cell? ⟨c, 1, none⟩ = some u1 ∧ W.cell? ⟨c, 2, none⟩ = some u2) :
    X.cell? ⟨b, 0, none⟩ = some v0 ∧ X.cell? ⟨b, 1, none⟩ = some v1 ∧ X.cell? ⟨b, 2, none⟩ = some v2 ∧ X.cell? ⟨b, 3, none⟩ = some v3 ∧ X.cell? ⟨c, 0, none⟩ = some u0 ∧ X.cell? ⟨c, 1, none⟩ = some u1 ∧ X.cell? ⟨c, 2, none⟩ = some u2 := by
  obtain ⟨k0, k1, k2, k3, k4, k5, k6⟩ := k
  exact ⟨(hB.cell hb).trans k0, (hB.cell hb).trans k1, (hB.cell hb).trans k2, (hB.cell hb).trans k3, (hB.cell hc).trans k4, (hB.cell hc).trans k5, (hB.cell hc).trans k6⟩

set_option maxHeartbeats 1000000 in
theorem sHasAddr_no (s : Bool) (H L : BitVec 64) (b : Int) (s' : Bool) (H' L' : BitVec 64) (hp : pokB s H L b = false) (w : World) :
    Calls Try.prog 36 #[.agg #[.bool s, .int .i64 H.toInt, .int .i64 L.toInt, .int .i64 b], .agg #[.bool s', .int .i64 H'.toInt, .int .i64 L'.toInt]] w fun e w' => e = .returned (.bool false) ∧ Below w.heap.size w w' := by
  have HP : Hid (∀ w, _) := sPrefixOk_any s H L b
  rw [hp] at HP
  clear hp
  go_enter Try.func36, Try.ntmps36
  go_wp2_with fail
  refine wp_region_held_drew (S := (fun x => x.cell? ⟨w.heap.size, 0, none⟩ = some (.bool s) ∧ x.cell? ⟨w.heap.size, 1, none⟩ = some (.int .i64 H.toInt) ∧ x.cell? ⟨w.heap.size, 2, none⟩ = some (.int .i64 L.toInt) ∧ x.cell? ⟨w.heap.size, 3, none⟩ = some (.int .i64 b) ∧ x.cell? ⟨w.heap.size + 1, 0, none⟩ = some (.bool s') ∧ x.cell? ⟨w.heap.size + 1, 1, none⟩ = some (.int .i64 H'.toInt) ∧ x.cell? ⟨w.heap.size + 1, 2, none⟩ = some (.int .i64 L'.toInt))) (by kernel_rfl) ?_ (fun hHeld => ?_)
  · try dsimp only
    (refine seven_of_below (W := (w.alloc (.cells #[.bool s, .int .i64 H.toInt, .int .i64 L.toInt, .int .i64 b] 27)).alloc (.cells #[.bool s', .int .i64 H'.toInt, .int .i64 L'.toInt] 25)) (n := w.heap.size + 2) ?_ (by omega) (by omega) ⟨by simp [go_sem], by simp [go_sem], by simp [go_sem], by simp [go_sem], by simp [go_sem], by simp [go_sem], by simp [go_sem]⟩; repeat (first | with_reducible exact Below.refl _ _ | (with_reducible refine Below.drew ?_) | (with_reducible refine Below.alloc ?_ ?_ _; rotate_left; (focus (first | omega | (simp; omega) | (simp; done)))) | (with_reducible refine Below.setCell ?_ ?_ _; rotate_left; (focus (first | omega | (simp; omega) | (simp; done))))))
  refine tk 0 5 rfl ?_; simp only [pa]
  refine wpAnyH_ready (rs := [1]) (by kernel_rfl) (by simp) ?_
  refine AllReadyH.cons rfl (fun K hK => ?_) AllReadyH.nil
  go_simp
  go_wp2_with ((go_at_call 18; refine (HP.out _).mono ?_; rintro e w1 ⟨rfl, hb1⟩; have hz1 := hb1.size; (try simp at hz1); (first | (refine ltk (w.heap.size) (w1.heap.size) ?_ ?_; (focus omega); intro f10) | skip); (first | (refine ltk (w.heap.size + 1) (w1.heap.size) ?_ ?_; (focus omega); intro f11) | skip); (refine olds_k (w.heap.size + 2) hb1 ?_ ?_; (focus (first | omega | (simp; omega) | (simp; done))); intro hc1 hf1)))
  refine hK.out _ _ ?_ (fun hHeld => ?_)
  · try dsimp only
    (refine seven_of_below (W := (w.alloc (.cells #[.bool s, .int .i64 H.toInt, .int .i64 L.toInt, .int .i64 b] 27)).alloc (.cells #[.bool s', .int .i64 H'.toInt, .int .i64 L'.toInt] 25)) (n := w.heap.size + 2) ?_ (by omega) (by omega) ⟨by simp [go_sem], by simp [go_sem], by simp [go_sem], by simp [go_sem], by simp [go_sem], by simp [go_sem], by simp [go_sem]⟩; repeat (first | with_reducible exact Below.refl _ _ | (with_reducible refine Below.drew ?_) | (with_reducible refine Below.alloc ?_ ?_ _; rotate_left; (focus (first | omega | (simp; omega) | (simp; done)))) | (with_reducible refine Below.setCell ?_ ?_ _; rotate_left; (focus (first | omega | (simp; omega) | (simp; done)))) | (with_reducible refine Below.trans ?_ (hb1.mono ?_); rotate_left; (focus (first | omega | (simp; omega) | (simp; done))))))
  clear hK K
  refine tk 2 7 rfl ?_; simp only [pa]
  refine sk 3 8 rfl ?_; simp only [pa]
  refine wpAnyH_ready (rs := [4]) (by kernel_rfl) (by simp) ?_
  refine AllReadyH.cons rfl (fun K hK => ?_) AllReadyH.nil
  go_simp
  refine hK.out _ _ ?_ (fun hHeld => ?_)
  · try dsimp only
    (refine seven_of_below (W := (w.alloc (.cells #[.bool s, .int .i64 H.toInt, .int .i64 L.toInt, .int .i64 b] 27)).alloc (.cells #[.bool s', .int .i64 H'.toInt, .int .i64 L'.toInt] 25)) (n := w.heap.size + 2) ?_ (by omega) (by omega) ⟨by simp [go_sem], by simp [go_sem], by simp [go_sem], by simp [go_sem], by simp [go_sem], by simp [go_sem], by simp [go_sem]⟩; repeat (first | with_reducible exact Below.refl _ _ | (with_reducible refine Below.drew ?_) | (with_reducible refine Below.alloc ?_ ?_ _; rotate_left; (focus (first | omega | (simp; omega) | (simp; done)))) | (with_reducible refine Below.setCell ?_ ?_ _; rotate_left; (focus (first | omega | (simp; omega) | (simp; done)))) | (with_reducible refine Below.trans ?_ (hb1.mono ?_); rotate_left; (focus (first | omega | (simp; omega) | (simp; done))))))
  clear hK K
  refine tk 5 10 rfl ?_; simp only [pa]
  refine tk 6 11 rfl ?_; simp only [pa]
  refine sk 7 12 rfl ?_; simp only [pa]
  refine sk 8 13 rfl ?_; simp only [pa]
  refine sk 9 14 rfl ?_; simp only [pa]
  refine sk 10 15 rfl ?_; simp only [pa]
  refine sk 11 16 rfl ?_; simp only [pa]
  refine sk 12 17 rfl ?_; simp only [pa]
  refine tk 13 18 rfl ?_; simp only [pa]
  refine tk 14 19 rfl ?_; simp only [pa]
  refine sk 15 20 rfl ?_; simp only [pa]
  refine sk 16 21 rfl ?_; simp only [pa]
  refine sk 17 22 rfl ?_; simp only [pa]
  refine sk 19 24 rfl ?_; simp only [pa]
  refine sk 20 25 rfl ?_; simp only [pa]
  refine wpAnyH_ready (rs := [18]) (by kernel_rfl) (by simp) ?_
  refine AllReadyH.cons rfl (fun K hK => ?_) AllReadyH.nil
  go_simp
  refine hK.out _ _ ?_ (fun hHeld => ?_)
  · try dsimp only
    (refine seven_of_below (W := (w.alloc (.cells #[.bool s, .int .i64 H.toInt, .int .i64 L.toInt, .int .i64 b] 27)).alloc (.cells #[.bool s', .int .i64 H'.toInt, .int .i64 L'.toInt] 25)) (n := w.heap.size + 2) ?_ (by omega) (by omega) ⟨by simp [go_sem], by simp [go_sem], by simp [go_sem], by simp [go_sem], by simp [go_sem], by simp [go_sem], by simp [go_sem]⟩; repeat (first | with_reducible exact Below.refl _ _ | (with_reducible refine Below.drew ?_) | (with_reducible refine Below.alloc ?_ ?_ _; rotate_left; (focus (first | omega | (simp; omega) | (simp; done)))) | (with_reducible refine Below.setCell ?_ ?_ _; rotate_left; (focus (first | omega | (simp; omega) | (simp; done)))) | (with_reducible refine Below.trans ?_ (hb1.mono ?_); rotate_left; (focus (first | omega | (simp; omega) | (simp; done))))))
  clear hK K
  refine sk 21 26 rfl ?_; simp only [pa]
  refine tk 22 27 rfl ?_; simp only [pa]
  refine tk 23 4 rfl ?_; simp only [pa]
  refine wpAnyH_done (by kernel_rfl) ?_ _
  go_wp2_with fail
  go_ret
  refine ⟨rfl, ?_⟩
  repeat (first | with_reducible exact Below.refl _ _ | (with_reducible refine Below.drew ?_) | (with_reducible refine Below.alloc ?_ ?_ _; rotate_left; (focus (first | omega | (simp; omega) | (simp; done)))) | (with_reducible refine Below.setCell ?_ ?_ _; rotate_left; (focus (first | omega | (simp; omega) | (simp; done)))) | (with_reducible refine Below.trans ?_ (hb1.mono ?_); rotate_left; (focus (first | omega | (simp; omega) | (simp; done)))))

set_option maxHeartbeats 1000000 in
theorem sHasAddr_bad (s : Bool) (H L : BitVec 64) (b : Int) (s' : Bool) (H' L' : BitVec 64) (hp : pokB s H L b = true) (hok : okB s' H'.toInt L'.toInt = false) (w : World) :
    Calls Try.prog 36 #[.agg #[.bool s, .int .i64 H.toInt, .int .i64 L.toInt, .int .i64 b], .agg #[.bool s', .int .i64 H'.toInt, .int .i64 L'.toInt]] w fun e w' => e = .returned (.bool false) ∧ Below w.heap.size w w' := by
  have HP : Hid (∀ w, _) := sPrefixOk_any s H L b
  rw [hp] at HP
  clear hp
  have HK : Hid (∀ w, _) := sAddrOk_any s' H'.toInt L'.toInt
  rw [hok] at HK
  clear hok
  go_enter Try.func36, Try.ntmps36
  go_wp2_with fail
  refine wp_region_held_drew (S := (fun x => x.cell? ⟨w.heap.size, 0, none⟩ = some (.bool s) ∧ x.cell? ⟨w.heap.size, 1, none⟩ = some (.int .i64 H.toInt) ∧ x.cell? ⟨w.heap.size, 2, none⟩ = some (.int .i64 L.toInt) ∧ x.cell? ⟨w.heap.size, 3, none⟩ = some (.int .i64 b) ∧ x.cell? ⟨w.heap.size + 1, 0, none⟩ = some (.bool s') ∧ x.cell? ⟨w.heap.size + 1, 1, none⟩ = some (.int .i64 H'.toInt) ∧ x.cell? ⟨w.heap.size + 1, 2, none⟩ = some (.int .i64 L'.toInt))) (by kernel_rfl) ?_ (fun hHeld => ?_)
  · try dsimp only
    (refine seven_of_below (W := (w.alloc (.cells #[.bool s, .int .i64 H.toInt, .int .i64 L.toInt, .int .i64 b] 27)).alloc (.cells #[.bool s', .int .i64 H'.toInt, .int .i64 L'.toInt] 25)) (n := w.heap.size + 2) ?_ (by omega) (by omega) ⟨by simp [go_sem], by simp [go_sem], by simp [go_sem], by simp [go_sem], by simp [go_sem], by simp [go_sem], by simp [go_sem]⟩; repeat (first | with_reducible exact Below.refl _ _ | (with_reducible refine Below.drew ?_) | (with_reducible refine Below.alloc ?_ ?_ _; rotate_left; (focus (first | omega | (simp; omega) | (simp; done)))) | (with_reducible refine Below.setCell ?_ ?_ _; rotate_left; (focus (first | omega | (simp; omega) | (simp; done))))))
  refine tk 0 5 rfl ?_; simp only [pa]
  refine wpAnyH_ready (rs := [1]) (by kernel_rfl) (by simp) ?_
  refine AllReadyH.cons rfl (fun K hK => ?_) AllReadyH.nil
  go_simp
  go_wp2_with ((go_at_call 18; refine (HP.out _).mono ?_; rintro e w1 ⟨rfl, hb1⟩; have hz1 := hb1.size; (try simp at hz1); (first | (refine ltk (w.heap.size) (w1.heap.size) ?_ ?_; (focus omega); intro f10) | skip); (first | (refine ltk (w.heap.size + 1) (w1.heap.size) ?_ ?_; (focus omega); intro f11) | skip); (refine olds_k (w.heap.size + 2) hb1 ?_ ?_; (focus (first | omega | (simp; omega) | (simp; done))); intro hc1 hf1)))
  refine hK.out _ _ ?_ (fun hHeld => ?_)
  · try dsimp only
    (refine seven_of_below (W := (w.alloc (.cells #[.bool s, .int .i64 H.toInt, .int .i64 L.toInt, .int .i64 b] 27)).alloc (.cells #[.bool s', .int .i64 H'.toInt, .int .i64 L'.toInt] 25)) (n := w.heap.size + 2) ?_ (by omega) (by omega) ⟨by simp [go_sem], by simp [go_sem], by simp [go_sem], by simp [go_sem], by simp [go_sem], by simp [go_sem], by simp [go_sem]⟩; repeat (first | with_reducible exact Below.refl _ _ | (with_reducible refine Below.drew ?_) | (with_reducible refine Below.alloc ?_ ?_ _; rotate_left; (focus (first | omega | (simp; omega) | (simp; done)))) | (with_reducible refine Below.setCell ?_ ?_ _; rotate_left; (focus (first | omega | (simp; omega) | (simp; done)))) | (with_reducible refine Below.trans ?_ (hb1.mono ?_); rotate_left; (focus (first | omega | (simp; omega) | (simp; done))))))
  clear hK K
  refine tk 2 7 rfl ?_; simp only [pa]
  refine tk 3 8 rfl ?_; simp only [pa]
  refine wpAnyH_ready (rs := [4]) (by kernel_rfl) (by simp) ?_
  refine AllReadyH.cons rfl (fun K hK => ?_) AllReadyH.nil
  go_simp
  go_wp2_with ((go_at_call 32; refine (HK.out _).mono ?_; rintro e w2 ⟨rfl, hb2⟩; have hz2 := hb2.size; (try simp at hz2); (first | (refine ltk (w.heap.size) (w2.heap.size) ?_ ?_; (focus omega); intro f20) | skip); (first | (refine ltk (w.heap.size + 1) (w2.heap.size) ?_ ?_; (focus omega); intro f21) | skip); (refine olds_k (w.heap.size + 2) hb2 ?_ ?_; (focus (first | omega | (simp; omega) | (simp; done))); intro hc2 hf2)))
  refine hK.out _ _ ?_ (fun hHeld => ?_)
  · try dsimp only
    (refine seven_of_below (W := (w.alloc (.cells #[.bool s, .int .i64 H.toInt, .int .i64 L.toInt, .int .i64 b] 27)).alloc (.cells #[.bool s', .int .i64 H'.toInt, .int .i64 L'.toInt] 25)) (n := w.heap.size + 2) ?_ (by omega) (by omega) ⟨by simp [go_sem], by simp [go_sem], by simp [go_sem], by simp [go_sem], by simp [go_sem], by simp [go_sem], by simp [go_sem]⟩; repeat (first | with_reducible exact Below.refl _ _ | (with_reducible refine Below.drew ?_) | (with_reducible refine Below.alloc ?_ ?_ _; rotate_left; (focus (first | omega | (simp; omega) | (simp; done)))) | (with_reducible refine Below.setCell ?_ ?_ _; rotate_left; (focus (first | omega | (simp; omega) | (simp; done)))) | (with_reducible refine Below.trans ?_ (hb2.mono ?_); rotate_left; (focus (first | omega | (simp; omega) | (simp; done)))) | (with_reducible refine Below.trans ?_ (hb1.mono ?_); rotate_left; (focus (first | omega | (simp; omega) | (simp; done))))))
  clear hK K
  refine tk 5 10 rfl ?_; simp only [pa]
  refine tk 6 11 rfl ?_; simp only [pa]
  refine sk 7 12 rfl ?_; simp only [pa]
  refine sk 8 13 rfl ?_; simp only [pa]
  refine sk 9 14 rfl ?_; simp only [pa]
  refine sk 10 15 rfl ?_; simp only [pa]
  refine sk 11 16 rfl ?_; simp only [pa]
  refine sk 12 17 rfl ?_; simp only [pa]
  refine tk 13 18 rfl ?_; simp only [pa]
  refine tk 14 19 rfl ?_; simp only [pa]
  refine sk 15 20 rfl ?_; simp only [pa]
  refine sk 16 21 rfl ?_; simp only [pa]
  refine sk 17 22 rfl ?_; simp only [pa]
  refine sk 19 24 rfl ?_; simp only [pa]
  refine sk 20 25 rfl ?_; simp only [pa]
  refine wpAnyH_ready (rs := [18]) (by kernel_rfl) (by simp) ?_
  refine AllReadyH.cons rfl (fun K hK => ?_) AllReadyH.nil
  go_simp
  refine hK.out _ _ ?_ (fun hHeld => ?_)
  · try dsimp only
    (refine seven_of_below (W := (w.alloc (.cells #[.bool s, .int .i64 H.toInt, .int .i64 L.toInt, .int .i64 b] 27)).alloc (.cells #[.bool s', .int .i64 H'.toInt, .int .i64 L'.toInt] 25)) (n := w.heap.size + 2) ?_ (by omega) (by omega) ⟨by simp [go_sem], by simp [go_sem], by simp [go_sem], by simp [go_sem], by simp [go_sem], by simp [go_sem], by simp [go_sem]⟩; repeat (first | with_reducible exact Below.refl _ _ | (with_reducible refine Below.drew ?_) | (with_reducible refine Below.alloc ?_ ?_ _; rotate_left; (focus (first | omega | (simp; omega) | (simp; done)))) | (with_reducible refine Below.setCell ?_ ?_ _; rotate_left; (focus (first | omega | (simp; omega) | (simp; done)))) | (with_reducible refine Below.trans ?_ (hb2.mono ?_); rotate_left; (focus (first | omega | (simp; omega) | (simp; done)))) | (with_reducible refine Below.trans ?_ (hb1.mono ?_); rotate_left; (focus (first | omega | (simp; omega) | (simp; done))))))
  clear hK K
  refine sk 21 26 rfl ?_; simp only [pa]
  refine tk 22 27 rfl ?_; simp only [pa]
  refine tk 23 4 rfl ?_; simp only [pa]
  refine wpAnyH_done (by kernel_rfl) ?_ _
  go_wp2_with fail
  go_ret
  refine ⟨rfl, ?_⟩
  repeat (first | with_reducible exact Below.refl _ _ | (with_reducible refine Below.drew ?_) | (with_reducible refine Below.alloc ?_ ?_ _; rotate_left; (focus (first | omega | (simp; omega) | (simp; done)))) | (with_reducible refine Below.setCell ?_ ?_ _; rotate_left; (focus (first | omega | (simp; omega) | (simp; done)))) | (with_reducible refine Below.trans ?_ (hb2.mono ?_); rotate_left; (focus (first | omega | (simp; omega) | (simp; done)))) | (with_reducible refine Below.trans ?_ (hb1.mono ?_); rotate_left; (focus (first | omega | (simp; omega) | (simp; done)))))

end Go.Proofs.Ytkpbidlcnjppkaa
namespace Go.Proofs.Ytkpbidlcnjppkaa
open Go.RowKit

set_option maxHeartbeats 1000000 in
theorem sHasAddr_ft (H L : BitVec 64) (b : Int) (H' L' : BitVec 64) (hp : pokB false H L b = true) (hok : okB true H'.toInt L'.toInt = true) (w : World) :
    Calls Try.prog 36 #[.agg #[.bool false, .int .i64 H.toInt, .int .i64 L.toInt, .int .i64 b], .agg #[.bool true, .int .i64 H'.toInt, .int .i64 L'.toInt]] w fun e w' => e = .returned (.bool false) ∧ Below w.heap.size w w' := by
  have HP : Hid (∀ w, _) := sPrefixOk_any false H L b
  rw [hp] at HP
  clear hp
  have HK : Hid (∀ w, _) := sAddrOk_any true H'.toInt L'.toInt
  rw [hok] at HK
  clear hok
  go_enter Try.func36, Try.ntmps36
  go_wp2_with fail
  refine wp_region_held_drew (S := (fun x => x.cell? ⟨w.heap.size, 0, none⟩ = some (.bool false) ∧ x.cell? ⟨w.heap.size, 1, none⟩ = some (.int .i64 H.toInt) ∧ x.cell? ⟨w.heap.size, 2, none⟩ = some (.int .i64 L.toInt) ∧ x.cell? ⟨w.heap.size, 3, none⟩ = some (.int .i64 b) ∧ x.cell? ⟨w.heap.size + 1, 0, none⟩ = some (.bool true) ∧ x.cell? ⟨w.heap.size + 1, 1, none⟩ = some (.int .i64 H'.toInt) ∧ x.cell? ⟨w.heap.size + 1, 2, none⟩ = some (.int .i64 L'.toInt))) (by kernel_rfl) ?_ (fun hHeld => ?_)
  · try dsimp only
    (refine seven_of_below (W := (w.alloc (.cells #[.bool false, .int .i64 H.toInt, .int .i64 L.toInt, .int .i64 b] 27)).alloc (.cells #[.bool true, .int .i64 H'.toInt, .int .i64 L'.toInt] 25)) (n := w.heap.size + 2) ?_ (by omega) (by omega) ⟨by simp [go_sem], by simp [go_sem], by simp [go_sem], by simp [go_sem], by simp [go_sem], by simp [go_sem], by simp [go_sem]⟩; repeat (first | with_reducible exact Below.refl _ _ | (with_reducible refine Below.drew ?_) | (with_reducible refine Below.alloc ?_ ?_ _; rotate_left; (focus (first | omega | (simp; omega) | (simp; done)))) | (with_reducible refine Below.setCell ?_ ?_ _; rotate_left; (focus (first | omega | (simp; omega) | (simp; done))))))
  refine tk 0 5 rfl ?_; simp only [pa]
  refine wpAnyH_ready (rs := [1]) (by kernel_rfl) (by simp) ?_
  refine AllReadyH.cons rfl (fun K hK => ?_) AllReadyH.nil
  go_simp
  go_wp2_with ((go_at_call 18; refine (HP.out _).mono ?_; rintro e w1 ⟨rfl, hb1⟩; have hz1 := hb1.size; (try simp at hz1); (first | (refine ltk (w.heap.size) (w1.heap.size) ?_ ?_; (focus omega); intro f10) | skip); (first | (refine ltk (w.heap.size + 1) (w1.heap.size) ?_ ?_; (focus omega); intro f11) | skip); (refine olds_k (w.heap.size + 2) hb1 ?_ ?_; (focus (first | omega | (simp; omega) | (simp; done))); intro hc1 hf1)))
  refine hK.out _ _ ?_ (fun hHeld => ?_)
  · try dsimp only
    (refine seven_of_below (W := (w.alloc (.cells #[.bool false, .int .i64 H.toInt, .int .i64 L.toInt, .int .i64 b] 27)).alloc (.cells #[.bool true, .int .i64 H'.toInt, .int .i64 L'.toInt] 25)) (n := w.heap.size + 2) ?_ (by omega) (by omega) ⟨by simp [go_sem], by simp [go_sem], by simp [go_sem], by simp [go_sem], by simp [go_sem], by simp [go_sem], by simp [go_sem]⟩; repeat (first | with_reducible exact Below.refl _ _ | (with_reducible refine Below.drew ?_) | (with_reducible refine Below.alloc ?_ ?_ _; rotate_left; (focus (first | omega | (simp; omega) | (simp; done)))) | (with_reducible refine Below.setCell ?_ ?_ _; rotate_left; (focus (first | omega | (simp; omega) | (simp; done)))) | (with_reducible refine Below.trans ?_ (hb1.mono ?_); rotate_left; (focus (first | omega | (simp; omega) | (simp; done))))))
  clear hK K
  refine tk 2 7 rfl ?_; simp only [pa]
  refine tk 3 8 rfl ?_; simp only [pa]
  refine wpAnyH_ready (rs := [4]) (by kernel_rfl) (by simp) ?_
  refine AllReadyH.cons rfl (fun K hK => ?_) AllReadyH.nil
  go_simp
  go_wp2_with ((go_at_call 32; refine (HK.out _).mono ?_; rintro e w2 ⟨rfl, hb2⟩; have hz2 := hb2.size; (try simp at hz2); (first | (refine ltk (w.heap.size) (w2.heap.size) ?_ ?_; (focus omega); intro f20) | skip); (first | (refine ltk (w.heap.size + 1) (w2.heap.size) ?_ ?_; (focus omega); intro f21) | skip); (refine olds_k (w.heap.size + 2) hb2 ?_ ?_; (focus (first | omega | (simp; omega) | (simp; done))); intro hc2 hf2)))
  refine hK.out _ _ ?_ (fun hHeld => ?_)
  · try dsimp only
    (refine seven_of_below (W := (w.alloc (.cells #[.bool false, .int .i64 H.toInt, .int .i64 L.toInt, .int .i64 b] 27)).alloc (.cells #[.bool true, .int .i64 H'.toInt, .int .i64 L'.toInt] 25)) (n := w.heap.size + 2) ?_ (by omega) (by omega) ⟨by simp [go_sem], by simp [go_sem], by simp [go_sem], by simp [go_sem], by simp [go_sem], by simp [go_sem], by simp [go_sem]⟩; repeat (first | with_reducible exact Below.refl _ _ | (with_reducible refine Below.drew ?_) | (with_reducible refine Below.alloc ?_ ?_ _; rotate_left; (focus (first | omega | (simp; omega) | (simp; done)))) | (with_reducible refine Below.setCell ?_ ?_ _; rotate_left; (focus (first | omega | (simp; omega) | (simp; done)))) | (with_reducible refine Below.trans ?_ (hb2.mono ?_); rotate_left; (focus (first | omega | (simp; omega) | (simp; done)))) | (with_reducible refine Below.trans ?_ (hb1.mono ?_); rotate_left; (focus (first | omega | (simp; omega) | (simp; done))))))
  clear hK K
  refine tk 5 10 rfl ?_; simp only [pa]
  refine tk 6 11 rfl ?_; simp only [pa]
  refine tk 7 12 rfl ?_; simp only [pa]
  refine tk 8 13 rfl ?_; simp only [pa]
  refine tk 9 14 rfl ?_; simp only [pa]
  refine tk 10 15 rfl ?_; simp only [pa]
  refine tk 11 16 rfl ?_; simp only [pa]
  refine tk 12 17 rfl ?_; simp only [pa]
  refine tk 13 18 rfl ?_; simp only [pa]
  refine tk 14 19 rfl ?_; simp only [pa]
  refine sk 15 20 rfl ?_; simp only [pa]
  refine sk 16 21 rfl ?_; simp only [pa]
  refine sk 17 22 rfl ?_; simp only [pa]
  refine sk 19 24 rfl ?_; simp only [pa]
  refine sk 20 25 rfl ?_; simp only [pa]
  refine wpAnyH_ready (rs := [18]) (by kernel_rfl) (by simp) ?_
  refine AllReadyH.cons rfl (fun K hK => ?_) AllReadyH.nil
  go_simp
  refine hK.out _ _ ?_ (fun hHeld => ?_)
  · try dsimp only
    (refine seven_of_below (W := (w.alloc (.cells #[.bool false, .int .i64 H.toInt, .int .i64 L.toInt, .int .i64 b] 27)).alloc (.cells #[.bool true, .int .i64 H'.toInt, .int .i64 L'.toInt] 25)) (n := w.heap.size + 2) ?_ (by omega) (by omega) ⟨by simp [go_sem], by simp [go_sem], by simp [go_sem], by simp [go_sem], by simp [go_sem], by simp [go_sem], by simp [go_sem]⟩; repeat (first | with_reducible exact Below.refl _ _ | (with_reducible refine Below.drew ?_) | (with_reducible refine Below.alloc ?_ ?_ _; rotate_left; (focus (first | omega | (simp; omega) | (simp; done)))) | (with_reducible refine Below.setCell ?_ ?_ _; rotate_left; (focus (first | omega | (simp; omega) | (simp; done)))) | (with_reducible refine Below.trans ?_ (hb2.mono ?_); rotate_left; (focus (first | omega | (simp; omega) | (simp; done)))) | (with_reducible refine Below.trans ?_ (hb1.mono ?_); rotate_left; (focus (first | omega | (simp; omega) | (simp; done))))))
  clear hK K
  refine sk 21 26 rfl ?_; simp only [pa]
  refine tk 22 27 rfl ?_; simp only [pa]
  refine tk 23 4 rfl ?_; simp only [pa]
  refine wpAnyH_done (by kernel_rfl) ?_ _
  go_wp2_with fail
  go_ret
  refine ⟨rfl, ?_⟩
  repeat (first | with_reducible exact Below.refl _ _ | (with_reducible refine Below.drew ?_) | (with_reducible refine Below.alloc ?_ ?_ _; rotate_left; (focus (first | omega | (simp; omega) | (simp; done)))) | (with_reducible refine Below.setCell ?_ ?_ _; rotate_left; (focus (first | omega | (simp; omega) | (simp; done)))) | (with_reducible refine Below.trans ?_ (hb2.mono ?_); rotate_left; (focus (first | omega | (simp; omega) | (simp; done)))) | (with_reducible refine Below.trans ?_ (hb1.mono ?_); rotate_left; (focus (first | omega | (simp; omega) | (simp; done)))))

set_option maxHeartbeats 1000000 in
theorem sHasAddr_tf (H L : BitVec 64) (b : Int) (H' L' : BitVec 64) (hp : pokB true H L b = true) (hok : okB false H'.toInt L'.toInt = true) (w : World) :
    Calls Try.prog 36 #[.agg #[.bool true, .int .i64 H.toInt, .int .i64 L.toInt, .int .i64 b], .agg #[.bool false, .int .i64 H'.toInt, .int .i64 L'.toInt]] w fun e w' => e = .returned (.bool false) ∧ Below w.heap.size w w' := by
  have HP : Hid (∀ w, _) := sPrefixOk_any true H L b
  rw [hp] at HP
  clear hp
  have HK : Hid (∀ w, _) := sAddrOk_any false H'.toInt L'.toInt
  rw [hok] at HK
  clear hok
  go_enter Try.func36, Try.ntmps36
  go_wp2_with fail
  refine wp_region_held_drew (S := (fun x => x.cell? ⟨w.heap.size, 0, none⟩ = some (.bool true) ∧ x.cell? ⟨w.heap.size, 1, none⟩ = some (.int .i64 H.toInt) ∧ x.cell? ⟨w.heap.size, 2, none⟩ = some (.int .i64 L.toInt) ∧ x.cell? ⟨w.heap.size, 3, none⟩ = some (.int .i64 b) ∧ x.cell? ⟨w.heap.size + 1, 0, none⟩ = some (.bool false) ∧ x.cell? ⟨w.heap.size + 1, 1, none⟩ = some (.int .i64 H'.toInt) ∧ x.cell? ⟨w.heap.size + 1, 2, none⟩ = some (.int .i64 L'.toInt))) (by kernel_rfl) ?_ (fun hHeld => ?_)
  · try dsimp only
    (refine seven_of_below (W := (w.alloc (.cells #[.bool true, .int .i64 H.toInt, .int .i64 L.toInt, .int .i64 b] 27)).alloc (.cells #[.bool false, .int .i64 H'.toInt, .int .i64 L'.toInt] 25)) (n := w.heap.size + 2) ?_ (by omega) (by omega) ⟨by simp [go_sem], by simp [go_sem], by simp [go_sem], by simp [go_sem], by simp [go_sem], by simp [go_sem], by simp [go_sem]⟩; repeat (first | with_reducible exact Below.refl _ _ | (with_reducible refine Below.drew ?_) | (with_reducible refine Below.alloc ?_ ?_ _; rotate_left; (focus (first | omega | (simp; omega) | (simp; done)))) | (with_reducible refine Below.setCell ?_ ?_ _; rotate_left; (focus (first | omega | (simp; omega) | (simp; done))))))
  refine tk 0 5 rfl ?_; simp only [pa]
  refine wpAnyH_ready (rs := [1]) (by kernel_rfl) (by simp) ?_
  refine AllReadyH.cons rfl (fun K hK => ?_) AllReadyH.nil
  go_simp
  go_wp2_with ((go_at_call 18; refine (HP.out _).mono ?_; rintro e w1 ⟨rfl, hb1⟩; have hz1 := hb1.size; (try simp at hz1); (first | (refine ltk (w.heap.size) (w1.heap.size) ?_ ?_; (focus omega); intro f10) | skip); (first | (refine ltk (w.heap.size + 1) (w1.heap.size) ?_ ?_; (focus omega); intro f11) | skip); (refine olds_k (w.heap.size + 2) hb1 ?_ ?_; (focus (first | omega | (simp; omega) | (simp; done))); intro hc1 hf1)))
  refine hK.out _ _ ?_ (fun hHeld => ?_)
  · try dsimp only
    (refine seven_of_below (W := (w.alloc (.cells #[.bool true, .int .i64 H.toInt, .int .i64 L.toInt, .int .i64 b] 27)).alloc (.cells #[.bool false, .int .i64 H'.toInt, .int .i64 L'.toInt] 25)) (n := w.heap.size + 2) ?_ (by omega) (by omega) ⟨by simp [go_sem], by simp [go_sem], by simp [go_sem], by simp [go_sem], by simp [go_sem], by simp [go_sem], by simp [go_sem]⟩; repeat (first | with_reducible exact Below.refl _ _ | (with_reducible refine Below.drew ?_) | (with_reducible refine Below.alloc ?_ ?_ _; rotate_left; (focus (first | omega | (simp; omega) | (simp; done)))) | (with_reducible refine Below.setCell ?_ ?_ _; rotate_left; (focus (first | omega | (simp; omega) | (simp; done)))) | (with_reducible refine Below.trans ?_ (hb1.mono ?_); rotate_left; (focus (first | omega | (simp; omega) | (simp; done))))))
  clear hK K
  refine tk 2 7 rfl ?_; simp only [pa]
  refine tk 3 8 rfl ?_; simp only [pa]
  refine wpAnyH_ready (rs := [4]) (by kernel_rfl) (by simp) ?_
  refine AllReadyH.cons rfl (fun K hK => ?_) AllReadyH.nil
  go_simp
  go_wp2_with ((go_at_call 32; refine (HK.out _).mono ?_; rintro e w2 ⟨rfl, hb2⟩; have hz2 := hb2.size; (try simp at hz2); (first | (refine ltk (w.heap.size) (w2.heap.size) ?_ ?_; (focus omega); intro f20) | skip); (first | (refine ltk (w.heap.size + 1) (w2.heap.size) ?_ ?_; (focus omega); intro f21) | skip); (refine olds_k (w.heap.size + 2) hb2 ?_ ?_; (focus (first | omega | (simp; omega) | (simp; done))); intro hc2 hf2)))
  refine hK.out _ _ ?_ (fun hHeld => ?_)
  · try dsimp only
    (refine seven_of_below (W := (w.alloc (.cells #[.bool true, .int .i64 H.toInt, .int .i64 L.toInt, .int .i64 b] 27)).alloc (.cells #[.bool false, .int .i64 H'.toInt, .int .i64 L'.toInt] 25)) (n := w.heap.size + 2) ?_ (by omega) (by omega) ⟨by simp [go_sem], by simp [go_sem], by simp [go_sem], by simp [go_sem], by simp [go_sem], by simp [go_sem], by simp [go_sem]⟩; repeat (first | with_reducible exact Below.refl _ _ | (with_reducible refine Below.drew ?_) | (with_reducible refine Below.alloc ?_ ?_ _; rotate_left; (focus (first | omega | (simp; omega) | (simp; done)))) | (with_reducible refine Below.setCell ?_ ?_ _; rotate_left; (focus (first | omega | (simp; omega) | (simp; done)))) | (with_reducible refine Below.trans ?_ (hb2.mono ?_); rotate_left; (focus (first | omega | (simp; omega) | (simp; done)))) | (with_reducible refine Below.trans ?_ (hb1.mono ?_); rotate_left; (focus (first | omega | (simp; omega) | (simp; done))))))
  clear hK K
  refine tk 5 10 rfl ?_; simp only [pa]
  refine tk 6 11 rfl ?_; simp only [pa]
  refine tk 7 12 rfl ?_; simp only [pa]
  refine tk 8 13 rfl ?_; simp only [pa]
  refine tk 9 14 rfl ?_; simp only [pa]
  refine tk 10 15 rfl ?_; simp only [pa]
  refine tk 11 16 rfl ?_; simp only [pa]
  refine tk 12 17 rfl ?_; simp only [pa]
  refine tk 13 18 rfl ?_; simp only [pa]
  refine tk 14 19 rfl ?_; simp only [pa]
  refine sk 15 20 rfl ?_; simp only [pa]
  refine sk 16 21 rfl ?_; simp only [pa]
  refine sk 17 22 rfl ?_; simp only [pa]
  refine sk 19 24 rfl ?_; simp only [pa]
  refine sk 20 25 rfl ?_; simp only [pa]
  refine wpAnyH_ready (rs := [18]) (by kernel_rfl) (by simp) ?_
  refine AllReadyH.cons rfl (fun K hK => ?_) AllReadyH.nil
  go_simp
  refine hK.out _ _ ?_ (fun hHeld => ?_)
  · try dsimp only
    (refine seven_of_below (W := (w.alloc (.cells #[.bool true, .int .i64 H.toInt, .int .i64 L.toInt, .int .i64 b] 27)).alloc (.cells #[.bool false, .int .i64 H'.toInt, .int .i64 L'.toInt] 25)) (n := w.heap.size + 2) ?_ (by omega) (by omega) ⟨by simp [go_sem], by simp [go_sem], by simp [go_sem], by simp [go_sem], by simp [go_sem], by simp [go_sem], by simp [go_sem]⟩; repeat (first | with_reducible exact Below.refl _ _ | (with_reducible refine Below.drew ?_) | (with_reducible refine Below.alloc ?_ ?_ _; rotate_left; (focus (first | omega | (simp; omega) | (simp; done)))) | (with_reducible refine Below.setCell ?_ ?_ _; rotate_left; (focus (first | omega | (simp; omega) | (simp; done)))) | (with_reducible refine Below.trans ?_ (hb2.mono ?_); rotate_left; (focus (first | omega | (simp; omega) | (simp; done)))) | (with_reducible refine Below.trans ?_ (hb1.mono ?_); rotate_left; (focus (first | omega | (simp; omega) | (simp; done))))))
  clear hK K
  refine sk 21 26 rfl ?_; simp only [pa]
  refine tk 22 27 rfl ?_; simp only [pa]
  refine tk 23 4 rfl ?_; simp only [pa]
  refine wpAnyH_done (by kernel_rfl) ?_ _
  go_wp2_with fail
  go_ret
  refine ⟨rfl, ?_⟩
  repeat (first | with_reducible exact Below.refl _ _ | (with_reducible refine Below.drew ?_) | (with_reducible refine Below.alloc ?_ ?_ _; rotate_left; (focus (first | omega | (simp; omega) | (simp; done)))) | (with_reducible refine Below.setCell ?_ ?_ _; rotate_left; (focus (first | omega | (simp; omega) | (simp; done)))) | (with_reducible refine Below.trans ?_ (hb2.mono ?_); rotate_left; (focus (first | omega | (simp; omega) | (simp; done)))) | (with_reducible refine Below.trans ?_ (hb1.mono ?_); rotate_left; (focus (first | omega | (simp; omega) | (simp; done)))))

set_option maxHeartbeats 1000000 in
theorem sHasAddr_same (s : Bool) (H L : BitVec 64) (b : Int) (n : Nat) (H' L' : BitVec 64) (hp : pokB s H L b = true) (hok : okB s H'.toInt L'.toInt = true) (hn : n ≤ wd s) (hb : b = (wd s : Int) - (n : Int)) (w : World) :
    Calls Try.prog 36 #[.agg #[.bool s, .int .i64 H.toInt, .int .i64 L.toInt, .int .i64 b], .agg #[.bool s, .int .i64 H'.toInt, .int .i64 L'.toInt]] w fun e w' => e = .returned (.bool (hasB s H L n s H' L')) ∧ Below w.heap.size w w' := by
  have HM : Hid (∀ w, _) := l2Mask_any s H' L' n b hok hn hb
  have hq := hasEq s H L n s H' L'
  have HP : Hid (∀ w, _) := sPrefixOk_any s H L b
  rw [hp] at HP
  clear hp
  have HK : Hid (∀ w, _) := sAddrOk_any s H'.toInt L'.toInt
  rw [hok] at HK
  clear hok
  clear hn hb
  generalize hasB s H L n s H' L' = B at hq ⊢
  go_enter Try.func36, Try.ntmps36
  go_wp2_with fail
  go_region_held3 (fun x => x.cell? ⟨w.heap.size, 0, none⟩ = some (.bool s) ∧ x.cell? ⟨w.heap.size, 1, none⟩ = some (.int .i64 H.toInt) ∧ x.cell? ⟨w.heap.size, 2, none⟩ = some (.int .i64 L.toInt) ∧ x.cell? ⟨w.heap.size, 3, none⟩ = some (.int .i64 b) ∧ x.cell? ⟨w.heap.size + 1, 0, none⟩ = some (.bool s) ∧ x.cell? ⟨w.heap.size + 1, 1, none⟩ = some (.int .i64 H'.toInt) ∧ x.cell? ⟨w.heap.size + 1, 2, none⟩ = some (.int .i64 L'.toInt)) ((refine seven_of_below (W := (w.alloc (.cells #[.bool s, .int .i64 H.toInt, .int .i64 L.toInt, .int .i64 b] 27)).alloc (.cells #[.bool s, .int .i64 H'.toInt, .int .i64 L'.toInt] 25)) (n := w.heap.size + 2) ?_ (by omega) (by omega) ⟨by simp [go_sem], by simp [go_sem], by simp [go_sem], by simp [go_sem], by simp [go_sem], by simp [go_sem], by simp [go_sem]⟩; repeat (first | with_reducible exact Below.refl _ _ | (with_reducible refine Below.drew ?_) | (with_reducible refine Below.alloc ?_ ?_ _; rotate_left; (focus (first | omega | (simp; omega) | (simp; done)))) | (with_reducible refine Below.setCell ?_ ?_ _; rotate_left; (focus (first | omega | (simp; omega) | (simp; done)))) | (with_reducible refine Below.trans ?_ (hb3.mono ?_); rotate_left; (focus (first | omega | (simp; omega) | (simp; done)))) | (with_reducible refine Below.trans ?_ (hb2.mono ?_); rotate_left; (focus (first | omega | (simp; omega) | (simp; done)))) | (with_reducible refine Below.trans ?_ (hb1.mono ?_); rotate_left; (focus (first | omega | (simp; omega) | (simp; done))))))) (first | (go_at_call 18; refine (HP.out _).mono ?_; rintro e w1 ⟨rfl, hb1⟩; have hz1 := hb1.size; (try simp at hz1); (first | (refine ltk (w.heap.size) (w1.heap.size) ?_ ?_; (focus omega); intro f10) | skip); (first | (refine ltk (w.heap.size + 1) (w1.heap.size) ?_ ?_; (focus omega); intro f11) | skip); (refine olds_k (w.heap.size + 2) hb1 ?_ ?_; (focus (first | omega | (simp; omega) | (simp; done))); intro hc1 hf1)) | (go_at_call 32; refine (HK.out _).mono ?_; rintro e w2 ⟨rfl, hb2⟩; have hz2 := hb2.size; (try simp at hz2); (first | (refine ltk (w.heap.size) (w2.heap.size) ?_ ?_; (focus omega); intro f20) | skip); (first | (refine ltk (w.heap.size + 1) (w2.heap.size) ?_ ?_; (focus omega); intro f21) | skip); (refine olds_k (w.heap.size + 2) hb2 ?_ ?_; (focus (first | omega | (simp; omega) | (simp; done))); intro hc2 hf2)) | (go_at_call 35; refine (HM.out _).mono ?_; rintro e w3 ⟨rfl, hb3⟩; have hz3 := hb3.size; (try simp at hz3); (first | (refine ltk (w.heap.size) (w3.heap.size) ?_ ?_; (focus omega); intro f30) | skip); (first | (refine ltk (w.heap.size + 1) (w3.heap.size) ?_ ?_; (focus omega); intro f31) | skip); (refine olds_k (w.heap.size + 2) hb3 ?_ ?_; (focus (first | omega | (simp; omega) | (simp; done))); intro hc3 hf3)))
  all_goals
    go_wp2_with fail
    go_ret
    refine ⟨rfl, ?_⟩
    repeat (first | with_reducible exact Below.refl _ _ | (with_reducible refine Below.drew ?_) | (with_reducible refine Below.alloc ?_ ?_ _; rotate_left; (focus (first | omega | (simp; omega) | (simp; done)))) | (with_reducible refine Below.setCell ?_ ?_ _; rotate_left; (focus (first | omega | (simp; omega) | (simp; done)))) | (with_reducible refine Below.trans ?_ (hb3.mono ?_); rotate_left; (focus (first | omega | (simp; omega) | (simp; done)))) | (with_reducible refine Below.trans ?_ (hb2.mono ?_); rotate_left; (focus (first | omega | (simp; omega) | (simp; done)))) | (with_reducible refine Below.trans ?_ (hb1.mono ?_); rotate_left; (focus (first | omega | (simp; omega) | (simp; done)))))

end Go.Proofs.Ytkpbidlcnjppkaa
namespace Go.Proofs.Ytkpbidlcnjppkaa
open Go.RowKit

/-- whether the prefix (s, H, L, b) has the address (s', H', L') -/
def hadB (s : Bool) (H L : BitVec 64) (b : Int) (s' : Bool) (H' L' : BitVec 64) : Bool := pokB s H L b && (okB s' H'.toInt L'.toInt && hasB s H L ((wd s : Int) - b).toNat s' H' L')

theorem sHasAddr_any (s : Bool) (H L : BitVec 64) (b : Int) (s' : Bool) (H' L' : BitVec 64) (w : World) :
    Calls Try.prog 36 #[.agg #[.bool s, .int .i64 H.toInt, .int .i64 L.toInt, .int .i64 b], .agg #[.bool s', .int .i64 H'.toInt, .int .i64 L'.toInt]] w fun e w' => e = .returned (.bool (hadB s H L b s' H' L')) ∧ Below w.heap.size w w' := by
  cases hp : pokB s H L b
  · rw [show hadB s H L b s' H' L' = false by simp [hadB, hp]]
    exact sHasAddr_no s H L b s' H' L' hp w
  · cases hok : okB s' H'.toInt L'.toInt
    · rw [show hadB s H L b s' H' L' = false by simp [hadB, hok]]
      exact sHasAddr_bad s H L b s' H' L' hp hok w
    · rw [show hadB s H L b s' H' L' = hasB s H L ((wd s : Int) - b).toNat s' H' L' by rw [hadB, hp, hok]; rfl]
      have hb : 0 ≤ b ∧ b ≤ (wd s : Int) := by
        simp only [pokB, Bool.and_eq_true, decide_eq_true_eq] at hp
        exact hp.2.1
      by_cases e : s' = s
      · subst e
        exact sHasAddr_same s' H L b _ H' L' hp hok (by omega) (by omega) w
      · have e1 : (s' == s) = false := by simpa using e
        rw [show hasB s H L ((wd s : Int) - b).toNat s' H' L' = false by rw [hasB, e1]; rfl]
        cases s <;> cases s'
        · cases e1
        · exact sHasAddr_ft H L b H' L' hp hok w
        · exact sHasAddr_tf H L b H' L' hp hok w
        · cases e1

end Go.Proofs.Ytkpbidlcnjppkaa
namespace Go.Proofs.Ytkpbidlcnjppkaa
open Go.RowKit

set_option maxHeartbeats 1000000 in
theorem iHasAddr_any (s : Bool) (H L : BitVec 64) (b : Int) (s' : Bool) (H' L' : BitVec 64) (w : World) :
    Calls Try.prog 15 #[.agg #[.bool s, .int .i64 H.toInt, .int .i64 L.toInt, .int .i64 b], .agg #[.bool s', .int .i64 H'.toInt, .int .i64 L'.toInt]] w fun e w' => e = .returned (.bool (hadB s H L b s' H' L')) ∧ Below w.heap.size w w' := by
  cases hp : pokB s H L b
  · rw [show hadB s H L b s' H' L' = false by simp [hadB, hp]]
    have HS : Hid (∀ w, _) := spanOf_no s H L b hp
    clear hp
    go_enter Try.func15, Try.ntmps15
    go_wp2_with fail
    refine (HS.out _).mono ?_
    rintro e w1 ⟨rfl, hb1⟩
    have hz1 := hb1.size
    try simp at hz1
    have f10 : w.heap.size < w1.heap.size := by omega
    have f11 : w.heap.size + 1 < w1.heap.size := by omega
    refine olds_k (w.heap.size + 2) hb1 ?_ ?_
    · first | omega | (simp; omega) | (simp; done)
    intro hc1 hf1
    go_wp2_with fail
    go_ret
    refine ⟨rfl, ?_⟩
    repeat (first | with_reducible exact Below.refl _ _ | (with_reducible refine Below.drew ?_) | (with_reducible refine Below.alloc ?_ ?_ _; rotate_left; (focus (first | omega | (simp; omega) | (simp; done)))) | (with_reducible refine Below.setCell ?_ ?_ _; rotate_left; (focus (first | omega | (simp; omega) | (simp; done)))) | (with_reducible refine Below.trans ?_ (hb1.mono ?_); rotate_left; (focus (first | omega | (simp; omega) | (simp; done)))))
  obtain ⟨n, hn⟩ : ∃ n : Nat, (n : Int) = (wd s : Int) - b := ⟨((wd s : Int) - b).toNat, by have := (pokB_parts hp).2.1; omega⟩
  have hn1 : n ≤ 128 := by have := wd_le' s; have := (pokB_parts hp).2.1; omega
  have HS : Hid (∀ w, _) := spanOf_yes s H L b n hn hp
  have HK : Hid (∀ w, _) := iAddrOk_any s' H'.toInt L'.toInt
  have HH : Hid (∀ w, _) := has_any s H L n hn1 s' H' L'
  have eh : hadB s H L b s' H' L' = (okB s' H'.toInt L'.toInt && hasB s H L n s' H' L') := by rw [hadB, hp, ← hn]; rfl
  rw [eh]
  clear eh hp hn hn1
  generalize okB s' H'.toInt L'.toInt = B1 at HK ⊢
  generalize hasB s H L n s' H' L' = B2 at HH ⊢
  cases B1
  · rw [Bool.false_and]
    go_enter Try.func15, Try.ntmps15
    go_wp2_with fail
    refine (HS.out _).mono ?_
    rintro e w1 ⟨rfl, hb1⟩
    have hz1 := hb1.size
    try simp at hz1
    have f10 : w.heap.size < w1.heap.size := by omega
    have f11 : w.heap.size + 1 < w1.heap.size := by omega
    refine olds_k (w.heap.size + 2) hb1 ?_ ?_
    · first | omega | (simp; omega) | (simp; done)
    intro hc1 hf1
    go_wp2_with fail
    refine (HK.out _).mono ?_
    rintro e w2 ⟨rfl, hb2⟩
    have hz2 := hb2.size
    try simp at hz2
    have f2x0 : w.heap.size < w2.heap.size := by omega
    have f2x1 : w.heap.size + 1 < w2.heap.size := by omega
    have f2x2 : w1.heap.size < w2.heap.size := by omega
    have f2x3 : w.heap.size + 1 < w1.heap.size + 1 := by omega
    refine olds_k (w1.heap.size + 1) hb2 ?_ ?_
    · first | omega | (simp; omega) | (simp; done)
    intro hc2 hf2
    go_wp2_with fail
    go_ret
    refine ⟨rfl, ?_⟩
    repeat (first | with_reducible exact Below.refl _ _ | (with_reducible refine Below.drew ?_) | (with_reducible refine Below.alloc ?_ ?_ _; rotate_left; (focus (first | omega | (simp; omega) | (simp; done)))) | (with_reducible refine Below.setCell ?_ ?_ _; rotate_left; (focus (first | omega | (simp; omega) | (simp; done)))) | (with_reducible refine Below.trans ?_ (hb2.mono ?_); rotate_left; (focus (first | omega | (simp; omega) | (simp; done)))) | (with_reducible refine Below.trans ?_ (hb1.mono ?_); rotate_left; (focus (first | omega | (simp; omega) | (simp; done)))))
  · rw [Bool.true_and]
    go_enter Try.func15, Try.ntmps15
    go_wp2_with fail
    refine (HS.out _).mono ?_
    rintro e w1 ⟨rfl, hb1⟩
    have hz1 := hb1.size
    try simp at hz1
    have f10 : w.heap.size < w1.heap.size := by omega
    have f11 : w.heap.size + 1 < w1.heap.size := by omega
    refine olds_k (w.heap.size + 2) hb1 ?_ ?_
    · first | omega | (simp; omega) | (simp; done)
    intro hc1 hf1
    go_wp2_with fail
    refine (HK.out _).mono ?_
    rintro e w2 ⟨rfl, hb2⟩
    have hz2 := hb2.size
    try simp at hz2
    have f2x0 : w.heap.size < w2.heap.size := by omega
    have f2x1 : w.heap.size + 1 < w2.heap.size := by omega
    have f2x2 : w1.heap.size < w2.heap.size := by omega
    have f2x3 : w.heap.size + 1 < w1.heap.size + 1 := by omega
    refine olds_k (w1.heap.size + 1) hb2 ?_ ?_
    · first | omega | (simp; omega) | (simp; done)
    intro hc2 hf2
    go_wp2_with fail
    refine (HH.out _).mono ?_
    rintro e w3 ⟨rfl, hb3⟩
    have hz3 := hb3.size
    try simp at hz3
    have f30 : w.heap.size < w3.heap.size := by omega
    have f31 : w.heap.size + 1 < w3.heap.size := by omega
    refine olds_k (w.heap.size + 2) hb3 ?_ ?_
    · first | omega | (simp; omega) | (simp; done)
    intro hc3 hf3
    go_wp2_with fail
    go_ret
    refine ⟨rfl, ?_⟩
    repeat (first | with_reducible exact Below.refl _ _ | (with_reducible refine Below.drew ?_) | (with_reducible refine Below.alloc ?_ ?_ _; rotate_left; (focus (first | omega | (simp; omega) | (simp; done)))) | (with_reducible refine Below.setCell ?_ ?_ _; rotate_left; (focus (first | omega | (simp; omega) | (simp; done)))) | (with_reducible refine Below.trans ?_ (hb3.mono ?_); rotate_left; (focus (first | omega | (simp; omega) | (simp; done)))) | (with_reducible refine Below.trans ?_ (hb2.mono ?_); rotate_left; (focus (first | omega | (simp; omega) | (simp; done)))) | (with_reducible refine Below.trans ?_ (hb1.mono ?_); rotate_left; (focus (first | omega | (simp; omega) | (simp; done)))))

end Go.Proofs.Ytkpbidlcnjppkaa
namespace Go.Proofs.Ytkpbidlcnjppkaa
open Go.RowKit

set_option maxHeartbeats 1000000 in
theorem iPlaceOf_yes (s : Bool) (H L : BitVec 64) (b : Int) (s' : Bool) (H' L' : BitVec 64) (v : Int) (ok : Bool) (hh : hadB s H L b s' H' L' = true) (hg : (∀ w : World, Calls Try.prog 20 #[.agg #[.bool s, .int .i64 H.toInt, .int .i64 L.toInt], .agg #[.bool s', .int .i64 H'.toInt, .int .i64 L'.toInt]] w fun e w' => e = .returned (.tuple #[.int .i64 v, .bool ok]) ∧ Below w.heap.size w w')) (w : World) :
    Calls Try.prog 8 #[.agg #[.bool s, .int .i64 H.toInt, .int .i64 L.toInt, .int .i64 b], .agg #[.bool s', .int .i64 H'.toInt, .int .i64 L'.toInt]] w fun e w' => e = .returned (.tuple #[.int .i64 v, .bool ok]) ∧ Below w.heap.size w w' := by
  have HH : Hid (∀ w, _) := iHasAddr_any s H L b s' H' L'
  rw [hh] at HH
  have HG : Hid (∀ w : World, _) := hg
  clear hh hg
  go_enter Try.func8, Try.ntmps8
  go_wp2_with fail
  refine (HH.out _).mono ?_
  rintro e w1 ⟨rfl, hb1⟩
  have hz1 := hb1.size
  try simp at hz1
  have f10 : w.heap.size < w1.heap.size := by omega
  have f11 : w.heap.size + 1 < w1.heap.size := by omega
  refine olds_k (w.heap.size + 2) hb1 ?_ ?_
  · first | omega | (simp; omega) | (simp; done)
  intro hc1 hf1
  go_wp2_with fail
  refine (HG.out _).mono ?_
  rintro e w2 ⟨rfl, hb2⟩
  have hz2 := hb2.size
  try simp at hz2
  have f20 : w.heap.size < w2.heap.size := by omega
  have f21 : w.heap.size + 1 < w2.heap.size := by omega
  refine olds_k (w.heap.size + 2) hb2 ?_ ?_
  · first | omega | (simp; omega) | (simp; done)
  intro hc2 hf2
  go_wp2_with fail
  go_ret2
  refine ⟨rfl, ?_⟩
  repeat (first | with_reducible exact Below.refl _ _ | (with_reducible refine Below.drew ?_) | (with_reducible refine Below.alloc ?_ ?_ _; rotate_left; (focus (first | omega | (simp; omega) | (simp; done)))) | (with_reducible refine Below.setCell ?_ ?_ _; rotate_left; (focus (first | omega | (simp; omega) | (simp; done)))) | (with_reducible refine Below.trans ?_ (hb2.mono ?_); rotate_left; (focus (first | omega | (simp; omega) | (simp; done)))) | (with_reducible refine Below.trans ?_ (hb1.mono ?_); rotate_left; (focus (first | omega | (simp; omega) | (simp; done)))))

end Go.Proofs.Ytkpbidlcnjppkaa
namespace Go.Proofs.Ytkpbidlcnjppkaa
open Go.RowKit

/-- whether the span (s, H, L, n) lies in (s', H', L', m) -/
def withB (s : Bool) (H L : BitVec 64) (n : Nat) (s' : Bool) (H' L' : BitVec 64) (m : Nat) : Bool := decide (n ≤ m) && hasB s' H' L' m s H L

set_option maxHeartbeats 1000000 in
theorem within_any (s : Bool) (H L : BitVec 64) (n : Nat) (s' : Bool) (H' L' : BitVec 64) (m : Nat) (hm : m ≤ 128) (w : World) :
    Calls Try.prog 51 #[.agg #[.bool s, .int .i64 H.toInt, .int .i64 L.toInt, .int .i64 n], .agg #[.bool s', .int .i64 H'.toInt, .int .i64 L'.toInt, .int .i64 m]] w fun e w' => e = .returned (.bool (withB s H L n s' H' L' m)) ∧ Below w.heap.size w w' := by
  by_cases h : n ≤ m
  · rw [withB, decide_eq_true h, Bool.true_and]
    go_enter Try.func51, Try.ntmps51
    go_wp2_with fail
    refine (has_any s' H' L' m hm s H L _).mono ?_
    rintro e w1 ⟨rfl, hb1⟩
    have hz1 := hb1.size
    try simp at hz1
    have f10 : w.heap.size < w1.heap.size := by omega
    have f11 : w.heap.size + 1 < w1.heap.size := by omega
    refine olds_k (w.heap.size + 2) hb1 ?_ ?_
    · first | omega | (simp; omega) | (simp; done)
    intro hc1 hf1
    go_wp2_with fail
    go_ret
    refine ⟨rfl, ?_⟩
    repeat (first | with_reducible exact Below.refl _ _ | (with_reducible refine Below.drew ?_) | (with_reducible refine Below.alloc ?_ ?_ _; rotate_left; (focus (first | omega | (simp; omega) | (simp; done)))) | (with_reducible refine Below.setCell ?_ ?_ _; rotate_left; (focus (first | omega | (simp; omega) | (simp; done)))) | (with_reducible refine Below.trans ?_ (hb1.mono ?_); rotate_left; (focus (first | omega | (simp; omega) | (simp; done)))))
  · rw [withB, decide_eq_false h, Bool.false_and]
    go_enter Try.func51, Try.ntmps51
    go_wp2_with fail
    go_ret
    refine ⟨rfl, ?_⟩
    repeat (first | with_reducible exact Below.refl _ _ | (with_reducible refine Below.drew ?_) | (with_reducible refine Below.alloc ?_ ?_ _; rotate_left; (focus (first | omega | (simp; omega) | (simp; done)))) | (with_reducible refine Below.setCell ?_ ?_ _; rotate_left; (focus (first | omega | (simp; omega) | (simp; done)))))

end Go.Proofs.Ytkpbidlcnjppkaa
namespace Go.Proofs.Ytkpbidlcnjppkaa
open Go.RowKit

theorem okB_low (L : BitVec 64) (h : L.toNat < 4294967296) : okB false (0 : BitVec 64).toInt L.toInt = true := by
  have e := BitVec.toInt_eq_toNat_cond (x := L)
  have h1 : (0 : BitVec 64).toInt = 0 := by decide
  rw [h1]
  refine okB_yes _ ?_ ?_ <;> split at e <;> omega
theorem okB_fill (s : Bool) (H L : BitVec 64) (n : Nat) (hn : n ≤ wd s) (hok : okB s H.toInt L.toInt = true) : okB s (fH n H).toInt (fL n L).toInt = true := by
  cases s
  · obtain ⟨rfl, hL⟩ := okB_four H L hok
    have hn' : n ≤ 32 := by simpa [wd] using hn
    have z : (fH n (0 : BitVec 64)) = 0 := by simp [fH, mh_32 n hn']
    rw [z]
    exact okB_low _ (or_lt32 L _ hL (ml_lt n hn'))
  · exact okB_t _ _
theorem okB_clr (s : Bool) (H L : BitVec 64) (n : Nat) (hok : okB s H.toInt L.toInt = true) : okB s (cH n H).toInt (cL n L).toInt = true := by
  cases s
  · obtain ⟨rfl, hL⟩ := okB_four H L hok
    have z : (cH n (0 : BitVec 64)) = 0 := by simp [cH]
    rw [z]
    exact okB_low _ (and_lt32 L _ hL)
  · exact okB_t _ _

end Go.Proofs.Ytkpbidlcnjppkaa
namespace Go.Proofs.Ytkpbidlcnjppkaa
open Go.RowKit

/-- A span: where it begins, and how many bits are free. -/
structure Sp where
  s : Bool
  H : BitVec 64
  L : BitVec 64
  n : Nat

def Sp.ok (x : Sp) : Prop := okB x.s x.H.toInt x.L.toInt = true ∧ x.n ≤ wd x.s ∧ cH x.n x.H = x.H ∧ cL x.n x.L = x.L
def Sp.pre (x : Sp) : Pf := ⟨x.s, x.H, x.L, (wd x.s : Int) - x.n⟩
def Sp.spn (x : Sp) : Pf := ⟨x.s, x.H, x.L, x.n⟩
def wB (x y : Sp) : Bool := withB x.s x.H x.L x.n y.s y.H y.L y.n
def lowS (x : Sp) (k : Nat) : Sp := ⟨x.s, x.H, x.L, k⟩
def uppS (x : Sp) (k : Nat) : Sp := ⟨x.s, cH k (fH (k + 1) x.H), cL k (fL (k + 1) x.L), k⟩
def leftM : Nat → Sp → List Sp → List Sp
  | 0, x, l => if l.any (wB x) = true then [] else [x]
  | k + 1, x, l => if l.any (wB x) = true then [] else if l.filter (fun t => wB t x) = [] then [x] else leftM k (lowS x k) (l.filter fun t => wB t x) ++ leftM k (uppS x k) (l.filter fun t => wB t x)

theorem Sp.ok.pok {x : Sp} (h : x.ok) : pokB x.s x.H x.L ((wd x.s : Int) - x.n) = true := by
  obtain ⟨h1, h2, h3, h4⟩ := h
  have e : ((wd x.s : Int) - ((wd x.s : Int) - x.n)).toNat = x.n := by omega
  unfold pokB hasB
  rw [h1, e, h3, h4]
  have : decide (0 ≤ (wd x.s : Int) - x.n ∧ (wd x.s : Int) - x.n ≤ (wd x.s : Int)) = true := decide_eq_true (by omega)
  rw [this]; simp
theorem Sp.of_pok {p : Pf} (h : pokB p.s p.H p.L p.b = true) : ∃ x : Sp, x.ok ∧ x.pre = p := by
  obtain ⟨h1, h2, h3⟩ := pokB_parts h
  refine ⟨⟨p.s, p.H, p.L, ((wd p.s : Int) - p.b).toNat⟩, ⟨h1, by show ((wd p.s : Int) - p.b).toNat ≤ wd p.s; omega, ?_⟩, ?_⟩
  · unfold hasB at h3
    simp only [Bool.and_eq_true, beq_iff_eq] at h3
    exact h3.2
  · unfold Sp.pre
    obtain ⟨s, H, L, b⟩ := p
    simp only [Pf.mk.injEq, true_and]
    simp only at h2
    omega
theorem Sp.ok.le {x : Sp} (h : x.ok) : x.n ≤ 128 := Nat.le_trans h.2.1 (wd_le' x.s)
theorem wB_iff (x y : Sp) : wB x y = true ↔ x.n ≤ y.n ∧ x.s = y.s ∧ cH y.n x.H = y.H ∧ cL y.n x.L = y.L := by
  unfold wB withB hasB
  simp only [Bool.and_eq_true, decide_eq_true_eq, beq_iff_eq]
theorem c0H (H : BitVec 64) : cH 0 H = H := by
  unfold cH; rw [show ~~~ mh 0 = BitVec.allOnes 64 by decide, BitVec.and_allOnes]
theorem c0L (L : BitVec 64) : cL 0 L = L := by
  unfold cL; rw [show ~~~ ml 0 = BitVec.allOnes 64 by decide, BitVec.and_allOnes]
/-- A single address has nothing in it but itself. -/
theorem near_zero {x : Sp} (h0 : x.n = 0) {l : List Sp} (h : l.filter (fun t => wB t x) ≠ []) : l.any (wB x) = true := by
  obtain ⟨t, ht⟩ := List.exists_mem_of_ne_nil _ h
  obtain ⟨hm, hw⟩ := List.mem_filter.1 ht
  rw [List.any_eq_true]
  refine ⟨t, hm, ?_⟩
  obtain ⟨h1, h2, h3, h4⟩ := (wB_iff t x).1 hw
  have tn : t.n = 0 := by omega
  rw [h0, c0H] at h3
  rw [h0, c0L] at h4
  exact (wB_iff x t).2 ⟨by omega, h2.symm, by rw [tn, c0H, h3], by rw [tn, c0L, h4]⟩
theorem low_ok {x : Sp} {k : Nat} (h : x.ok) (hn : x.n = k + 1) : (lowS x k).ok := by
  obtain ⟨h1, h2, h3, h4⟩ := h
  rw [hn] at h2 h3 h4
  exact ⟨h1, by show k ≤ wd x.s; omega, cH_less k _ h3, cL_less k _ h4⟩
theorem upp_ok {x : Sp} {k : Nat} (h : x.ok) (hn : x.n = k + 1) : (uppS x k).ok := by
  obtain ⟨h1, h2, h3, h4⟩ := h
  rw [hn] at h2
  exact ⟨okB_clr x.s _ _ k (okB_fill x.s x.H x.L (k + 1) h2 h1), by show k ≤ wd x.s; omega, cH_idem k _, cL_idem k _⟩

end Go.Proofs.Ytkpbidlcnjppkaa
namespace Go.Proofs.Ytkpbidlcnjppkaa
open Go.RowKit

/-- An address as a number. -/
def adrN (H L : BitVec 64) : Nat := (H ++ L).toNat
def Sp.adr (x : Sp) : Nat := adrN x.H x.L

theorem adrN_inj {H L H' L' : BitVec 64} (h : adrN H L = adrN H' L') : H = H' ∧ L = L' := by
  have e : H ++ L = H' ++ L' := BitVec.eq_of_toNat_eq h
  constructor
  · apply BitVec.eq_of_getLsbD_eq
    intro i hi
    have := congrArg (fun v => v.getLsbD (64 + i)) e
    rw [BitVec.getLsbD_append, BitVec.getLsbD_append, if_neg (by omega), if_neg (by omega), Nat.add_sub_cancel_left] at this
    exact this
  · apply BitVec.eq_of_getLsbD_eq
    intro i hi
    have := congrArg (fun v => v.getLsbD i) e
    rw [BitVec.getLsbD_append, BitVec.getLsbD_append, if_pos hi, if_pos hi] at this
    exact this
theorem adr_bit (H L : BitVec 64) (i : Nat) : (adrN H L).testBit i = if i < 64 then L.getLsbD i else H.getLsbD (i - 64) := by
  unfold adrN
  rw [BitVec.testBit_toNat, BitVec.getLsbD_append]
theorem adr_lt (H L : BitVec 64) : adrN H L < 2 ^ 128 := (H ++ L).isLt

theorem clr_adr (n : Nat) (H L : BitVec 64) : adrN (cH n H) (cL n L) = adrN H L >>> n <<< n := by
  apply Nat.eq_of_testBit_eq
  intro i
  rw [adr_bit, Nat.testBit_shiftLeft, Nat.testBit_shiftRight, adr_bit]
  unfold cH cL
  by_cases h : i < 64
  · rw [if_pos h]
    simp only [BitVec.getLsbD_and, BitVec.getLsbD_not, ml_bit, h, decide_true, Bool.true_and]
    by_cases hn : n ≤ i
    · rw [show n + (i - n) = i by omega, if_pos h]
      simp [hn, show ¬ i < n by omega]
    · simp [hn, show i < n by omega]
  · rw [if_neg h]
    by_cases hi : i < 128
    · have h6 : i - 64 < 64 := by omega
      simp only [BitVec.getLsbD_and, BitVec.getLsbD_not, mh_bit, h6, decide_true, Bool.true_and]
      by_cases hn : n ≤ i
      · rw [show n + (i - n) = i by omega, if_neg h]
        simp [hn, show ¬ i - 64 + 64 < n by omega]
      · simp [hn, show i - 64 + 64 < n by omega]
    · have e : ∀ v : BitVec 64, v.getLsbD (i - 64) = false := fun v => BitVec.getLsbD_of_ge v _ (by omega)
      rw [e]
      by_cases hn : n ≤ i
      · rw [show n + (i - n) = i by omega, if_neg h, e]; simp
      · simp [hn]

theorem upp_adr (k : Nat) (hk : k < 128) (H L : BitVec 64) (h1 : cH (k + 1) H = H) (h2 : cL (k + 1) L = L) : adrN (cH k (fH (k + 1) H)) (cL k (fL (k + 1) L)) = adrN H L + 2 ^ k := by
  have e : adrN H L = adrN H L >>> (k + 1) <<< (k + 1) := by
    have := clr_adr (k + 1) H L
    rw [h1, h2] at this; exact this
  rw [e, Nat.shiftLeft_add_eq_or_of_lt (Nat.pow_lt_pow_right (by omega) (by omega)), ← e]
  apply Nat.eq_of_testBit_eq
  intro i
  have hz : i < k + 1 → (adrN H L).testBit i = false := fun hi => by
    rw [e, Nat.testBit_shiftLeft]; simp; omega
  rw [Nat.testBit_or, Nat.testBit_two_pow, adr_bit, adr_bit] at *
  unfold cH cL fH fL
  by_cases h : i < 64
  · rw [if_pos h] at hz ⊢
    rw [if_pos h]
    simp only [BitVec.getLsbD_and, BitVec.getLsbD_or, BitVec.getLsbD_not, ml_bit, h, decide_true, Bool.true_and]
    by_cases a : i < k
    · rw [hz (by omega)]; simp [a]; omega
    · by_cases b : i = k
      · subst b; simp
      · simp [a, show ¬ i < k + 1 by omega, show ¬ k = i by omega]
  · rw [if_neg h] at hz ⊢
    rw [if_neg h]
    by_cases hi : i < 128
    · have h6 : i - 64 < 64 := by omega
      simp only [BitVec.getLsbD_and, BitVec.getLsbD_or, BitVec.getLsbD_not, mh_bit, h6, decide_true, Bool.true_and]
      by_cases a : i < k
      · rw [hz (by omega)]; simp [show i - 64 + 64 < k by omega]; omega
      · by_cases b : i = k
        · subst b; simp [show ¬ i - 64 + 64 < i by omega, show i - 64 + 64 < i + 1 by omega]
        · simp [show ¬ i - 64 + 64 < k by omega, show ¬ i - 64 + 64 < k + 1 by omega, show ¬ k = i by omega]
    · have ez : ∀ v : BitVec 64, v.getLsbD (i - 64) = false := fun v => BitVec.getLsbD_of_ge v _ (by omega)
      rw [ez, ez]
      simp; omega

theorem ok_mult {x : Sp} (h : x.ok) : x.adr = x.adr / 2 ^ x.n * 2 ^ x.n := by
  have e := clr_adr x.n x.H x.L
  rw [h.2.2.1, h.2.2.2] at e
  rw [Nat.shiftRight_eq_div_pow, Nat.shiftLeft_eq] at e
  exact e
/-- A single address lies in a span. -/
theorem one_in {t x : Sp} (ht : t.n = 0) (hx : x.ok) : wB t x = true ↔ t.s = x.s ∧ x.adr ≤ t.adr ∧ t.adr < x.adr + 2 ^ x.n := by
  have hm := ok_mult hx
  have hp : 0 < 2 ^ x.n := Nat.pow_pos (by omega)
  have e := clr_adr x.n t.H t.L
  rw [Nat.shiftRight_eq_div_pow, Nat.shiftLeft_eq] at e
  rw [wB_iff]
  constructor
  · rintro ⟨_, hs, h1, h2⟩
    rw [h1, h2] at e
    have e2 : x.adr = t.adr / 2 ^ x.n * 2 ^ x.n := e
    refine ⟨hs, ?_, ?_⟩
    · rw [e2]; exact Nat.div_mul_le_self _ _
    · rw [e2]
      have := Nat.lt_div_mul_add (a := t.adr) hp
      omega
  · rintro ⟨hs, h1, h2⟩
    have hq : t.adr / 2 ^ x.n = x.adr / 2 ^ x.n := by
      rw [hm] at h1 h2
      apply Nat.div_eq_of_lt_le
      · exact h1
      · rw [Nat.succ_mul]; exact h2
    have e3 : adrN (cH x.n t.H) (cL x.n t.L) = adrN x.H x.L := by
      rw [e]
      show t.adr / 2 ^ x.n * 2 ^ x.n = x.adr
      rw [hq]; exact hm.symm
    obtain ⟨a, b⟩ := adrN_inj e3
    exact ⟨by omega, hs, a, b⟩

theorem left_head : ∀ (k : Nat) (x : Sp) (T : List Sp), x.ok → x.n = k → (∀ t ∈ T, t.n = 0) →
    (leftM k x T = [] → ∀ m, m < 2 ^ k → ∃ t ∈ T, t.s = x.s ∧ t.adr = x.adr + m) ∧
    (∀ z r, leftM k x T = z :: r → z.s = x.s ∧ ∃ m, m < 2 ^ k ∧ z.adr = x.adr + m ∧ (∀ t ∈ T, t.s = x.s → t.adr ≠ x.adr + m) ∧ ∀ j, j < m → ∃ t ∈ T, t.s = x.s ∧ t.adr = x.adr + j)
  | 0, x, T, hx, hn, hT => by
      unfold leftM
      by_cases ha : T.any (wB x) = true
      · rw [if_pos ha]
        refine ⟨fun _ m hm => ?_, (fun z r h => nomatch h)⟩
        obtain ⟨t, ht, hw⟩ := List.any_eq_true.1 ha
        rw [wB_iff, hT t ht, c0H, c0L] at hw
        have : m = 0 := by simpa using hm
        subst this
        exact ⟨t, ht, hw.2.1.symm, by unfold Sp.adr; rw [hw.2.2.1, hw.2.2.2]; rfl⟩
      · rw [if_neg ha]
        refine ⟨(fun h => nomatch h), fun z r h => ?_⟩
        cases h
        refine ⟨rfl, 0, by simp, by simp, fun t ht hs he => ha ?_, fun j hj => by omega⟩
        obtain ⟨a, b⟩ := adrN_inj (show adrN t.H t.L = adrN x.H x.L from he)
        refine List.any_eq_true.2 ⟨t, ht, ?_⟩
        rw [wB_iff, hT t ht, c0H, c0L]
        exact ⟨by omega, hs.symm, a.symm, b.symm⟩
  | k + 1, x, T, hx, hn, hT => by
      have hxn := hx.2.1
      have hw := wd_le' x.s
      have hpow : (2 : Nat) ^ (k + 1) = 2 ^ k + 2 ^ k := by rw [Nat.pow_succ]; omega
      have hp : 0 < 2 ^ k := Nat.pow_pos (by omega)
      have ha : ¬ T.any (wB x) = true := fun ha => by
        obtain ⟨t, ht, hw⟩ := List.any_eq_true.1 ha
        rw [wB_iff, hT t ht] at hw
        omega
      have hin : ∀ t ∈ T, t.s = x.s → x.adr ≤ t.adr → t.adr < x.adr + 2 ^ (k + 1) → t ∈ T.filter (fun t => wB t x) := fun t ht hs h1 h2 =>
        List.mem_filter.2 ⟨ht, (one_in (hT t ht) hx).2 ⟨hs, h1, by rw [hn]; exact h2⟩⟩
      have hT' : ∀ t ∈ T.filter (fun t => wB t x), t.n = 0 := fun t ht => hT t (List.mem_filter.1 ht).1
      unfold leftM
      rw [if_neg ha]
      by_cases hf : T.filter (fun t => wB t x) = []
      · rw [if_pos hf]
        refine ⟨(fun h => nomatch h), fun z r h => ?_⟩
        cases h
        refine ⟨rfl, 0, by omega, by omega, fun t ht hs he => ?_, fun j hj => by omega⟩
        have := hin t ht hs (by omega) (by omega)
        rw [hf] at this
        cases this
      · rw [if_neg hf]
        have hl := left_head k (lowS x k) (T.filter fun t => wB t x) (low_ok hx hn) rfl hT'
        have hu := left_head k (uppS x k) (T.filter fun t => wB t x) (upp_ok hx hn) rfl hT'
        have el : (lowS x k).adr = x.adr := rfl
        have eu : (uppS x k).adr = x.adr + 2 ^ k := upp_adr k (by omega) x.H x.L (by rw [← hn]; exact hx.2.2.1) (by rw [← hn]; exact hx.2.2.2)
        have sl : (lowS x k).s = x.s := rfl
        have su : (uppS x k).s = x.s := rfl
        rw [el, sl] at hl
        rw [eu, su] at hu
        have up : ∀ {m}, (∃ t ∈ T.filter (fun t => wB t x), t.s = x.s ∧ t.adr = m) → ∃ t ∈ T, t.s = x.s ∧ t.adr = m := fun ⟨t, ht, h⟩ => ⟨t, (List.mem_filter.1 ht).1, h⟩
        cases hlow : leftM k (lowS x k) (T.filter fun t => wB t x) with
        | nil =>
          have h0 := hl.1 hlow
          rw [List.nil_append]
          refine ⟨fun h m hm => ?_, fun z r h => ?_⟩
          · by_cases hm2 : m < 2 ^ k
            · exact up (h0 m hm2)
            · have := hu.1 h (m - 2 ^ k) (by omega)
              rw [show x.adr + 2 ^ k + (m - 2 ^ k) = x.adr + m by omega] at this
              exact up this
          · obtain ⟨hs, m, hm, he, hfr, hbe⟩ := hu.2 z r h
            refine ⟨hs, 2 ^ k + m, by omega, by omega, fun t ht hts hte => ?_, fun j hj => ?_⟩
            · exact hfr t (hin t ht hts (by omega) (by omega)) hts (by omega)
            · by_cases hj2 : j < 2 ^ k
              · exact up (h0 j hj2)
              · have := hbe (j - 2 ^ k) (by omega)
                rw [show x.adr + 2 ^ k + (j - 2 ^ k) = x.adr + j by omega] at this
                exact up this
        | cons z0 r0 =>
          rw [List.cons_append]
          refine ⟨(fun h => nomatch h), fun z r h => ?_⟩
          cases h
          obtain ⟨hs, m, hm, he, hfr, hbe⟩ := hl.2 z0 r0 hlow
          refine ⟨hs, m, by omega, he, fun t ht hts hte => ?_, fun j hj => up (hbe j hj)⟩
          exact hfr t (hin t ht hts (by omega) (by omega)) hts hte

end Go.Proofs.Ytkpbidlcnjppkaa
namespace Go.Proofs.Ytkpbidlcnjppkaa
open Go.RowKit

set_option maxHeartbeats 1000000 in
theorem sNthOf_past (s : Bool) (H L : BitVec 64) (b m : Int) (S : Bool) (X Y : BitVec 64) (hp : pokB s H L b = true) (ha : (∀ w : World, Calls Try.prog 13 #[.agg #[.bool s, .int .i64 H.toInt, .int .i64 L.toInt], .int .i64 m] w fun e w' => e = .returned (.tuple #[.agg #[.bool S, .int .i64 X.toInt, .int .i64 Y.toInt], .bool false]) ∧ Below w.heap.size w w')) (w : World) :
    Calls Try.prog 19 #[.agg #[.bool s, .int .i64 H.toInt, .int .i64 L.toInt, .int .i64 b], .int .i64 m] w fun e w' => e = .returned (.tuple #[.agg #[.bool false, .int .i64 0, .int .i64 0], .bool false]) ∧ Below w.heap.size w w' := by
  have HA : Hid (∀ w : World, _) := ha
  clear ha
  have HP : Hid (∀ w, _) := sPrefixOk_any s H L b
  rw [hp] at HP
  clear hp
  go_enter Try.func19, Try.ntmps19
  go_wp2_with fail
  refine (HP.out _).mono ?_
  rintro e w1 ⟨rfl, hb1⟩
  have hz1 := hb1.size
  try simp at hz1
  have f10 : w.heap.size < w1.heap.size := by omega
  have f11 : w.heap.size + 1 < w1.heap.size := by omega
  refine olds_k (w.heap.size + 2) hb1 ?_ ?_
  · first | omega | (simp; omega) | (simp; done)
  intro hc1 hf1
  go_wp2_with fail
  refine (HA.out _).mono ?_
  rintro e w2 ⟨rfl, hb2⟩
  have hz2 := hb2.size
  try simp at hz2
  have f20 : w.heap.size < w2.heap.size := by omega
  have f21 : w.heap.size + 1 < w2.heap.size := by omega
  refine olds_k (w.heap.size + 2) hb2 ?_ ?_
  · first | omega | (simp; omega) | (simp; done)
  intro hc2 hf2
  go_wp2_with fail
  refine bodyPost_ret (v := .tuple #[.agg #[.bool false, .int .i64 0, .int .i64 0], .bool false]) (by simp [results, Try.results19, go_sem, hc1, hc2, f21]) rfl ⟨rfl, ?_⟩
  repeat (first | with_reducible exact Below.refl _ _ | (with_reducible refine Below.drew ?_) | (with_reducible refine Below.alloc ?_ ?_ _; rotate_left; (focus (first | omega | (simp; omega) | (simp; done)))) | (with_reducible refine Below.setCell ?_ ?_ _; rotate_left; (focus (first | omega | (simp; omega) | (simp; done)))) | (with_reducible refine Below.trans ?_ (hb2.mono ?_); rotate_left; (focus (first | omega | (simp; omega) | (simp; done)))) | (with_reducible refine Below.trans ?_ (hb1.mono ?_); rotate_left; (focus (first | omega | (simp; omega) | (simp; done)))))

set_option maxHeartbeats 1000000 in
theorem sNthOf_off (s : Bool) (H L : BitVec 64) (b m : Int) (S : Bool) (X Y : BitVec 64) (hp : pokB s H L b = true) (ha : (∀ w : World, Calls Try.prog 13 #[.agg #[.bool s, .int .i64 H.toInt, .int .i64 L.toInt], .int .i64 m] w fun e w' => e = .returned (.tuple #[.agg #[.bool S, .int .i64 X.toInt, .int .i64 Y.toInt], .bool true]) ∧ Below w.heap.size w w')) (hh : hadB s H L b S X Y = false) (w : World) :
    Calls Try.prog 19 #[.agg #[.bool s, .int .i64 H.toInt, .int .i64 L.toInt, .int .i64 b], .int .i64 m] w fun e w' => e = .returned (.tuple #[.agg #[.bool false, .int .i64 0, .int .i64 0], .bool false]) ∧ Below w.heap.size w w' := by
  have HA : Hid (∀ w : World, _) := ha
  have HH : Hid (∀ w, _) := sHasAddr_any s H L b S X Y
  rw [hh] at HH
  clear ha hh
  have HP : Hid (∀ w, _) := sPrefixOk_any s H L b
  rw [hp] at HP
  clear hp
  go_enter Try.func19, Try.ntmps19
  go_wp2_with fail
  refine (HP.out _).mono ?_
  rintro e w1 ⟨rfl, hb1⟩
  have hz1 := hb1.size
  try simp at hz1
  have f10 : w.heap.size < w1.heap.size := by omega
  have f11 : w.heap.size + 1 < w1.heap.size := by omega
  refine olds_k (w.heap.size + 2) hb1 ?_ ?_
  · first | omega | (simp; omega) | (simp; done)
  intro hc1 hf1
  go_wp2_with fail
  refine (HA.out _).mono ?_
  rintro e w2 ⟨rfl, hb2⟩
  have hz2 := hb2.size
  try simp at hz2
  have f20 : w.heap.size < w2.heap.size := by omega
  have f21 : w.heap.size + 1 < w2.heap.size := by omega
  refine olds_k (w.heap.size + 2) hb2 ?_ ?_
  · first | omega | (simp; omega) | (simp; done)
  intro hc2 hf2
  have q2 : w.heap.size + 1 < w2.heap.size + 1 := by omega
  have q3 : w.heap.size < w2.heap.size + 1 := by omega
  go_wp2_with fail
  refine (HH.out _).mono ?_
  rintro e w3 ⟨rfl, hb3⟩
  have hz3 := hb3.size
  try simp at hz3
  have f3x0 : w.heap.size + 1 < w3.heap.size := by omega
  have f3x1 : w2.heap.size < w3.heap.size := by omega
  refine olds_k (w2.heap.size + 1) hb3 ?_ ?_
  · first | omega | (simp; omega) | (simp; done)
  intro hc3 hf3
  go_wp2_with fail
  refine bodyPost_ret (v := .tuple #[.agg #[.bool false, .int .i64 0, .int .i64 0], .bool false]) (by simp [results, Try.results19, go_sem, hc1, hc2, hc3, f21, q2]) rfl ⟨rfl, ?_⟩
  repeat (first | with_reducible exact Below.refl _ _ | (with_reducible refine Below.drew ?_) | (with_reducible refine Below.alloc ?_ ?_ _; rotate_left; (focus (first | omega | (simp; omega) | (simp; done)))) | (with_reducible refine Below.setCell ?_ ?_ _; rotate_left; (focus (first | omega | (simp; omega) | (simp; done)))) | (with_reducible refine Below.trans ?_ (hb3.mono ?_); rotate_left; (focus (first | omega | (simp; omega) | (simp; done)))) | (with_reducible refine Below.trans ?_ (hb2.mono ?_); rotate_left; (focus (first | omega | (simp; omega) | (simp; done)))) | (with_reducible refine Below.trans ?_ (hb1.mono ?_); rotate_left; (focus (first | omega | (simp; omega) | (simp; done)))))

set_option maxHeartbeats 1000000 in
theorem sNthOf_yes (s : Bool) (H L : BitVec 64) (b m : Int) (S : Bool) (X Y : BitVec 64) (hp : pokB s H L b = true) (ha : (∀ w : World, Calls Try.prog 13 #[.agg #[.bool s, .int .i64 H.toInt, .int .i64 L.toInt], .int .i64 m] w fun e w' => e = .returned (.tuple #[.agg #[.bool S, .int .i64 X.toInt, .int .i64 Y.toInt], .bool true]) ∧ Below w.heap.size w w')) (hh : hadB s H L b S X Y = true) (w : World) :
    Calls Try.prog 19 #[.agg #[.bool s, .int .i64 H.toInt, .int .i64 L.toInt, .int .i64 b], .int .i64 m] w fun e w' => e = .returned (.tuple #[.agg #[.bool S, .int .i64 X.toInt, .int .i64 Y.toInt], .bool true]) ∧ Below w.heap.size w w' := by
  have HA : Hid (∀ w : World, _) := ha
  have HH : Hid (∀ w, _) := sHasAddr_any s H L b S X Y
  rw [hh] at HH
  clear ha hh
  have HP : Hid (∀ w, _) := sPrefixOk_any s H L b
  rw [hp] at HP
  clear hp
  go_enter Try.func19, Try.ntmps19
  go_wp2_with fail
  refine (HP.out _).mono ?_
  rintro e w1 ⟨rfl, hb1⟩
  have hz1 := hb1.size
  try simp at hz1
  have f10 : w.heap.size < w1.heap.size := by omega
  have f11 : w.heap.size + 1 < w1.heap.size := by omega
  refine olds_k (w.heap.size + 2) hb1 ?_ ?_
  · first | omega | (simp; omega) | (simp; done)
  intro hc1 hf1
  go_wp2_with fail
  refine (HA.out _).mono ?_
  rintro e w2 ⟨rfl, hb2⟩
  have hz2 := hb2.size
  try simp at hz2
  have f20 : w.heap.size < w2.heap.size := by omega
  have f21 : w.heap.size + 1 < w2.heap.size := by omega
  refine olds_k (w.heap.size + 2) hb2 ?_ ?_
  · first | omega | (simp; omega) | (simp; done)
  intro hc2 hf2
  have q2 : w.heap.size + 1 < w2.heap.size + 1 := by omega
  have q3 : w.heap.size < w2.heap.size + 1 := by omega
  go_wp2_with fail
  refine (HH.out _).mono ?_
  rintro e w3 ⟨rfl, hb3⟩
  have hz3 := hb3.size
  try simp at hz3
  have f3x0 : w.heap.size + 1 < w3.heap.size := by omega
  have f3x1 : w2.heap.size < w3.heap.size := by omega
  refine olds_k (w2.heap.size + 1) hb3 ?_ ?_
  · first | omega | (simp; omega) | (simp; done)
  intro hc3 hf3
  go_wp2_with fail
  refine bodyPost_ret (v := .tuple #[.agg #[.bool S, .int .i64 X.toInt, .int .i64 Y.toInt], .bool true]) (by simp [results, Try.results19, go_sem, hc1, hc2, hc3, f21, q2]) rfl ⟨rfl, ?_⟩
  repeat (first | with_reducible exact Below.refl _ _ | (with_reducible refine Below.drew ?_) | (with_reducible refine Below.alloc ?_ ?_ _; rotate_left; (focus (first | omega | (simp; omega) | (simp; done)))) | (with_reducible refine Below.setCell ?_ ?_ _; rotate_left; (focus (first | omega | (simp; omega) | (simp; done)))) | (with_reducible refine Below.trans ?_ (hb3.mono ?_); rotate_left; (focus (first | omega | (simp; omega) | (simp; done)))) | (with_reducible refine Below.trans ?_ (hb2.mono ?_); rotate_left; (focus (first | omega | (simp; omega) | (simp; done)))) | (with_reducible refine Below.trans ?_ (hb1.mono ?_); rotate_left; (focus (first | omega | (simp; omega) | (simp; done)))))

end Go.Proofs.Ytkpbidlcnjppkaa
namespace Go.Proofs.Ytkpbidlcnjppkaa
open Go.RowKit

theorem adrN_eq (H L : BitVec 64) : adrN H L = H.toNat * 18446744073709551616 + L.toNat := by
  unfold adrN
  rw [BitVec.toNat_append, ← Nat.shiftLeft_add_eq_or_of_lt L.isLt, Nat.shiftLeft_eq]
theorem bvI {x : Int} (h : -9223372036854775808 ≤ x ∧ x ≤ 9223372036854775807) : (BitVec.ofInt 64 x).toInt = x := by
  rw [BitVec.toInt_ofInt, Int.bmod_def]
  omega
theorem toInt_N (L : BitVec 64) : L.toInt % 18446744073709551616 = (L.toNat : Int) := by
  have h := L.isLt
  rw [BitVec.toInt_eq_toNat_cond]
  split <;> omega
theorem lo_num (L : BitVec 64) (n : Nat) (_hn : n ≤ 300) : wrap64 (IntKind.u64.wrap (IntKind.u64.wrap L.toInt + IntKind.u64.wrap (n : Int))) = (L + BitVec.ofNat 64 n).toInt := by
  have e := toInt_N (L + BitVec.ofNat 64 n)
  have e2 := toInt_N L
  have h := (L + BitVec.ofNat 64 n).isLt
  rw [BitVec.toNat_add, BitVec.toNat_ofNat] at e h
  rw [IntKind.wrap_u64, IntKind.wrap_u64, IntKind.wrap_u64, e2]
  have e3 := BitVec.toInt_eq_toNat_cond (L + BitVec.ofNat 64 n)
  rw [BitVec.toNat_add, BitVec.toNat_ofNat] at e3
  have hL := L.isLt
  unfold wrap64
  split at e3 <;> omega
theorem hi_num (H : BitVec 64) : wrap64 (IntKind.u64.wrap (IntKind.u64.wrap H.toInt + 1)) = (H + 1).toInt := by
  have h := lo_num H 1 (by omega)
  rw [IntKind.wrap_u64 ((1 : Nat) : Int)] at h
  exact h

/-- AddTo by numbers. -/
theorem sAdd_num (s : Bool) (H L : BitVec 64) (hok : okB s H.toInt L.toInt = true) (n : Nat) (hn : n ≤ 300) :
    (∃ X Y : BitVec 64, adrN X Y = adrN H L + n ∧ okB s X.toInt Y.toInt = true ∧ ∀ w : World, Calls Try.prog 13 #[.agg #[.bool s, .int .i64 H.toInt, .int .i64 L.toInt], .int .i64 n] w fun e w' => e = .returned (.tuple #[.agg #[.bool s, .int .i64 X.toInt, .int .i64 Y.toInt], .bool true]) ∧ Below w.heap.size w w') ∨
    (2 ^ wd s ≤ adrN H L + n ∧ ∀ w : World, Calls Try.prog 13 #[.agg #[.bool s, .int .i64 H.toInt, .int .i64 L.toInt], .int .i64 n] w fun e w' => e = .returned (.tuple #[.agg #[.bool false, .int .i64 (0 : BitVec 64).toInt, .int .i64 (0 : BitVec 64).toInt], .bool false]) ∧ Below w.heap.size w w') := by
  have hz : Nrm s H.toInt L.toInt s H.toInt L.toInt := Or.inl ⟨hok, rfl, rfl, rfl⟩
  have hHl := H.isLt
  have hLl := L.isLt
  have ea := adrN_eq H L
  cases s
  · obtain ⟨h0, hL⟩ := okB_four H L hok
    subst h0
    have eL : L.toInt = (L.toNat : Int) := by
      have := BitVec.toInt_eq_toNat_cond L
      split at this <;> omega
    have e0 : (0 : BitVec 64).toNat = 0 := rfl
    by_cases hle : n ≤ 4294967295 - L.toNat
    · refine Or.inl ⟨0, L + BitVec.ofNat 64 n, ?_, ?_, fun w => ?_⟩
      · rw [adrN_eq, ea, BitVec.toNat_add, BitVec.toNat_ofNat, e0]; omega
      · exact okB_low _ (by rw [BitVec.toNat_add, BitVec.toNat_ofNat]; omega)
      · have h := sAddTo_four false (0 : BitVec 64).toInt L.toInt n (0 : BitVec 64).toInt L.toInt hz (by omega) (by omega) (by omega) (by omega) (by omega) w
        have e : L.toInt + (n : Int) = (L + BitVec.ofNat 64 n).toInt := by
          have h1 := BitVec.toInt_eq_toNat_cond (L + BitVec.ofNat 64 n)
          rw [BitVec.toNat_add, BitVec.toNat_ofNat] at h1
          split at h1 <;> omega
        rw [e] at h
        exact h
    · refine Or.inr ⟨by show (2 ^ 32 : Nat) ≤ _; rw [ea, e0]; omega, fun w => ?_⟩
      exact sAddTo_fourno false (0 : BitVec 64).toInt L.toInt n (0 : BitVec 64).toInt L.toInt hz (by omega) (by omega) (by omega) (by omega) (by omega) w
  · have eu : IntKind.u64.wrap L.toInt = (L.toNat : Int) := by rw [IntKind.wrap_u64]; exact toInt_N L
    have en : IntKind.u64.wrap (n : Int) = (n : Int) := by rw [IntKind.wrap_u64]; omega
    by_cases hc : L.toNat + n < 18446744073709551616
    · refine Or.inl ⟨H, L + BitVec.ofNat 64 n, ?_, okB_t _ _, fun w => ?_⟩
      · rw [adrN_eq, ea, BitVec.toNat_add, BitVec.toNat_ofNat]; omega
      · have h := sAddTo_six true H.toInt L.toInt n H.toInt L.toInt hz (by omega) (hidP (less_0 L.toInt n (by rw [eu, en]; omega))) w
        rw [lo_num L n hn] at h
        exact h
    · by_cases hH : H.toNat + 1 < 18446744073709551616
      · refine Or.inl ⟨H + 1, L + BitVec.ofNat 64 n, ?_, okB_t _ _, fun w => ?_⟩
        · rw [adrN_eq, ea, BitVec.toNat_add, BitVec.toNat_add, BitVec.toNat_ofNat]
          have : (1 : BitVec 64).toNat = 1 := rfl
          omega
        · have hg : ((wrap64 (IntKind.u64.wrap (IntKind.u64.wrap H.toInt + 1))) == 0) = false := by
            rw [hi_num, beq_eq_false_iff_ne]
            intro h
            have h1 := toInt_N (H + 1)
            rw [h, BitVec.toNat_add] at h1
            have : (1 : BitVec 64).toNat = 1 := rfl
            omega
          have h := sAddTo_sixc true H.toInt L.toInt n H.toInt L.toInt hz (by omega) (hidP (less_1 L.toInt n (by rw [eu, en]; omega))) hg w
          rw [lo_num L n hn, hi_num] at h
          exact h
      · refine Or.inr ⟨by show (2 ^ 128 : Nat) ≤ _; rw [ea]; omega, fun w => ?_⟩
        have hg : ((wrap64 (IntKind.u64.wrap (IntKind.u64.wrap H.toInt + 1))) == 0) = true := by
          rw [hi_num, beq_iff_eq]
          have h1 : H + 1 = 0 := by
            apply BitVec.eq_of_toNat_eq
            rw [BitVec.toNat_add]
            have : (1 : BitVec 64).toNat = 1 := rfl
            have : (0 : BitVec 64).toNat = 0 := rfl
            omega
          rw [h1]; rfl
        exact sAddTo_sixno true H.toInt L.toInt n H.toInt L.toInt hz (by omega) (hidP (less_1 L.toInt n (by rw [eu, en]; omega))) hg w

theorem adr_wd {x : Sp} (hx : x.ok) : x.adr < 2 ^ wd x.s := by
  have ho := hx.1
  have e := adrN_eq x.H x.L
  cases hs : x.s
  · rw [hs] at ho
    obtain ⟨h0, hL⟩ := okB_four x.H x.L ho
    show adrN x.H x.L < 2 ^ 32
    rw [e, h0]
    have : (0 : BitVec 64).toNat = 0 := rfl
    omega
  · exact adr_lt x.H x.L
theorem adr_end {x : Sp} (hx : x.ok) : x.adr + 2 ^ x.n ≤ 2 ^ wd x.s := by
  have h1 := adr_wd hx
  have hm := ok_mult hx
  have hp : 0 < 2 ^ x.n := Nat.pow_pos (by omega)
  have e : (2 : Nat) ^ wd x.s = 2 ^ (wd x.s - x.n) * 2 ^ x.n := by rw [← Nat.pow_add]; congr 1; have := hx.2.1; omega
  rw [e] at h1 ⊢
  rw [hm] at h1 ⊢
  have h2 := Nat.lt_of_mul_lt_mul_right h1
  have h3 := Nat.mul_le_mul_right (2 ^ x.n) h2
  rw [Nat.succ_mul] at h3
  exact h3

/-- Whether an address that is right is the span's. -/
theorem had_num {x : Sp} (hx : x.ok) (S : Bool) (X Y : BitVec 64) (hok : okB S X.toInt Y.toInt = true) : hadB x.s x.H x.L ((wd x.s : Int) - x.n) S X Y = decide (S = x.s ∧ x.adr ≤ adrN X Y ∧ adrN X Y < x.adr + 2 ^ x.n) := by
  have h := one_in (t := ⟨S, X, Y, 0⟩) (x := x) rfl hx
  unfold hadB
  rw [hx.pok, hok, Bool.true_and, Bool.true_and]
  have e : ((wd x.s : Int) - ((wd x.s : Int) - x.n)).toNat = x.n := by omega
  rw [e]
  have e2 : wB ⟨S, X, Y, 0⟩ x = hasB x.s x.H x.L x.n S X Y := by
    unfold wB withB
    rw [decide_eq_true (Nat.zero_le _), Bool.true_and]
  rw [← e2]
  cases hb : wB ⟨S, X, Y, 0⟩ x
  · refine (decide_eq_false fun hc => ?_).symm
    rw [h.2 hc] at hb; cases hb
  · exact (decide_eq_true (h.1 hb)).symm

theorem nth_yes {x : Sp} (hx : x.ok) (n : Nat) (hn : n < 2 ^ x.n) (h3 : n ≤ 300) : ∃ X Y : BitVec 64, adrN X Y = x.adr + n ∧ okB x.s X.toInt Y.toInt = true ∧
    ∀ w : World, Calls Try.prog 19 #[.agg #[.bool x.s, .int .i64 x.H.toInt, .int .i64 x.L.toInt, .int .i64 ((wd x.s : Int) - x.n)], .int .i64 n] w fun e w' => e = .returned (.tuple #[.agg #[.bool x.s, .int .i64 X.toInt, .int .i64 Y.toInt], .bool true]) ∧ Below w.heap.size w w' := by
  have he := adr_end hx
  rcases sAdd_num x.s x.H x.L hx.1 n h3 with ⟨X, Y, ha, hok, hc⟩ | ⟨hp, _⟩
  · refine ⟨X, Y, ha, hok, fun w => sNthOf_yes x.s x.H x.L ((wd x.s : Int) - x.n) n x.s X Y hx.pok hc ?_ w⟩
    rw [had_num hx x.s X Y hok]
    have : adrN x.H x.L = x.adr := rfl
    exact decide_eq_true ⟨rfl, by omega, by omega⟩
  · exfalso
    have : adrN x.H x.L = x.adr := rfl
    omega
theorem nth_no {x : Sp} (hx : x.ok) (n : Nat) (hn : 2 ^ x.n ≤ n) (h3 : n ≤ 300) :
    ∀ w : World, Calls Try.prog 19 #[.agg #[.bool x.s, .int .i64 x.H.toInt, .int .i64 x.L.toInt, .int .i64 ((wd x.s : Int) - x.n)], .int .i64 n] w fun e w' => e = .returned (.tuple #[.agg #[.bool false, .int .i64 0, .int .i64 0], .bool false]) ∧ Below w.heap.size w w' := by
  rcases sAdd_num x.s x.H x.L hx.1 n h3 with ⟨X, Y, ha, hok, hc⟩ | ⟨_, hc⟩
  · refine fun w => sNthOf_off x.s x.H x.L ((wd x.s : Int) - x.n) n x.s X Y hx.pok hc ?_ w
    rw [had_num hx x.s X Y hok]
    have : adrN x.H x.L = x.adr := rfl
    exact decide_eq_false (by omega)
  · exact fun w => sNthOf_past x.s x.H x.L ((wd x.s : Int) - x.n) n false 0 0 hx.pok hc w

end Go.Proofs.Ytkpbidlcnjppkaa
namespace Go.Proofs.Ytkpbidlcnjppkaa
open Go.RowKit

/-- n farther is past the last address. -/
def PastI (s : Bool) (h l n : Int) : Prop := (if s then 340282366920938463463374607431768211456 else 4294967296) ≤ uwd h * 18446744073709551616 + uwd l + n
theorem addTo_v3 (s : Bool) (h l n : Int) (hok : okB s h l = true) (wh : -9223372036854775808 ≤ h ∧ h ≤ 9223372036854775807) (wl : -9223372036854775808 ≤ l ∧ l ≤ 9223372036854775807) (wn : n ≤ 9223372036854775807) (hn0 : 0 ≤ n) :
    ∃ (S : Bool) (H L : Int) (ok : Bool),
      (∀ w : World, Calls Try.prog 22 #[.agg #[.bool s, .int .i64 h, .int .i64 l], .int .i64 n] w fun e w' => e = .returned (.tuple #[.agg #[.bool S, .int .i64 H, .int .i64 L], .bool ok]) ∧ Below w.heap.size w w') ∧ AddI s h l n S H L ok ∧ (ok = false → PastI s h l n) := by
  have hz : Nrm s h l s h l := Or.inl ⟨hok, rfl, rfl, rfl⟩
  have a1 := add64 (IntKind.u64.wrap l) (IntKind.u64.wrap n) 0 (Word_u _) (Word_u _) Bit0
  cases s
  · have h3 : h = 0 ∧ 0 ≤ l ∧ l ≤ 4294967295 := by simp [okB] at hok; exact hok
    obtain ⟨rfl, h0, h1⟩ := h3
    have ec := four_c l n h0 h1 hn0 wn
    rw [ec] at a1
    have a2 := add64 (IntKind.u64.wrap 0) 0 0 (Word_u _) Word0 Bit0
    by_cases hle : n ≤ 4294967295 - l
    · have i := iAddTo_ok false 0 l n false 0 l _ 0 _ _ hz hn0 a1 a2 (past_0 0) (by
        show okB _ _ _ = true
        rw [hi_0 0 (by omega), four_ok l n h0 hn0 hle]; exact four_yes l n h0 hn0 hle)
      rw [hi_0 0 (by omega), four_ok l n h0 hn0 hle] at i
      exact ⟨false, 0, l + n, true, i, fun _ => ⟨hn0, rfl, four_yes l n h0 hn0 hle, by omega, by omega, by unfold Behind uwd; omega⟩, fun h => by cases h⟩
    · have i := iAddTo_bad false 0 l n false 0 l _ 0 _ _ hz hn0 a1 a2 (past_0 0) (by
        show okB _ _ _ = false
        rw [hi_0 0 (by omega)]; exact four_no l n h0 h1 hn0 wn (by omega))
      refine ⟨false, 0, 0, false, i, (fun e => by cases e), fun _ => ?_⟩
      unfold PastI uwd
      simp only [Bool.false_eq_true, if_false]
      omega
  · by_cases hc : IntKind.u64.wrap l + IntKind.u64.wrap n < 18446744073709551616
    · rw [add_c0 l n hc] at a1
      have a2 := add64 (IntKind.u64.wrap h) 0 0 (Word_u _) Word0 Bit0
      have i := iAddTo_ok true h l n true h l _ 0 _ _ hz hn0 a1 a2 (past_0 h) (okB_t _ _)
      rw [hi_0 h wh, lo_eq] at i
      refine ⟨true, h, _, true, i, fun _ => ⟨hn0, rfl, okB_t _ _, wh, w64_bd _, ?_⟩, fun h => by cases h⟩
      unfold Behind
      rw [uwd_w64, uwd_is, uwd_is, uwd_is] at *
      unfold uwd at *
      omega
    · rw [add_c1 l n hc] at a1
      have a2 := add64 (IntKind.u64.wrap h) 0 1 (Word_u _) Word0 Bit1
      cases hg : (wrap64 (IntKind.u64.wrap (IntKind.u64.wrap h + 1)) == 0)
      · have i := iAddTo_ok true h l n true h l _ 1 _ _ hz hn0 a1 a2 (past_1 h hg) (okB_t _ _)
        rw [hi_1, lo_eq] at i
        refine ⟨true, _, _, true, i, fun _ => ⟨hn0, rfl, okB_t _ _, w64_bd _, w64_bd _, ?_⟩, fun h => by cases h⟩
        have hg' : wrap64 (IntKind.u64.wrap (IntKind.u64.wrap h + 1)) ≠ 0 := by rw [beq_eq_false_iff_ne] at hg; exact hg
        unfold Behind
        rw [uwd_w64, uwd_w64]
        simp only [uwd_is] at *
        rw [wrap64] at hg'
        unfold uwd at *
        omega
      · have i := iAddTo_past true h l n true h l _ 1 _ _ hz hn0 a1 a2 (past_2 h hg)
        refine ⟨false, 0, 0, false, i, (fun e => by cases e), fun _ => ?_⟩
        have hg' : wrap64 (IntKind.u64.wrap (IntKind.u64.wrap h + 1)) = 0 := by rw [beq_iff_eq] at hg; exact hg
        unfold PastI
        simp only [if_true]
        simp only [uwd_is] at *
        rw [wrap64] at hg'
        unfold uwd at *
        omega
theorem bd64 (x : BitVec 64) : -9223372036854775808 ≤ x.toInt ∧ x.toInt ≤ 9223372036854775807 := by
  have h1 := BitVec.le_toInt x
  have h2 := BitVec.toInt_lt (x := x)
  simp at h1 h2
  omega
theorem uwd_N (L : BitVec 64) : uwd L.toInt = (L.toNat : Int) := toInt_N L
/-- The program's NthOf and PlaceOf, by the number. -/
theorem inth_yes {x : Sp} (hx : x.ok) (n : Nat) (hn : n < 2 ^ x.n) (h3 : n ≤ 1000) : ∃ X Y : BitVec 64, adrN X Y = x.adr + n ∧
    (∀ w : World, Calls Try.prog 9 #[.agg #[.bool x.s, .int .i64 x.H.toInt, .int .i64 x.L.toInt, .int .i64 ((wd x.s : Int) - x.n)], .int .i64 n] w fun e w' => e = .returned (.tuple #[.agg #[.bool x.s, .int .i64 X.toInt, .int .i64 Y.toInt], .bool true]) ∧ Below w.heap.size w w') ∧
    (∀ w : World, Calls Try.prog 8 #[.agg #[.bool x.s, .int .i64 x.H.toInt, .int .i64 x.L.toInt, .int .i64 ((wd x.s : Int) - x.n)], .agg #[.bool x.s, .int .i64 X.toInt, .int .i64 Y.toInt]] w fun e w' => e = .returned (.tuple #[.int .i64 n, .bool true]) ∧ Below w.heap.size w w') := by
  have he := adr_end hx
  have ea := adrN_eq x.H x.L
  have e0 : adrN x.H x.L = x.adr := rfl
  obtain ⟨S, X0, Y0, ok, cI, hA, hF⟩ := addTo_v3 x.s x.H.toInt x.L.toInt n hx.1 (bd64 _) (bd64 _) (by omega) (by omega)
  cases ok
  · exfalso
    have hp := hF rfl
    unfold PastI at hp
    rw [uwd_N, uwd_N] at hp
    cases hs : x.s
    · rw [hs] at he hp
      have : (2 : Nat) ^ wd false = 4294967296 := by decide
      simp only [Bool.false_eq_true, if_false] at hp
      omega
    · rw [hs] at he hp
      have : (2 : Nat) ^ wd true = 340282366920938463463374607431768211456 := by decide
      simp only [if_true] at hp
      omega
  · obtain ⟨hn0, rfl, hok2, bX, bY, hbe⟩ := hA rfl
    obtain ⟨X, rfl⟩ : ∃ X : BitVec 64, X0 = X.toInt := ⟨BitVec.ofInt 64 X0, (bvI bX).symm⟩
    obtain ⟨Y, rfl⟩ : ∃ Y : BitVec 64, Y0 = Y.toInt := ⟨BitVec.ofInt 64 Y0, (bvI bY).symm⟩
    have ex := adrN_eq X Y
    have hadr : adrN X Y = x.adr + n := by
      unfold Behind at hbe
      rw [uwd_N, uwd_N, uwd_N, uwd_N] at hbe
      omega
    have hhad : hadB x.s x.H x.L ((wd x.s : Int) - x.n) x.s X Y = true := by
      rw [had_num hx x.s X Y hok2]
      exact decide_eq_true ⟨rfl, by omega, by omega⟩
    have hc : hasB x.s x.H x.L x.n x.s X Y = true := by
      have h := hhad
      unfold hadB at h
      have en : ((wd x.s : Int) - ((wd x.s : Int) - x.n)).toNat = x.n := by omega
      rw [hx.pok, hok2, en, Bool.true_and, Bool.true_and] at h
      exact h
    exact ⟨X, Y, hadr, iNthOf_yes x.s x.H x.L ((wd x.s : Int) - x.n) n x.s X Y x.n (by omega) hx.pok cI hc,
      fun w => iPlaceOf_yes x.s x.H x.L ((wd x.s : Int) - x.n) x.s X Y n true hhad (fun w => gap_val x.s x.H.toInt x.L.toInt X.toInt Y.toInt n hx.1 hok2 (by omega) (by omega) hbe w) w⟩

end Go.Proofs.Ytkpbidlcnjppkaa
namespace Go.Proofs.Ytkpbidlcnjppkaa
open Go.RowKit

theorem wd_le (s : Bool) : wd s ≤ 128 := by cases s <;> decide

set_option maxHeartbeats 1000000 in
theorem prefix_any (s : Bool) (H L : BitVec 64) (n : Nat) (hn : n ≤ 128) (w : World) :
    Calls Try.prog 52 #[.agg #[.bool s, .int .i64 H.toInt, .int .i64 L.toInt, .int .i64 n]] w fun e w' => e = .returned (.agg #[.bool s, .int .i64 H.toInt, .int .i64 L.toInt, .int .i64 ((wd s : Int) - n)]) ∧ Below w.heap.size w w' := by
  have hw := wd_le s
  have hwr : IntKind.i64.wrap ((wd s : Int) - n) = (wd s : Int) - n := by rw [← w64]; unfold wrap64; omega
  go_enter Try.func52, Try.ntmps52
  go_wp2_with fail
  go_region_with ((go_at_call 16; refine (width_any s H.toInt L.toInt _).mono ?_; rintro e w1 ⟨rfl, hb1⟩; have hz1 := hb1.size; (try simp at hz1); (first | (refine ltk (w.heap.size) (w1.heap.size) ?_ ?_; (focus omega); intro f10) | skip); (first | (refine ltk (w.heap.size + 1) (w1.heap.size) ?_ ?_; (focus omega); intro f11) | skip); (refine olds_k (w.heap.size + 2) hb1 ?_ ?_; (focus (first | omega | (simp; omega) | (simp; done))); intro hc1 hf1)))
  all_goals
    go_wp2_with fail
    refine bodyPost_ret (v := .agg #[.bool s, .int .i64 H.toInt, .int .i64 L.toInt, .int .i64 ((wd s : Int) - n)]) (by simp [results, Try.results52, go_sem, hc1]) rfl ⟨rfl, ?_⟩
    repeat (first | with_reducible exact Below.refl _ _ | (with_reducible refine Below.drew ?_) | (with_reducible refine Below.alloc ?_ ?_ _; rotate_left; (focus (first | omega | (simp; omega) | (simp; done)))) | (with_reducible refine Below.setCell ?_ ?_ _; rotate_left; (focus (first | omega | (simp; omega) | (simp; done)))) | (with_reducible refine Below.trans ?_ (hb1.mono ?_); rotate_left; (focus (first | omega | (simp; omega) | (simp; done)))))

end Go.Proofs.Ytkpbidlcnjppkaa
namespace Go.Proofs.Ytkpbidlcnjppkaa
open Go.RowKit

theorem Row.spn {w : World} {a : Option Addr} {xs : List Sp} (h : Row w a (xs.map Sp.spn)) (k : Nat) (hk : k < xs.length) : ∃ p o x, a = some ⟨p, o, none⟩ ∧ p < w.heap.size ∧ xs[k]? = some x ∧
    w.cell? ⟨p, o + k * 4, none⟩ = some (.bool x.s) ∧ w.cell? ⟨p, o + k * 4 + 1, none⟩ = some (.int .i64 x.H.toInt) ∧ w.cell? ⟨p, o + k * 4 + 2, none⟩ = some (.int .i64 x.L.toInt) ∧ w.cell? ⟨p, o + k * 4 + 3, none⟩ = some (.int .i64 (x.n : Int)) := by
  obtain ⟨p, o, q, ha, hp, hq, c0, c1, c2, c3⟩ := h k (by rw [List.length_map]; exact hk)
  rw [List.getElem?_map, List.getElem?_eq_getElem hk] at hq
  cases hq
  exact ⟨p, o, xs[k], ha, hp, List.getElem?_eq_getElem hk, c0, c1, c2, c3⟩
theorem Row.pre {w : World} {a : Option Addr} {xs : List Sp} (h : Row w a (xs.map Sp.pre)) (k : Nat) (hk : k < xs.length) : ∃ p o x, a = some ⟨p, o, none⟩ ∧ p < w.heap.size ∧ xs[k]? = some x ∧
    w.cell? ⟨p, o + k * 4, none⟩ = some (.bool x.s) ∧ w.cell? ⟨p, o + k * 4 + 1, none⟩ = some (.int .i64 x.H.toInt) ∧ w.cell? ⟨p, o + k * 4 + 2, none⟩ = some (.int .i64 x.L.toInt) ∧ w.cell? ⟨p, o + k * 4 + 3, none⟩ = some (.int .i64 ((wd x.s : Int) - (x.n : Int))) := by
  obtain ⟨p, o, q, ha, hp, hq, c0, c1, c2, c3⟩ := h k (by rw [List.length_map]; exact hk)
  rw [List.getElem?_map, List.getElem?_eq_getElem hk] at hq
  cases hq
  exact ⟨p, o, xs[k], ha, hp, List.getElem?_eq_getElem hk, c0, c1, c2, c3⟩

end Go.Proofs.Ytkpbidlcnjppkaa
namespace Go.Proofs.Ytkpbidlcnjppkaa
open Go.RowKit

theorem heap_size_alloc' (w : World) (o : Obj) : (w.alloc o).heap.size = w.heap.size + 1 := by simp
theorem left_in {k : Nat} {x : Sp} {xs : List Sp} (h : xs.any (wB x) = true) : leftM k x xs = [] := by
  cases k <;> (unfold leftM; rw [if_pos h])
theorem left_all {k : Nat} {x : Sp} {xs : List Sp} (h : xs.any (wB x) = false) (h2 : xs.filter (fun t => wB t x) = []) : leftM k x xs = [x] := by
  cases k
  · unfold leftM; rw [if_neg (by rw [h]; simp)]
  · unfold leftM; rw [if_neg (by rw [h]; simp), if_pos h2]
theorem left_two {k : Nat} {x : Sp} {xs : List Sp} (h : xs.any (wB x) = false) (h2 : xs.filter (fun t => wB t x) ≠ []) : leftM (k + 1) x xs = leftM k (lowS x k) (xs.filter fun t => wB t x) ++ leftM k (uppS x k) (xs.filter fun t => wB t x) := by
  conv => lhs; unfold leftM
  rw [if_neg (by rw [h]; simp), if_neg h2]

theorem box_cells (w : World) (t : TypeId) (q : Pf) : (w.alloc (.cells #[.bool q.s, .int .i64 q.H.toInt, .int .i64 q.L.toInt, .int .i64 q.b] t)).cell? ⟨w.heap.size, 0, none⟩ = some (.bool q.s) ∧ (w.alloc (.cells #[.bool q.s, .int .i64 q.H.toInt, .int .i64 q.L.toInt, .int .i64 q.b] t)).cell? ⟨w.heap.size, 1, none⟩ = some (.int .i64 q.H.toInt) ∧ (w.alloc (.cells #[.bool q.s, .int .i64 q.H.toInt, .int .i64 q.L.toInt, .int .i64 q.b] t)).cell? ⟨w.heap.size, 2, none⟩ = some (.int .i64 q.L.toInt) ∧ (w.alloc (.cells #[.bool q.s, .int .i64 q.H.toInt, .int .i64 q.L.toInt, .int .i64 q.b] t)).cell? ⟨w.heap.size, 3, none⟩ = some (.int .i64 q.b) := by
  have h := own_one w 0 t q (Nat.zero_le _)
  exact ⟨World.ownsRow.cellAt h 0 (by show 0 < 1 * 4; omega), World.ownsRow.cellAt h 1 (by show 1 < 1 * 4; omega), World.ownsRow.cellAt h 2 (by show 2 < 1 * 4; omega), World.ownsRow.cellAt h 3 (by show 3 < 1 * 4; omega)⟩

theorem near_snoc (x t : Sp) (xs : List Sp) (i : Nat) (h : xs[i]? = some t) : (xs.take (i + 1)).filter (fun t => wB t x) = (xs.take i).filter (fun t => wB t x) ++ (if wB t x = true then [t] else []) := by
  rw [List.take_add_one, h, List.filter_append]
  congr 1
  cases hw : wB t x <;> simp [hw]
theorem any_snoc (x t : Sp) (xs : List Sp) (i : Nat) (h : xs[i]? = some t) (h0 : (xs.take i).any (wB x) = false) (h1 : wB x t = false) : (xs.take (i + 1)).any (wB x) = false := by
  rw [List.take_add_one, h, List.any_append, h0]
  simp [h1]

end Go.Proofs.Ytkpbidlcnjppkaa
namespace Go.Proofs.Ytkpbidlcnjppkaa
open Go.RowKit

theorem Try.fourS : Four Try.prog 78 50 := ⟨Try.underlying78, by kernel_rfl⟩

def Pf.pok (p : Pf) : Bool := pokB p.s p.H p.L p.b
def Pf.sp (p : Pf) : Pf := ⟨p.s, p.H, p.L, (wd p.s : Int) - p.b⟩
def rightP (ps : List Pf) : Bool := ps.all Pf.pok && decide (ps.length ≤ 300)

theorem copy_sp (ps : List Pf) (k : Nat) (q : Pf) (hk : k < ps.length) (hq : ps[k]? = some q) : ((ps.take k).map Pf.sp ++ List.replicate (ps.length - k) Pf.zero).set k q.sp = (ps.take (k + 1)).map Pf.sp ++ List.replicate (ps.length - (k + 1)) Pf.zero := by
  have h := copy_step (ps.map Pf.sp) k q.sp (by rw [List.length_map]; exact hk) (by rw [List.getElem?_map, hq]; rfl)
  rw [List.length_map] at h
  rw [List.map_take, List.map_take]; exact h

set_option maxHeartbeats 1000000 in
theorem spansOf_long (a : Option Addr) (n cap : Nat) (w : World) (hl : 300 < n) (hl' : n ≤ 1048576) :
    Calls Try.prog 49 #[.slice a n cap] w fun e w' => e = .returned (.tuple #[.slice none 0 0, .bool false]) ∧ Below w.heap.size w w' := by
  go_enter Try.func49, Try.ntmps49
  go_wp2
  go_ret2
  exact ⟨rfl, Below.refl _ _⟩

set_option maxRecDepth 10000 in
set_option maxHeartbeats 1000000 in
theorem spansOf_short (a : Option Addr) (cap : Nat) (ps : List Pf) (w : World) (hB : Row w a ps) (hl : ps.length ≤ 300) :
    Calls Try.prog 49 #[.slice a ps.length cap] w fun e w' => ((ps.all Pf.pok = true ∧ ∃ g, e = .returned (.tuple #[.slice (some ⟨g, 0, none⟩) ps.length ps.length, .bool true]) ∧ OwnR 50 w' w.heap.size (.slice (some ⟨g, 0, none⟩) ps.length ps.length) (ps.map Pf.sp)) ∨ (ps.all Pf.pok = false ∧ e = .returned (.tuple #[.slice none 0 0, .bool false]))) ∧ Below w.heap.size w w' := by
  obtain ⟨i0, hi, hz0, hz1, hz2⟩ := info_parts Try.fourS.2
  have HB := hidP hB
  clear hB
  obtain ⟨n, hn⟩ : ∃ n, n = ps.length := ⟨_, rfl⟩
  rw [← hn] at hl ⊢
  have HN := hidP hn
  clear hn
  go_enter Try.func49, Try.ntmps49
  have d1 : decide ((300 : Int) < (n : Int)) = false := decide_eq_false (by omega)
  go_wp2_with (refine wpList_make_full _ rfl (.tmp 13) (.tmp 13) 78 rfl w.heap.size 50 i0 _ 4 Try.fourS.1 hi hz0 hz1 .i64 .i64 n n n rfl rfl rfl rfl (by rw [hz2]; omega) (by unfold maxLen; omega) (Nat.le_refl _) ?_; intro w1 hown hgrow)
  have HO : Hid (OwnR 50 w1 w.heap.size (.slice (some ⟨w.heap.size, 0, none⟩) n n) ((ps.take 0).map Pf.sp ++ List.replicate (ps.length - 0) Pf.zero)) := by
    rw [made_four] at hown
    refine hidP ?_
    unfold OwnR
    rw [Nat.sub_zero, List.take_zero, List.map_nil, List.nil_append, List.length_replicate, ← HN.out]; exact hown
  have HW : Hid (Below w.heap.size w w1) := (Below.refl _ w).grown hgrow (Nat.le_refl _) (fun k hk => by cases hk)
  clear hown hgrow
  go_loopw [17] (fun t17 wr => ∃ k : Nat, k ≤ n ∧ t17 = .int .i64 k ∧ (ps.take k).all Pf.pok = true ∧ OwnR 50 wr w.heap.size (.slice (some ⟨w.heap.size, 0, none⟩) n n) ((ps.take k).map Pf.sp ++ List.replicate (ps.length - k) Pf.zero) ∧ Below w.heap.size w wr) (fun t17 _ => n - (intOf t17).toNat)
  case atStart => exact ⟨0, Nat.zero_le _, rfl, by simp, HO.out, HW.out⟩
  case round =>
    obtain ⟨k, hk, rfl, hall, hown, hbel⟩ := hrel
    by_cases hlt : k < n
    · obtain ⟨p, o, q, rfl, hp, hq, c0, c1, c2, c3⟩ := HB.out k (by rw [← HN.out]; exact hlt)
      have d0 := (hbel.cell hp).trans c0
      have d1' := (hbel.cell hp).trans c1
      have d2 := (hbel.cell hp).trans c2
      have d3 := (hbel.cell hp).trans c3
      have hpr : p < wr.heap.size := Nat.lt_of_lt_of_le hp hbel.size
      have HOw := hidP hown
      have HBel := hidP hbel
      have HQ := hidP hq
      have HAll := hidP hall
      have hwr : w.heap.size < wr.heap.size := (OwnR.lt hown _ rfl).2
      clear hown hbel c0 c1 c2 c3 hq hall HO HW
      have hlen : n = ((ps.take k).map Pf.sp ++ List.replicate (ps.length - k) Pf.zero).length := by rw [List.length_append, List.length_map, List.length_take, List.length_replicate]; have := HN.out; omega
      have HLen := hidP hlen
      clear hlen
      cases hpk : pokB q.s q.H q.L q.b
      · have HNo : Hid (ps.all Pf.pok = false) := by
          refine hidP ?_
          rw [List.all_eq_false]
          exact ⟨q, List.mem_of_getElem? HQ.out, by show ¬ pokB q.s q.H q.L q.b = true; rw [hpk]; simp⟩
        go_wp2_with fail
        refine (spanOf_no q.s q.H q.L q.b hpk _).mono ?_
        rintro e w2 ⟨rfl, hb2⟩
        have hz2 := hb2.size
        try simp at hz2
        have HB2 := hidP (hb2.mono (show w.heap.size ≤ _ by simp; omega))
        clear hb2
        go_wp2_with fail
        go_ret2
        exact ⟨Or.inr ⟨HNo.out, rfl⟩, ((HBel.out.alloc (by omega) _).trans HB2.out).alloc (by omega) _⟩
      · obtain ⟨m, hm⟩ : ∃ m : Nat, (m : Int) = (wd q.s : Int) - q.b := ⟨((wd q.s : Int) - q.b).toNat, by have := (pokB_parts hpk).2.1; omega⟩
        go_wp2_with fail
        refine (spanOf_yes q.s q.H q.L q.b m hm hpk _).mono ?_
        rintro e w2 ⟨rfl, hb2⟩
        have hz2 := hb2.size
        try simp at hz2
        have HB2 := hidP (hb2.mono (show w.heap.size ≤ _ by simp; omega))
        have ho2 := (HOw.out.alloc _).later hb2
        have hw2 : w.heap.size < w2.heap.size := by omega
        have hput := (ho2.put HLen.out k hlt).2 q.sp
        rw [copy_sp ps k q (by rw [← HN.out]; exact hlt) HQ.out] at hput
        have HP : Hid (OwnR 50 ((((w2.setCell ⟨w.heap.size, k * 4, none⟩ (.bool q.s)).setCell ⟨w.heap.size, k * 4 + 1, none⟩ (.int .i64 q.H.toInt)).setCell ⟨w.heap.size, k * 4 + 2, none⟩ (.int .i64 q.L.toInt)).setCell ⟨w.heap.size, k * 4 + 3, none⟩ (.int .i64 ((wd q.s : Int) - q.b))) w.heap.size (.slice (some ⟨w.heap.size, 0, none⟩) n n) ((ps.take (k + 1)).map Pf.sp ++ List.replicate (ps.length - (k + 1)) Pf.zero)) := hput
        obtain ⟨f0, f1, f2, f3⟩ := (ho2.put HLen.out k hlt).1
        obtain ⟨p', o', q', e', hp', _, e0, e1, e2, e3⟩ := ho2.row k (by rw [← HLen.out]; exact hlt)
        simp only [Option.some.injEq, Addr.mk.injEq, and_true] at e'
        obtain ⟨rfl, rfl⟩ := e'
        rw [Nat.zero_add] at e0 e1 e2 e3
        have HAll2 : Hid ((ps.take (k + 1)).all Pf.pok = true) := by
          refine hidP ?_
          rw [List.take_add_one, HQ.out, List.all_append, HAll.out]
          simp [Pf.pok, hpk]
        clear hb2 ho2 hput d0 d1' d2 d3 HOw
        go_wp2_with fail
        go_roundw
        case rel =>
          refine ⟨k + 1, by omega, by go_num, HAll2.out, ?_, ?_⟩
          · exact HP.out.alloc _
          · exact ((((((HBel.out.alloc (by omega) _).trans HB2.out).setCell (Nat.le_refl _) _).setCell (Nat.le_refl _) _).setCell (Nat.le_refl _) _).setCell (Nat.le_refl _) _).alloc (by simp; omega) _
        case measure => simp [intOf]; omega
    · have hkn : k = n := by omega
      subst hkn
      have HO2 : Hid (ps.all Pf.pok = true ∧ OwnR 50 wr w.heap.size (.slice (some ⟨w.heap.size, 0, none⟩) k k) (ps.map Pf.sp)) := by
        have e := HN.out
        rw [e, List.take_length, Nat.sub_self, List.replicate_zero, List.append_nil] at hown
        rw [e, List.take_length] at hall
        rw [← e] at hown
        exact hidP ⟨hall, hown⟩
      have HBel := hidP hbel
      clear hown hbel hall HO HW
      go_wp2
      go_ret2
      exact ⟨Or.inl ⟨HO2.out.1, _, rfl, HO2.out.2⟩, HBel.out⟩

end Go.Proofs.Ytkpbidlcnjppkaa
namespace Go.Proofs.Ytkpbidlcnjppkaa
open Go.RowKit

set_option maxHeartbeats 400000 in
theorem filled_any (s : Bool) (H L : BitVec 64) (n : Nat) (hn : n ≤ 128) (w : World) :
    Calls Try.prog 55 #[.agg #[.bool s, .int .i64 H.toInt, .int .i64 L.toInt], .int .i64 n] w fun e w' => e = .returned (.agg #[.bool s, .int .i64 (fH n H).toInt, .int .i64 (fL n L).toInt]) ∧ Below w.heap.size w w' := by
  go_enter Try.func55, Try.ntmps55
  go_wp2_with fail
  refine (lastBits_any n hn _).mono ?_
  rintro e w1 ⟨rfl, hb⟩
  obtain ⟨hc, hf⟩ := olds (n := w.heap.size + 2) (hb.mono (by simp))
  have hz1 : w.heap.size + 1 < w1.heap.size := by have := hb.size; simp at this; omega
  have hz0 : w.heap.size < w1.heap.size := by omega
  have b1 : Below w.heap.size w w1 := (((Below.refl _ w).alloc (Nat.le_refl _) _).alloc (by simp) _).trans (hb.mono (by simp; omega))
  go_wp2
  refine bodyPost_ret (v := .agg #[.bool s, .int .i64 (fH n H).toInt, .int .i64 (fL n L).toInt]) (by simp [results, Try.results55, go_sem, hc, bOr, fH, fL]) rfl ⟨rfl, ?_⟩
  repeat (first | with_reducible exact b1 | (with_reducible refine Below.setCell ?_ (by first | omega | (simp; done) | (simp; omega)) _) | (with_reducible refine Below.alloc ?_ (by first | omega | (simp; done) | (simp; omega)) _))

set_option maxHeartbeats 1000000 in
theorem last_any (s : Bool) (H L : BitVec 64) (n : Nat) (hn : n ≤ 128) (w : World) :
    Calls Try.prog 54 #[.agg #[.bool s, .int .i64 H.toInt, .int .i64 L.toInt, .int .i64 n]] w fun e w' => e = .returned (.agg #[.bool s, .int .i64 (fH n H).toInt, .int .i64 (fL n L).toInt]) ∧ Below w.heap.size w w' := by
  go_enter Try.func54, Try.ntmps54
  go_wp2_with fail
  refine (filled_any s H L n hn _).mono ?_
  rintro e w1 ⟨rfl, hb1⟩
  have hz1 := hb1.size
  try simp at hz1
  have f10 : w.heap.size < w1.heap.size := by omega
  have f11 : w.heap.size + 1 < w1.heap.size := by omega
  refine olds_k (w.heap.size + 2) hb1 ?_ ?_
  · first | omega | (simp; omega) | (simp; done)
  intro hc1 hf1
  go_wp2_with fail
  refine bodyPost_ret (v := .agg #[.bool s, .int .i64 (fH n H).toInt, .int .i64 (fL n L).toInt]) (by simp [results, Try.results54, go_sem, hc1]) rfl ⟨rfl, ?_⟩
  repeat (first | with_reducible exact Below.refl _ _ | (with_reducible refine Below.drew ?_) | (with_reducible refine Below.alloc ?_ ?_ _; rotate_left; (focus (first | omega | (simp; omega) | (simp; done)))) | (with_reducible refine Below.setCell ?_ ?_ _; rotate_left; (focus (first | omega | (simp; omega) | (simp; done)))) | (with_reducible refine Below.trans ?_ (hb1.mono ?_); rotate_left; (focus (first | omega | (simp; omega) | (simp; done)))))

end Go.Proofs.Ytkpbidlcnjppkaa
namespace Go.Proofs.Ytkpbidlcnjppkaa
open Go.RowKit

set_option maxHeartbeats 1000000 in
theorem halves_any (s : Bool) (H L : BitVec 64) (k : Nat) (hk : k + 1 ≤ 128) (w : World) :
    Calls Try.prog 53 #[.agg #[.bool s, .int .i64 H.toInt, .int .i64 L.toInt, .int .i64 ((k : Int) + 1)]] w fun e w' => e = .returned (.tuple #[.agg #[.bool s, .int .i64 H.toInt, .int .i64 L.toInt, .int .i64 k], .agg #[.bool s, .int .i64 (cH k (fH (k + 1) H)).toInt, .int .i64 (cL k (fL (k + 1) L)).toInt, .int .i64 k]]) ∧ Below w.heap.size w w' := by
  have hcl := last_any s H L (k + 1) hk
  simp only [Int.natCast_add, Int.natCast_one] at hcl
  have HL : Hid (∀ w, _) := hcl
  clear hcl
  have HC : Hid (∀ w, _) := cleared_any s (fH (k + 1) H) (fL (k + 1) L) k (by omega)
  go_enter Try.func53, Try.ntmps53
  go_wp2_with fail
  go_region_with (first | (go_at_call 54; refine (HL.out _).mono ?_; rintro e w1 ⟨rfl, hb1⟩; have hz1 := hb1.size; (try simp at hz1); (first | (refine ltk (w.heap.size) (w1.heap.size) ?_ ?_; (focus omega); intro f10) | skip); (first | (refine ltk (w.heap.size + 1) (w1.heap.size) ?_ ?_; (focus omega); intro f11) | skip); (first | (refine ltk (w.heap.size + 2) (w1.heap.size) ?_ ?_; (focus omega); intro f12) | skip); (refine olds_k (w.heap.size + 3) hb1 ?_ ?_; (focus (first | omega | (simp; omega) | (simp; done))); intro hc1 hf1)) | (go_at_call 40; refine (HC.out _).mono ?_; rintro e w2 ⟨rfl, hb2⟩; have hz2 := hb2.size; (try simp at hz2); (first | (refine ltk (w.heap.size) (w2.heap.size) ?_ ?_; (focus omega); intro f20) | skip); (first | (refine ltk (w.heap.size + 1) (w2.heap.size) ?_ ?_; (focus omega); intro f21) | skip); (first | (refine ltk (w.heap.size + 2) (w2.heap.size) ?_ ?_; (focus omega); intro f22) | skip); (refine olds_k (w.heap.size + 3) hb2 ?_ ?_; (focus (first | omega | (simp; omega) | (simp; done))); intro hc2 hf2)))
  all_goals
    go_wp2_with fail
    refine bodyPost_ret (v := .tuple #[.agg #[.bool s, .int .i64 H.toInt, .int .i64 L.toInt, .int .i64 k], .agg #[.bool s, .int .i64 (cH k (fH (k + 1) H)).toInt, .int .i64 (cL k (fL (k + 1) L)).toInt, .int .i64 k]]) (by simp [results, Try.results53, go_sem, hc1, hc2]) rfl ⟨rfl, ?_⟩
    repeat (first | with_reducible exact Below.refl _ _ | (with_reducible refine Below.drew ?_) | (with_reducible refine Below.alloc ?_ ?_ _; rotate_left; (focus (first | omega | (simp; omega) | (simp; done)))) | (with_reducible refine Below.setCell ?_ ?_ _; rotate_left; (focus (first | omega | (simp; omega) | (simp; done)))) | (with_reducible refine Below.trans ?_ (hb2.mono ?_); rotate_left; (focus (first | omega | (simp; omega) | (simp; done)))) | (with_reducible refine Below.trans ?_ (hb1.mono ?_); rotate_left; (focus (first | omega | (simp; omega) | (simp; done)))))

end Go.Proofs.Ytkpbidlcnjppkaa
namespace Go.Proofs.Ytkpbidlcnjppkaa
open Go.RowKit

/-- The blocks of M lie as they lay. -/
structure Kpt (M : Nat → Prop) (A B : World) : Prop where
  os : B.os = A.os
  tape : B.tape = A.tape
  output : B.output = A.output
  size : A.heap.size ≤ B.heap.size
  block : ∀ k, k < A.heap.size → M k → B.heap[k]? = A.heap[k]?

theorem Kpt.refl (M : Nat → Prop) (A : World) : Kpt M A A := ⟨rfl, rfl, rfl, Nat.le_refl _, fun _ _ _ => rfl⟩
theorem Kpt.mono {M N : Nat → Prop} {A B : World} (h : Kpt M A B) (hn : ∀ k, N k → M k) : Kpt N A B := ⟨h.os, h.tape, h.output, h.size, fun k hk hm => h.block k hk (hn k hm)⟩
theorem Kpt.trans {M : Nat → Prop} {A B C : World} (h : Kpt M A B) (g : Kpt M B C) : Kpt M A C :=
  ⟨g.os.trans h.os, g.tape.trans h.tape, g.output.trans h.output, Nat.le_trans h.size g.size, fun k hk hm => (g.block k (Nat.lt_of_lt_of_le hk h.size) hm).trans (h.block k hk hm)⟩
theorem Kpt.ofBelow {A B : World} (M : Nat → Prop) (h : Below A.heap.size A B) : Kpt M A B := ⟨h.os, h.tape, h.output, h.size, fun k hk _ => h.block k hk⟩
theorem Kpt.below {n : Nat} {A B : World} (h : Kpt (fun k => k < n) A B) (hn : n ≤ A.heap.size) : Below n A B := ⟨h.os, h.tape, h.output, h.size, fun k hk => h.block k (by omega) hk⟩
theorem Kpt.cell {M : Nat → Prop} {A B : World} (h : Kpt M A B) {p : Addr} (hp : p.block < A.heap.size) (hm : M p.block) : B.cell? p = A.cell? p := World.cell?_of_block (w := A) (h.block p.block hp hm)
theorem kpt_put (A : World) (l : Nat) (o : Obj) : Kpt (fun k => k ≠ l) A (A.putObj l o) := ⟨rfl, rfl, rfl, by simp, fun _ _ hk => World.putObj_heap_other hk⟩

/-- Behind a round (or a part of the iterator): what was none of M's lies; the new M' has of the old blocks none but M's. -/
structure Grw (M M' : Nat → Prop) (A B : World) : Prop where
  kept : Kpt (fun k => ¬ M k) A B
  old : ∀ k, M' k → k < A.heap.size → M k
  fit : ∀ k, M' k → k < B.heap.size

theorem Grw.trans {M M' M'' : Nat → Prop} {A B C : World} (h : Grw M M' A B) (g : Grw M' M'' B C) : Grw M M'' A C :=
  ⟨⟨g.kept.os.trans h.kept.os, g.kept.tape.trans h.kept.tape, g.kept.output.trans h.kept.output, Nat.le_trans h.kept.size g.kept.size, fun k hk hm =>
      (g.kept.block k (Nat.lt_of_lt_of_le hk h.kept.size) (fun h' => hm (h.old k h' hk))).trans (h.kept.block k hk hm)⟩,
    fun k hk hl => h.old k (g.old k hk (Nat.lt_of_lt_of_le hl h.kept.size)) hl, g.fit⟩
theorem Grw.ofBelow {M : Nat → Prop} {A B : World} (h : Below A.heap.size A B) (hf : ∀ k, M k → k < A.heap.size) : Grw M M A B :=
  ⟨Kpt.ofBelow _ h, fun _ hm _ => hm, fun k hm => Nat.lt_of_lt_of_le (hf k hm) h.size⟩
theorem Grw.refl {M : Nat → Prop} {A : World} (hf : ∀ k, M k → k < A.heap.size) : Grw M M A A := Grw.ofBelow (Below.refl _ A) hf

/-- The rounds of loop l, over xs: J b pre M W: pre have come; b: it goes on. -/
def Rnds {α : Type} (P : Program) (l : Nat) (encs : α → Array Value) (xs : List α) (J : Bool → List α → (Nat → Prop) → World → Prop) : Prop :=
  ∀ m pre x M W, J true pre M W → (∀ k, M k → k < W.heap.size) → pre ++ [x] <+: xs → YieldAt Fence.wide m P l (encs x) W fun e W' => ∃ b M', e = .returned (.bool b) ∧ J b (pre ++ [x]) M' W' ∧ Grw M M' W W'
def Abd {α : Type} (J : Bool → List α → (Nat → Prop) → World → Prop) : Prop := ∀ b pre M A B, J b pre M A → Kpt M A B → J b pre M B
/-- How an iterator may end that has been given pre ahead and has xs to hand out: all have come, or a round has said no. -/
def Ends {α : Type} (J : Bool → List α → (Nat → Prop) → World → Prop) (all xs : List α) (M : Nat → Prop) (W W' : World) (b : Bool) : Prop :=
  ∃ pre M', J b pre M' W' ∧ Grw M M' W W' ∧ (b = true → pre = xs) ∧ (b = false → pre <+: all)
/-- An iterator: it hands out xs, one by one; it reads the blocks of R. -/
def Iter {α : Type} (P : Program) (g : Nat) (lb : Array Value) (encs : α → Array Value) (xs : List α) (R : Nat → Prop) (w : World) : Prop :=
  ∀ (l : Nat) (J : Bool → List α → (Nat → Prop) → World → Prop) (M : Nat → Prop) (W : World), Kpt R w W → (∀ k, R k → ¬ M k) → (∀ k, M k → k < W.heap.size) → Abd J → Rnds P l encs xs J → J true [] M W →
    Calls P g (#[.func (.yield l) #[] #[]] ++ lb) W fun e W' => (∃ v, e = .returned v) ∧ ∃ b, Ends J xs xs M W W' b

/-- How the body of a round may be left. -/
def rndQ {α : Type} (I : List α → (Nat → Prop) → World → Prop) (Ix : Code → List α → (Nat → Prop) → World → Prop) (M : Nat → Prop) (ys : List α) (W : World) : Exit → Act → World → Prop
  | .normal, _, W' => ∃ M', I ys M' W' ∧ Grw M M' W W'
  | .ret, _, W' => ∃ M', Ix .ret ys M' W' ∧ Grw M M' W W'
  | .exit id, _, W' => ∃ M', Ix (.exit id) ys M' W' ∧ Grw M M' W W'
  | .goto t, _, W' => ∃ M', Ix (.goto t) ys M' W' ∧ Grw M M' W W'
  | .panic _, _, _ => False
  | .outgrown, _, _ => False

theorem wide_any {l m m' : Nat} {P : Program} {c : Code} {Q : Exit → Act → World → Prop} {a : Act} {w : World} (h : c.wpIn (Fence.wide.inRound l) m P Q a w) : c.wpIn (Fence.wide.inRound l) m' P Q a w :=
  fun b k cs hro hb _ => h b k cs hro hb (fun d hd => by simp [Fence.wide] at hd)

/-- The loop's own J. -/
def lpJ {α : Type} (rec : LoopState → Option Code → Loop) (D l : Nat) (I : List α → (Nat → Prop) → World → Prop) (Ix : Code → List α → (Nat → Prop) → World → Prop) (b : Bool) (pre : List α) (M : Nat → Prop) (W : World) : Prop :=
  ∃ M1, (∀ k, M k ↔ (M1 k ∨ k = D ∨ k = l)) ∧ ¬ M1 D ∧ ¬ M1 l ∧ W.heap[D]? = some (.deferred (some [])) ∧
    ((b = true ∧ I pre M1 W ∧ W.heap[l]? = some (.loop (rec .ready none))) ∨ (b = false ∧ ∃ c, Ix c pre M1 W ∧ W.heap[l]? = some (.loop (rec .done (some c)))))

theorem lp_abd {α : Type} {rec : LoopState → Option Code → Loop} {D l : Nat} {I : List α → (Nat → Prop) → World → Prop} {Ix : Code → List α → (Nat → Prop) → World → Prop}
    (hI : ∀ pre M A B, I pre M A → Kpt M A B → I pre M B) (hIx : ∀ c pre M A B, Ix c pre M A → Kpt M A B → Ix c pre M B) : Abd (lpJ rec D l I Ix) := by
  rintro b pre M A B ⟨M1, hM, h1, h2, hD, h⟩ hk
  have hk1 : Kpt M1 A B := hk.mono fun k h => (hM k).2 (Or.inl h)
  have lt : ∀ {k : Nat} {o : Obj}, A.heap[k]? = some o → k < A.heap.size := fun h => (Array.getElem?_eq_some_iff.1 h).1
  refine ⟨M1, hM, h1, h2, (hk.block D (lt hD) ((hM D).2 (Or.inr (Or.inl rfl)))).trans hD, ?_⟩
  rcases h with ⟨rfl, hi, hl⟩ | ⟨rfl, c, hi, hl⟩
  · exact Or.inl ⟨rfl, hI _ _ _ _ hi hk1, (hk.block l (lt hl) ((hM l).2 (Or.inr (Or.inr rfl)))).trans hl⟩
  · exact Or.inr ⟨rfl, c, hIx _ _ _ _ _ hi hk1, (hk.block l (lt hl) ((hM l).2 (Or.inr (Or.inr rfl)))).trans hl⟩

/-- The end of a round: the record is written anew, all else lies. -/
theorem lp_end {α : Type} {P : Program} {rec : LoopState → Option Code → Loop} {D l : Nat} {I : List α → (Nat → Prop) → World → Prop} {Ix : Code → List α → (Nat → Prop) → World → Prop}
    (hrec : ∀ s p s' p', { rec s p with state := s', pending := p' } = rec s' p')
    (hI : ∀ pre M A B, I pre M A → Kpt M A B → I pre M B) (hIx : ∀ c pre M A B, Ix c pre M A → Kpt M A B → Ix c pre M B)
    {M M1 M' : Nat → Prop} {W W2 W3 : World} {ys : List α} (hDl : D ≠ l) (hM : ∀ k, M k ↔ (M1 k ∨ k = D ∨ k = l)) (hD1 : ¬ M1 D) (hl1 : ¬ M1 l)
    (hWW : Kpt (fun k => k ≠ l) W W2) (hl2 : W2.heap[l]? = some (.loop (rec .busy none))) (hD2 : W2.heap[D]? = some (.deferred (some []))) (hg : Grw M1 M' W2 W3)
    (jump : Option Code) (hj : (jump = none ∧ I ys M' W3) ∨ ∃ c, jump = some c ∧ Ix c ys M' W3) :
    ∃ v w', (Instr.endRound l jump).run P W3 = .ok v w' ∧ ∃ b M'', Ending.returned v = .returned (.bool b) ∧ lpJ rec D l I Ix b ys M'' w' ∧ Grw M M'' W w' := by
  have lt : ∀ {A : World} {k : Nat} {o : Obj}, A.heap[k]? = some o → k < A.heap.size := fun h => (Array.getElem?_eq_some_iff.1 h).1
  have hl3 := (hg.kept.block l (lt hl2) hl1).trans hl2
  have hD3 := (hg.kept.block D (lt hD2) hD1).trans hD2
  have hlM : ¬ M' l := fun h => hl1 (hg.old l h (lt hl2))
  have hDM : ¬ M' D := fun h => hD1 (hg.old D h (lt hD2))
  have hrun := run_endRound (P := P) jump hl3
  rw [hrec] at hrun
  have kp : ∀ o, Kpt M' W3 (W3.putObj l o) := fun o => (kpt_put W3 l o).mono (fun k hk e => hlM (e ▸ hk))
  have hD4 : ∀ o, (W3.putObj l o).heap[D]? = some (.deferred (some [])) := fun o => (World.putObj_heap_other hDl).trans hD3
  have hl4 : ∀ o, (W3.putObj l o).heap[l]? = some o := fun o => World.putObj_heap_same (lt hl3)
  have hgr : ∀ o, Grw M (fun k => M' k ∨ k = D ∨ k = l) W (W3.putObj l o) := fun o =>
    ⟨⟨hg.kept.os.trans hWW.os, hg.kept.tape.trans hWW.tape, hg.kept.output.trans hWW.output, by have a := hWW.size; have b := hg.kept.size; simp; omega, fun k hk hn => by
        have n1 : ¬ M1 k := fun h => hn ((hM k).2 (Or.inl h))
        have n2 : k ≠ l := fun h => hn ((hM k).2 (Or.inr (Or.inr h)))
        exact (World.putObj_heap_other n2).trans ((hg.kept.block k (Nat.lt_of_lt_of_le hk hWW.size) n1).trans (hWW.block k hk n2))⟩,
      fun k hk hkw => (hM k).2 (hk.imp (fun h => hg.old k h (Nat.lt_of_lt_of_le hkw hWW.size)) id),
      fun k hk => by
        rw [World.putObj_size]
        rcases hk with h | rfl | rfl
        · exact hg.fit k h
        · exact lt hD3
        · exact lt hl3⟩
  refine ⟨_, _, hrun, ?_⟩
  rcases hj with ⟨rfl, hi⟩ | ⟨c, rfl, hi⟩
  · exact ⟨true, _, rfl, ⟨M', fun _ => Iff.rfl, hDM, hlM, hD4 _, Or.inl ⟨rfl, hI _ _ _ _ hi (kp _), hl4 _⟩⟩, hgr _⟩
  · exact ⟨false, _, rfl, ⟨M', fun _ => Iff.rfl, hDM, hlM, hD4 _, Or.inr ⟨rfl, c, hIx _ _ _ _ _ hi (kp _), hl4 _⟩⟩, hgr _⟩

theorem wp_range {α : Type} {n : Nat} {P : Program} {g : Operand} {ps : Array Tmp} {assign body : Code} {Q : Exit → Act → World → Prop} {a : Act} {w : World}
    {gf : Nat} {lb : Array Value} (hg : a.eval g = .func (.func gf) #[] lb) (eg : ∀ args w, (callFunc gf args).run P w = .ok (.enter gf args) w)
    {encs : α → Array Value} {xs : List α} {R : Nat → Prop} (hit : Iter P gf lb encs xs R w) (hps : ∀ x, (encs x).size = ps.size) (hR : ∀ k, R k → k < w.heap.size)
    (I : List α → (Nat → Prop) → World → Prop) (Ix : Code → List α → (Nat → Prop) → World → Prop)
    (hI : ∀ pre M A B, I pre M A → Kpt M A B → I pre M B) (hIx : ∀ c pre M A B, Ix c pre M A → Kpt M A B → Ix c pre M B)
    (M0 : Nat → Prop) (hM0 : ∀ k, M0 k → k < w.heap.size) (hRM : ∀ k, R k → ¬ M0 k) (h0 : I [] M0 w)
    (hround : ∀ l pre x M W, I pre M W → (∀ k, M k → k < W.heap.size) → ¬ M l → w.heap.size < l → l < W.heap.size → pre ++ [x] <+: xs →
      assign.wpIn (Fence.wide.inRound l) 9 P (Exit.then (fun a1 W1 => Below W.heap.size W W1 ∧ ∀ W2, Kpt (fun k => k ≠ l) W1 W2 → W2.heap.size = W1.heap.size → I pre M W2 →
        body.wpIn (Fence.wide.inRound l) 9 P (rndQ I Ix M (pre ++ [x]) W2) a1 W2) (fun _ _ _ => False)) { tmps := (ps.zip (encs x)).foldl (fun t (p, v) => t.setIfInBounds p v) a.tmps, defers := [] } W)
    (hdone : ∀ D M' W', w.heap.size ≤ D → D < W'.heap.size → ¬ M' D → I xs M' W' → Grw M0 M' w W' → W'.heap[D]? = some (.deferred (some [])) → Q .normal { a with defers := { target := .collected D, args := #[] } :: a.defers } W')
    (hstop : ∀ D c pre M' W', w.heap.size ≤ D → D < W'.heap.size → ¬ M' D → pre <+: xs → Ix c pre M' W' → Grw M0 M' w W' → W'.heap[D]? = some (.deferred (some [])) → c.wpIn Fence.wide n P Q { a with defers := { target := .collected D, args := #[] } :: a.defers } W') :
    (Code.rangeFunc g ps assign body).wpIn Fence.wide n P Q a w := by
  refine wpIn_rangeFunc ?_
  intro fn _
  obtain ⟨rec, hrec⟩ : ∃ rec : LoopState → Option Code → Loop, rec = fun st pe => { state := st, pending := pe, fn, tmps := a.tmps, params := ps, assign, body, defers := w.heap.size } := ⟨_, rfl⟩
  have hrr : ∀ s p s' p', { rec s p with state := s', pending := p' } = rec s' p' := by intro s p s' p'; rw [hrec]
  obtain ⟨W1, hW1⟩ : ∃ W1, (w.alloc (.deferred (some []))).alloc (.loop (rec .ready none)) = W1 := ⟨_, rfl⟩
  have hs1 : W1.heap.size = w.heap.size + 2 := by rw [← hW1]; simp
  have hl1 : W1.heap[w.heap.size + 1]? = some (.loop (rec .ready none)) := by
    rw [← hW1]; have := World.alloc_heap_new (w.alloc (.deferred (some []))) (.loop (rec .ready none)); rwa [World.size_alloc] at this
  have hD1 : W1.heap[w.heap.size]? = some (.deferred (some [])) := by
    rw [← hW1]; exact (Below.heap_alloc _ _ _ (by simp)).trans (World.alloc_heap_new w _)
  have hb1 : Below w.heap.size w W1 := by rw [← hW1]; exact ((Below.refl _ w).alloc (Nat.le_refl _) _).alloc (by simp) _
  have lt : ∀ {A : World} {k : Nat} {o : Obj}, A.heap[k]? = some o → k < A.heap.size := fun h => (Array.getElem?_eq_some_iff.1 h).1
  refine ⟨w.heap.size + 1, [{ target := .collected w.heap.size, args := #[] }], W1, { target := .fn (.func gf) lb, args := #[.func (.yield (w.heap.size + 1)) #[] #[]] }, W1, gf,
    #[.func (.yield (w.heap.size + 1)) #[] #[]] ++ lb, W1, ?_, ?_, fun _ _ => trivial, ?_, fun h => by simp [Fence.wide] at h, ?_⟩
  · rw [← hW1, hrec]; exact run_enterLoop_outer _ _ _ _ _
  · simp only [resolve, hg]
    simp [go_sem]
  · simp [invoke, go_sem, eg]
  · refine callsIn_wide.2 ?_
    refine (hit (w.heap.size + 1) (lpJ rec w.heap.size (w.heap.size + 1) I Ix) (fun k => M0 k ∨ k = w.heap.size ∨ k = w.heap.size + 1) W1 (Kpt.ofBelow _ hb1)
      (fun k hk h => h.elim (hRM k hk) fun h => by have := hR k hk; omega)
      (fun k h => h.elim (fun h => by have := hM0 k h; omega) fun h => by omega) (lp_abd hI hIx) ?_
      ⟨M0, fun _ => Iff.rfl, fun h => Nat.lt_irrefl _ (hM0 _ h), fun h => by have := hM0 _ h; omega, hD1, Or.inl ⟨rfl, hI _ _ _ _ h0 (Kpt.ofBelow _ hb1), hl1⟩⟩).mono ?_
    · rintro m pre x M W ⟨M1, hM, n1, n2, hD, ⟨_, hi, hl⟩ | ⟨hb, _⟩⟩ hfit hpre
      case inr => cases hb
      have hy := run_yield (P := P) (args := encs x) hl (by rw [hrec]; exact hps x)
      rw [hrec] at hy
      refine ⟨fn, _, assign, body, hy, roundIn_of_wpIn trivial (wide_any (wpIn_mono (hround _ pre x M1 W hi (fun k hk => hfit k ((hM k).2 (Or.inl hk))) n2 (Nat.lt_succ_self _) (lt hl) hpre) ?_))⟩
      intro e a1 V1 hV
      cases e with
      | normal =>
        obtain ⟨hb, hbody⟩ := hV
        have hl2 := (hb.block _ (lt hl)).trans hl
        have hD2 := (hb.block _ (lt hD)).trans hD
        have hbr := run_beginRound (P := P) hl2 (by rw [hrec])
        have e1 : { rec .ready none with state := .busy } = rec .busy none := by rw [hrec]
        rw [e1] at hbr
        have kp := kpt_put V1 (w.heap.size + 1) (.loop (rec .busy none))
        refine ⟨_, hbr, wide_any (wpIn_mono (hbody _ kp (by simp) (hI _ _ _ _ hi ((Kpt.ofBelow M1 hb).trans (kp.mono fun k hk h => n2 (h ▸ hk))))) ?_)⟩
        have hl3 : (V1.putObj (w.heap.size + 1) (.loop (rec .busy none))).heap[w.heap.size + 1]? = some (.loop (rec .busy none)) := World.putObj_heap_same (lt hl2)
        have hD3 : (V1.putObj (w.heap.size + 1) (.loop (rec .busy none))).heap[w.heap.size]? = some (.deferred (some [])) := (World.putObj_heap_other (by omega)).trans hD2
        have fin := fun {M' W3} (hg : Grw M1 M' (V1.putObj (w.heap.size + 1) (.loop (rec .busy none))) W3) => lp_end (P := P) (ys := pre ++ [x]) hrr hI hIx (by omega) hM n1 n2 ((Kpt.ofBelow _ hb).trans kp) hl3 hD3 hg
        rintro e a3 W3 hp
        cases e with
        | normal => obtain ⟨M', hi', hg'⟩ := hp; exact fin hg' none (Or.inl ⟨rfl, hi'⟩)
        | ret => obtain ⟨M', hi', hg'⟩ := hp; exact fin hg' (some .ret) (Or.inr ⟨_, rfl, hi'⟩)
        | exit id => obtain ⟨M', hi', hg'⟩ := hp; exact fin hg' (some (.exit id)) (Or.inr ⟨_, rfl, hi'⟩)
        | goto t => obtain ⟨M', hi', hg'⟩ := hp; exact fin hg' (some (.goto t)) (Or.inr ⟨_, rfl, hi'⟩)
        | panic ch => exact hp.elim
        | outgrown => exact hp.elim
      | exit id => exact hV.elim
      | goto t => exact hV.elim
      | ret => exact hV.elim
      | panic ch => exact hV.elim
      | outgrown => exact hV.elim
    · rintro e W2 ⟨⟨v, rfl⟩, b, pre, M, ⟨M1, hM, n1, n2, hD, h⟩, hg', ht, hf⟩
      have kp : ∀ o, Kpt M1 W2 (W2.putObj (w.heap.size + 1) o) := fun o => (kpt_put W2 _ o).mono fun k hk e => n2 (e ▸ hk)
      have hgr : ∀ o, Grw M0 M1 w (W2.putObj (w.heap.size + 1) o) := fun o =>
        ⟨⟨hg'.kept.os.trans hb1.os, hg'.kept.tape.trans hb1.tape, hg'.kept.output.trans hb1.output, by have := hg'.kept.size; simp; omega, fun k hk hn => by
            refine (World.putObj_heap_other (by omega)).trans ((hg'.kept.block k (by omega) ?_).trans (hb1.block k hk))
            rintro (h | h | h)
            · exact hn h
            · omega
            · omega⟩,
          fun k hk hkw => by
            rcases hg'.old k ((hM k).2 (Or.inl hk)) (by omega) with h | h | h
            · exact h
            · omega
            · omega,
          fun k hk => by rw [World.putObj_size]; exact hg'.fit k ((hM k).2 (Or.inl hk))⟩
      have hD2 : ∀ o, (W2.putObj (w.heap.size + 1) o).heap[w.heap.size]? = some (.deferred (some [])) := fun o => (World.putObj_heap_other (by omega)).trans hD
      rcases h with ⟨rfl, hi, hl⟩ | ⟨rfl, c, hi, hl⟩
      · refine ⟨none, _, by have := run_endLoop (P := P) hl (by rw [hrec]; simp); rw [hrec] at this; exact this, ?_⟩
        have := ht rfl
        subst this
        exact hdone _ M1 _ (Nat.le_refl _) (by rw [World.putObj_size]; exact lt hD) n1 (hI _ _ _ _ hi (kp _)) (hgr _) (hD2 _)
      · refine ⟨some c, _, by have := run_endLoop (P := P) hl (by rw [hrec]; simp); rw [hrec] at this; exact this, ?_⟩
        exact hstop _ c pre M1 _ (Nat.le_refl _) (by rw [World.putObj_size]; exact lt hD) n1 (hf rfl) (hIx _ _ _ _ _ hi (kp _)) (hgr _) (hD2 _)

theorem rnd_of {F : Fence} {n : Nat} {P : Program} {c : Code} {K : Act → World → Prop} {N : Exit → Act → World → Prop} {a : Act} {w : World}
    (h : ∀ K' : Act → World → Prop, Hid (∀ a1 W1, K a1 W1 → K' a1 W1) → c.wpIn F n P (Exit.then K' N) a w) : c.wpIn F n P (Exit.then K N) a w := h K (fun _ _ h => h)

end Go.Proofs.Ytkpbidlcnjppkaa
namespace Go.Proofs.Ytkpbidlcnjppkaa
open Go.RowKit

attribute [local go_sem] Oper.semAt_some

theorem wBi {x y : Sp} (hy : y.ok) (w : World) : Calls Try.prog 51 #[.agg #[.bool x.s, .int .i64 x.H.toInt, .int .i64 x.L.toInt, .int .i64 x.n], .agg #[.bool y.s, .int .i64 y.H.toInt, .int .i64 y.L.toInt, .int .i64 y.n]] w fun e w' => e = .returned (.bool (wB x y)) ∧ Below w.heap.size w w' := within_any x.s x.H x.L x.n y.s y.H y.L y.n hy.le w

/-- A span is handed out as its prefix. -/
def encP (x : Sp) : Array Value := #[.agg #[.bool x.s, .int .i64 x.H.toInt, .int .i64 x.L.toInt, .int .i64 ((wd x.s : Int) - x.n)]]

theorem Row.kpt {w w' : World} {a : Option Addr} {ps : List Pf} {M : Nat → Prop} (h : Row w a ps) (hk : Kpt (fun k => ¬ M k) w w') (hne : ∀ p o, a = some ⟨p, o, none⟩ → ¬ M p) : Row w' a ps := fun j hj => by
  obtain ⟨p, o, q, ha, hp, hq, c0, c1, c2, c3⟩ := h j hj
  have e : ∀ i, w'.cell? ⟨p, i, none⟩ = w.cell? ⟨p, i, none⟩ := fun i => World.cell?_of_block (hk.block p hp (hne p o ha))
  exact ⟨p, o, q, ha, Nat.lt_of_lt_of_le hp hk.size, hq, (e _).trans c0, (e _).trans c1, (e _).trans c2, (e _).trans c3⟩

def IEach (k : Nat) : Prop := ∀ (x : Sp) (_ : x.ok) (_ : x.n = k) (xs : List Sp) (_ : ∀ t ∈ xs, t.ok) (_ : xs.length ≤ 300) (a : Option Addr) (cap : Nat) (w : World) (_ : Row w a (xs.map Sp.spn)) (l : Nat) (all : List Sp) (J : Bool → List Sp → (Nat → Prop) → World → Prop) (_ : Abd J) (_ : Rnds Try.prog l encP all J) (M : Nat → Prop) (_ : ∀ p o, a = some ⟨p, o, none⟩ → ¬ M p) (_ : ∀ k, M k → k < w.heap.size) (pre : List Sp) (_ : J true pre M w) (_ : pre ++ leftM k x xs <+: all),
  Calls Try.prog 50 #[.agg #[.bool x.s, .int .i64 x.H.toInt, .int .i64 x.L.toInt, .int .i64 (k : Int)], .slice a xs.length cap, .func (.yield l) #[] #[]] w fun e w' => ∃ b, e = .returned (.bool b) ∧ Ends J all (pre ++ leftM k x xs) M w w' b

theorem Ends.none {J : Bool → List Sp → (Nat → Prop) → World → Prop} {all pre ys : List Sp} {M : Nat → Prop} {w w' : World} (hA : Abd J) (hJ : J true pre M w) (hf : ∀ k, M k → k < w.heap.size) (hb : Below w.heap.size w w') (he : ys = []) : Ends J all (pre ++ ys) M w w' true :=
  ⟨pre, M, hA _ _ _ _ _ hJ (Kpt.ofBelow _ hb), Grw.ofBelow hb hf, fun _ => by rw [he, List.append_nil], fun h => by cases h⟩
theorem pre_left {α : Type} {p a b xs : List α} (h : p ++ (a ++ b) <+: xs) : p ++ a <+: xs := (List.prefix_append (p ++ a) b).trans (by rw [List.append_assoc]; exact h)

set_option maxRecDepth 10000 in
set_option maxHeartbeats 2000000 in
theorem each_step (k : Nat) (IH : ∀ j, j < k → IEach j) : IEach k := by
  intro x hx hk xs hxs hl a cap w hR l all J hA hRn M hdis hfit pre hJ hpre
  have HB := hidP hR
  have HX := hidP hx
  have HXs := hidP hxs
  have HI := hidP IH
  have hk9 : k ≤ 128 := by have := hx.le; omega
  have HK := hidP hk
  have HA := hidP hA
  have HRn := hidP hRn
  have HDis := hidP hdis
  have HFit := hidP hfit
  have HJ := hidP hJ
  have HPre := hidP hpre
  obtain ⟨n, hn⟩ : ∃ n, n = xs.length := ⟨_, rfl⟩
  rw [← hn] at hl ⊢
  have HN := hidP hn
  clear hR hx hxs IH hk hn hA hRn hdis hfit hJ hpre
  refine (callsIn_wide (n := 9)).1 (callsIn_of_wp Try.func50 rfl trivial ?_ rfl)
  simp only [Try.ntmps50, List.size_toArray, List.length_cons, List.length_nil, Nat.reduceAdd, Nat.reduceSub, Array.replicate_succ, Array.replicate_zero, List.push_toArray, List.append_toArray, List.nil_append, List.cons_append]
  gi_wp2
  obtain ⟨b0, b1, b2, b3⟩ := box_cells w 50 ⟨x.s, x.H, x.L, (k : Int)⟩
  have hBW : Below w.heap.size w (w.alloc (.cells #[.bool x.s, .int .i64 x.H.toInt, .int .i64 x.L.toInt, .int .i64 (k : Int)] 50)) := (Below.refl _ w).alloc (Nat.le_refl _) _
  have hs1 : (w.alloc (.cells #[.bool x.s, .int .i64 x.H.toInt, .int .i64 x.L.toInt, .int .i64 (k : Int)] 50)).heap.size = w.heap.size + 1 := by simp
  generalize (w.alloc (.cells #[.bool x.s, .int .i64 x.H.toInt, .int .i64 x.L.toInt, .int .i64 (k : Int)] 50)) = W1 at *
  have HBW := hidP hBW
  have HB0 := hidP (And.intro b0 (And.intro b1 (And.intro b2 b3)))
  have HS1 := hidP hs1
  clear b0 b1 b2 b3 hBW hs1
  refine wpIn_wide.2 ?_
  go_loopw [7, 14] (fun t7 t14 wr => ∃ (i : Nat) (a7 : Option Addr) (m7 c7 : Nat), i ≤ n ∧ t14 = .int .i64 i ∧ t7 = .slice a7 m7 c7 ∧ m7 = ((xs.take i).filter (fun t => wB t x)).length ∧ OwnR 50 wr (w.heap.size + 1) (.slice a7 m7 c7) (((xs.take i).filter (fun t => wB t x)).map Sp.spn) ∧ (xs.take i).any (wB x) = false ∧ Below (w.heap.size + 1) W1 wr) (fun _ t14 _ => n - (intOf t14).toNat)
  case atStart => exact ⟨0, none, 0, 0, Nat.zero_le _, rfl, rfl, by simp, own_none _ _ _, by simp, Below.refl _ W1⟩
  case round =>
    obtain ⟨i, a7, m7, c7, hi, rfl, rfl, hm7, hown, hany, hbel⟩ := hrel
    have hb' := HB0.out
    have c0 := (hbel.cell (Nat.lt_succ_self w.heap.size)).trans hb'.1
    have c1 := (hbel.cell (Nat.lt_succ_self w.heap.size)).trans hb'.2.1
    have c2 := (hbel.cell (Nat.lt_succ_self w.heap.size)).trans hb'.2.2.1
    have c3 := (hbel.cell (Nat.lt_succ_self w.heap.size)).trans hb'.2.2.2
    clear hb'
    have hzr : w.heap.size + 1 ≤ wr.heap.size := by have := hbel.size; rw [HS1.out] at this; exact this
    have hzq : w.heap.size < wr.heap.size := hzr
    have HOw := hidP hown
    have HAny := hidP hany
    have HBel := hidP hbel
    have HM7 := hidP hm7
    have hm9 : m7 ≤ 300 := by rw [hm7]; exact Nat.le_trans (List.length_filter_le _ _) (by rw [List.length_take]; omega)
    have HBr := hidP (HBW.out.trans (hbel.mono (Nat.le_succ _)))
    clear hown hany hm7
    by_cases hlt : i < n
    · obtain ⟨p, o, t, rfl, hp, hq, e0, e1, e2, e3⟩ := HB.out.spn i (by rw [← HN.out]; exact hlt)
      have hpr : p < w.heap.size + 1 := by omega
      have d0 := (hbel.cell hpr).trans ((HBW.out.cell hp).trans e0)
      have d1 := (hbel.cell hpr).trans ((HBW.out.cell hp).trans e1)
      have d2 := (hbel.cell hpr).trans ((HBW.out.cell hp).trans e2)
      have d3 := (hbel.cell hpr).trans ((HBW.out.cell hp).trans e3)
      have HQ := hidP hq
      have ht : t.ok := HXs.out t (List.mem_of_getElem? hq)
      have hw1 : ∀ wx, Calls Try.prog 51 #[.agg #[.bool x.s, .int .i64 x.H.toInt, .int .i64 x.L.toInt, .int .i64 (k : Int)], .agg #[.bool t.s, .int .i64 t.H.toInt, .int .i64 t.L.toInt, .int .i64 (t.n : Int)]] wx fun e w' => e = .returned (.bool (wB x t)) ∧ Below wx.heap.size wx w' := fun wx => by
        have h := wBi (x := x) ht wx
        rw [HK.out] at h; exact h
      have hw2 : ∀ wx, Calls Try.prog 51 #[.agg #[.bool t.s, .int .i64 t.H.toInt, .int .i64 t.L.toInt, .int .i64 (t.n : Int)], .agg #[.bool x.s, .int .i64 x.H.toInt, .int .i64 x.L.toInt, .int .i64 (k : Int)]] wx fun e w' => e = .returned (.bool (wB t x)) ∧ Below wx.heap.size wx w' := fun wx => by
        have h := wBi (x := t) HX.out wx
        rw [HK.out] at h; exact h
      have HW1 := hidP hw1
      have HW2 := hidP hw2
      have HBx := hidP (box_cells wr 50 ⟨t.s, t.H, t.L, (t.n : Int)⟩)
      clear e0 e1 e2 e3 hq ht hw1 hw2 hbel
      cases hxt : wB x t
      · rw [hxt] at HW1
        have HAny2 := hidP (any_snoc x t xs i HQ.out HAny.out hxt)
        go_wp2_with fail
        refine (HW1.out _).mono ?_
        rintro e w2 ⟨rfl, hb2⟩
        have hz2 := hb2.size
        rw [heap_size_alloc'] at hz2
        have hr2 : Below wr.heap.size wr w2 := ((Below.refl _ wr).alloc (Nat.le_refl _) _).trans (hb2.mono (by simp))
        have HB2 := hidP (HBel.out.trans (hr2.mono hzr))
        have HO2 := hidP (HOw.out.later hr2)
        have c0' := (hr2.cell hzq).trans c0
        have c1' := (hr2.cell hzq).trans c1
        have c2' := (hr2.cell hzq).trans c2
        have c3' := (hr2.cell hzq).trans c3
        have d0' := (hb2.cell (show wr.heap.size < _ by simp)).trans HBx.out.1
        have d1' := (hb2.cell (show wr.heap.size < _ by simp)).trans HBx.out.2.1
        have d2' := (hb2.cell (show wr.heap.size < _ by simp)).trans HBx.out.2.2.1
        have d3' := (hb2.cell (show wr.heap.size < _ by simp)).trans HBx.out.2.2.2
        have hz2' : w.heap.size + 1 ≤ w2.heap.size := by omega
        clear hb2 hr2 c0 c1 c2 c3 d0 d1 d2 d3 HBx
        cases htx : wB t x
        · rw [htx] at HW2
          have HNe := hidP (near_snoc x t xs i HQ.out)
          rw [htx, if_neg (by simp), List.append_nil] at HNe
          go_wp2_with fail
          refine (HW2.out _).mono ?_
          rintro e w3 ⟨rfl, hr3⟩
          have HB3 := hidP (HB2.out.trans (hr3.mono hz2'))
          have HO3 := hidP (HO2.out.later hr3)
          clear hr3
          go_wp2_with fail
          go_roundw
          case rel => exact ⟨i + 1, a7, m7, c7, by omega, by go_num, rfl, by rw [HNe.out]; exact HM7.out, by rw [HNe.out]; exact HO3.out, HAny2.out, HB3.out⟩
          case measure => simp [intOf]; omega
        · rw [htx] at HW2
          have HNe := hidP (near_snoc x t xs i HQ.out)
          rw [htx, if_pos rfl] at HNe
          go_wp2_with fail
          refine (HW2.out _).mono ?_
          rintro e w3 ⟨rfl, hr3⟩
          have HB3 := hidP (HB2.out.trans (hr3.mono hz2'))
          have HO3 := hidP (HO2.out.later hr3)
          have hz3 : w.heap.size + 1 ≤ w3.heap.size := Nat.le_trans hz2' hr3.size
          have d0 := (hr3.cell (show wr.heap.size < w2.heap.size by omega)).trans d0'
          have d1 := (hr3.cell (show wr.heap.size < w2.heap.size by omega)).trans d1'
          have d2 := (hr3.cell (show wr.heap.size < w2.heap.size by omega)).trans d2'
          have d3 := (hr3.cell (show wr.heap.size < w2.heap.size by omega)).trans d3'
          clear hr3 d0' d1' d2' d3' c0' c1' c2' c3'
          go_wp2_with (at_builtin; refine wpList_appR Try.fourS _ rfl (.tmp 24) (.tmp 26) 78 rfl (w.heap.size + 1) a7 m7 c7 1 (((xs.take i).filter (fun t => wB t x)).map Sp.spn) [t.spn] (.slice (some ⟨w3.heap.size, 0, none⟩) 1 1) rfl (by rw [List.length_map]; exact HM7.out) rfl (HO3.out.alloc _) rfl (src_row Try.fourS 1 1 rfl (row_one w3 50 t.spn) (by simp)) (by omega) (by simp; omega) ?_; intro a6 c6 w4 ho4 hg4 ht4)
          go_roundw
          case rel => exact ⟨i + 1, a6, m7 + 1, c6, by omega, by go_num, rfl, by rw [HNe.out, List.length_append, ← HM7.out]; rfl, by rw [HNe.out, List.map_append]; exact ho4, HAny2.out, below_appR (HB3.out.alloc hz3 _) (HO3.out.alloc _) (by simp; omega) hg4⟩
          case measure => simp [intOf]; omega
      · rw [hxt] at HW1
        have HE : Hid (leftM k x xs = []) := by
          refine hidP (left_in ?_)
          rw [List.any_eq_true]
          exact ⟨t, List.mem_of_getElem? HQ.out, hxt⟩
        go_wp2_with fail
        refine (HW1.out _).mono ?_
        rintro e w2 ⟨rfl, hb2⟩
        have hr2 : Below wr.heap.size wr w2 := ((Below.refl _ wr).alloc (Nat.le_refl _) _).trans (hb2.mono (by simp))
        have HB2 := hidP (HBr.out.trans (hr2.mono (by omega)))
        clear hb2 hr2
        go_wp2_with fail
        go_ret
        exact ⟨true, rfl, Ends.none HA.out HJ.out HFit.out HB2.out HE.out⟩
    · have hin : i = n := by omega
      subst hin
      clear hbel
      have eT : xs.take i = xs := by rw [HN.out, List.take_length]
      rw [eT] at HM7 HOw HAny
      clear eT
      by_cases hm0 : m7 = 0
      · have HE : Hid (leftM k x xs = [x]) := hidP (left_all HAny.out (List.eq_nil_of_length_eq_zero (by rw [← HM7.out]; exact hm0)))
        subst hm0
        have HP := hidP (prefix_any x.s x.H x.L k hk9)
        have HY : Hid (∀ W', Below w.heap.size w W' → YieldAt Fence.wide 8 Try.prog l #[.agg #[.bool x.s, .int .i64 x.H.toInt, .int .i64 x.L.toInt, .int .i64 ((wd x.s : Int) - (k : Int))]] W' fun e W2 => ∃ b M', e = .returned (.bool b) ∧ J b (pre ++ [x]) M' W2 ∧ Grw M M' w W2) := hidP fun W' hb => by
          have h := HRn.out 8 pre x M W' (HA.out _ _ _ _ _ HJ.out (Kpt.ofBelow _ hb)) (fun k hk => Nat.lt_of_lt_of_le (HFit.out k hk) hb.size) (by have := HPre.out; rw [HE.out] at this; exact this)
          unfold encP at h
          rw [HK.out] at h
          refine h.mono ?_
          rintro e W2 ⟨b, M', he, hj, hg⟩
          exact ⟨b, M', he, hj, (Grw.ofBelow hb HFit.out).trans hg⟩
        go_wp2_with fail
        gi_wp2
        refine ⟨trivial, (callsIn_wide.2 (HP.out _)).mono ?_⟩
        rintro e w2 ⟨rfl, hb2⟩
        obtain ⟨fn, tmps, assign, body, hy, hRd⟩ := HY.out w2 (HBr.out.trans (hb2.mono HBr.out.size))
        have HRd := hidP hRd
        clear hRd hb2
        gi_wp2
        refine HRd.out.mono ?_
        rintro e w3 ⟨b, M', rfl, hj, hg⟩
        have HF : Hid (Ends J all (pre ++ leftM k x xs) M w w3 b) := by
          refine hidP ⟨pre ++ [x], M', hj, hg, fun _ => by rw [HE.out], fun _ => ?_⟩
          have h := HPre.out
          rw [HE.out] at h
          exact h
        clear hj hg
        gi_wp2
        go_ret
        exact ⟨b, rfl, HF.out⟩
      · have hne : xs.filter (fun t => wB t x) ≠ [] := fun h => hm0 (by rw [HM7.out, h]; rfl)
        obtain ⟨k', rfl⟩ : ∃ k', k = k' + 1 := by
          cases k with
          | zero => exact absurd (near_zero HK.out hne) (by rw [HAny.out]; simp)
          | succ k' => exact ⟨k', rfl⟩
        have HE := hidP (left_two (k := k') HAny.out hne)
        have hx := HX.out
        have hxn := HK.out
        have hlow := low_ok hx hxn
        have hupp := upp_ok hx hxn
        have HH := hidP (halves_any x.s x.H x.L k' hk9)
        have hxs2 : ∀ t ∈ xs.filter (fun t => wB t x), t.ok := fun t ht => HXs.out t (List.mem_filter.1 ht).1
        have IHl := HI.out k' (Nat.lt_succ_self k') (lowS x k') hlow rfl (xs.filter fun t => wB t x) hxs2 (by rw [← HM7.out]; omega)
        have IHu := HI.out k' (Nat.lt_succ_self k') (uppS x k') hupp rfl (xs.filter fun t => wB t x) hxs2 (by rw [← HM7.out]; omega)
        rw [← HM7.out] at IHl IHu
        obtain ⟨l1, hl1⟩ : ∃ l1, l1 = leftM k' (lowS x k') (xs.filter fun t => wB t x) := ⟨_, rfl⟩
        obtain ⟨l2, hl2⟩ : ∃ l2, l2 = leftM k' (uppS x k') (xs.filter fun t => wB t x) := ⟨_, rfl⟩
        rw [← hl1] at IHl HE
        rw [← hl2] at IHu HE
        obtain ⟨H2, hH2⟩ : ∃ H2, H2 = cH k' (fH (k' + 1) x.H) := ⟨_, rfl⟩
        obtain ⟨L2, hL2⟩ : ∃ L2, L2 = cL k' (fL (k' + 1) x.L) := ⟨_, rfl⟩
        rw [← hH2, ← hL2] at HH
        have hp2 : pre ++ (l1 ++ l2) <+: all := by have := HPre.out; rw [HE.out] at this; exact this
        have HIl : Hid (∀ W, Row W a7 ((xs.filter fun t => wB t x).map Sp.spn) → (∀ p o, a7 = some ⟨p, o, none⟩ → ¬ M p) → Below w.heap.size w W → Calls Try.prog 50 #[.agg #[.bool x.s, .int .i64 x.H.toInt, .int .i64 x.L.toInt, .int .i64 (k' : Int)], .slice a7 m7 c7, .func (.yield l) #[] #[]] W fun e w' => ∃ b, e = .returned (.bool b) ∧ Ends J all (pre ++ l1) M W w' b) := hidP fun W h1 h2 h3 =>
          IHl a7 c7 W h1 l all J HA.out HRn.out M h2 (fun k hk => Nat.lt_of_lt_of_le (HFit.out k hk) h3.size) pre (HA.out _ _ _ _ _ HJ.out (Kpt.ofBelow _ h3)) (pre_left hp2)
        have HIu : Hid (∀ W M', Row W a7 ((xs.filter fun t => wB t x).map Sp.spn) → (∀ p o, a7 = some ⟨p, o, none⟩ → ¬ M' p) → (∀ k, M' k → k < W.heap.size) → J true (pre ++ l1) M' W → Calls Try.prog 50 #[.agg #[.bool x.s, .int .i64 H2.toInt, .int .i64 L2.toInt, .int .i64 (k' : Int)], .slice a7 m7 c7, .func (.yield l) #[] #[]] W fun e w' => ∃ b, e = .returned (.bool b) ∧ Ends J all (pre ++ l1 ++ l2) M' W w' b) := hidP fun W M' h1 h2 h3 h4 => by
          have h := IHu a7 c7 W h1 l all J HA.out HRn.out M' h2 h3 (pre ++ l1) h4 (by rw [List.append_assoc]; exact hp2)
          rw [hH2, hL2]; exact h
        have hm1 : (((m7 : Nat) : Int) == 0) = false := by rw [beq_eq_false_iff_ne]; omega
        clear hne hx hxn hlow hupp hxs2 IHl IHu hl1 hl2 hm0 hH2 hL2 hp2
        go_wp2_with fail
        refine wpIn_wide.2 ?_
        go_wp2_with fail
        refine (HH.out _).mono ?_
        rintro e w2 ⟨rfl, hb2'⟩
        have hz2 := hb2'.size
        have HOw2 := hidP (HOw.out.later hb2')
        have HB2 := hidP (HBr.out.trans (hb2'.mono (by omega)))
        clear hb2' HOw HBr c0 c1 c2 c3
        go_wp2_with fail
        obtain ⟨p0, p1, p2, p3⟩ := box_cells w2 50 ⟨x.s, x.H, x.L, (k' : Int)⟩
        obtain ⟨q0, q1, q2, q3⟩ := box_cells (w2.alloc (.cells #[.bool x.s, .int .i64 x.H.toInt, .int .i64 x.L.toInt, .int .i64 (k' : Int)] 50)) 50 ⟨x.s, H2, L2, (k' : Int)⟩
        have hbb : Below w2.heap.size w2 ((w2.alloc (.cells #[.bool x.s, .int .i64 x.H.toInt, .int .i64 x.L.toInt, .int .i64 (k' : Int)] 50)).alloc (.cells #[.bool x.s, .int .i64 H2.toInt, .int .i64 L2.toInt, .int .i64 (k' : Int)] 50)) := ((Below.refl _ w2).alloc (Nat.le_refl _) _).alloc (by simp) _
        have hsz : ((w2.alloc (.cells #[.bool x.s, .int .i64 x.H.toInt, .int .i64 x.L.toInt, .int .i64 (k' : Int)] 50)).alloc (.cells #[.bool x.s, .int .i64 H2.toInt, .int .i64 L2.toInt, .int .i64 (k' : Int)] 50)).heap.size = w2.heap.size + 2 := by simp
        simp only [heap_size_alloc'] at q0 q1 q2 q3
        generalize ((w2.alloc (.cells #[.bool x.s, .int .i64 x.H.toInt, .int .i64 x.L.toInt, .int .i64 (k' : Int)] 50)).alloc (.cells #[.bool x.s, .int .i64 H2.toInt, .int .i64 L2.toInt, .int .i64 (k' : Int)] 50)) = W at *
        have hBW2 := HB2.out.trans (hbb.mono (by omega))
        have hOwW := HOw2.out.later hbb
        have hn9 : ∀ p o, a7 = some ⟨p, o, none⟩ → w.heap.size + 1 ≤ p ∧ p < W.heap.size := fun p o h => hOwW.lt p (by rw [h]; rfl)
        have hnM : ∀ p, w.heap.size ≤ p → ¬ M p := fun p h hm => by have := HFit.out p hm; omega
        refine (HIl.out W hOwW.row (fun p o h => hnM p (by have := hn9 p o h; omega)) hBW2).mono ?_
        rintro e w3 ⟨b, rfl, pre1, M1, hj1, hg1, ht1, hf1⟩
        have nM : ¬ M (w2.heap.size + 1) := hnM _ (by omega)
        have lW : w2.heap.size + 1 < W.heap.size := by omega
        have c0 := (hg1.kept.cell (p := ⟨w2.heap.size + 1, 0, none⟩) lW nM).trans q0
        have c1 := (hg1.kept.cell (p := ⟨w2.heap.size + 1, 1, none⟩) lW nM).trans q1
        have c2 := (hg1.kept.cell (p := ⟨w2.heap.size + 1, 2, none⟩) lW nM).trans q2
        have c3 := (hg1.kept.cell (p := ⟨w2.heap.size + 1, 3, none⟩) lW nM).trans q3
        have lW3 : w2.heap.size + 1 < w3.heap.size := Nat.lt_of_lt_of_le lW hg1.kept.size
        have HG1 := hidP ((Grw.ofBelow hBW2 HFit.out).trans hg1)
        cases b
        · have HF : Hid (Ends J all (pre ++ leftM (k' + 1) x xs) M w w3 false) := hidP ⟨pre1, M1, hj1, HG1.out, fun h => (by cases h), fun _ => hf1 rfl⟩
          clear p0 p1 p2 p3 q0 q1 q2 q3 hbb hsz hBW2 hOwW hn9 hnM hj1 hg1 ht1 hf1 nM lW
          go_wp2_with fail
          go_ret
          exact ⟨false, rfl, HF.out⟩
        · have e1 := ht1 rfl
          subst e1
          have HC : Hid (Calls Try.prog 50 #[.agg #[.bool x.s, .int .i64 H2.toInt, .int .i64 L2.toInt, .int .i64 (k' : Int)], .slice a7 m7 c7, .func (.yield l) #[] #[]] w3 fun e w' => ∃ b, e = .returned (.bool b) ∧ Ends J all (pre ++ leftM (k' + 1) x xs) M w w' b) := by
            refine hidP ((HIu.out w3 M1 (hOwW.row.kpt hg1.kept fun p o h => hnM p (by have := hn9 p o h; omega)) (fun p o h hm => hnM p (by have := hn9 p o h; omega) (hg1.old p hm (hn9 p o h).2)) hg1.fit hj1).mono ?_)
            rintro e w4 ⟨b, rfl, pre2, M2, hj2, hg2, ht2, hf2⟩
            exact ⟨b, rfl, pre2, M2, hj2, HG1.out.trans hg2, fun h => by rw [ht2 h, HE.out, List.append_assoc], hf2⟩
          clear p0 p1 p2 p3 q0 q1 q2 q3 hbb hsz hBW2 hOwW hn9 hnM hj1 hg1 ht1 hf1 nM lW
          go_wp2_with fail
          refine HC.out.mono ?_
          rintro e w4 ⟨b, rfl, h4⟩
          have H4 := hidP h4
          clear h4
          go_wp2_with fail
          go_ret
          exact ⟨b, rfl, H4.out⟩
theorem each_all (k : Nat) : IEach k := Nat.strongRecOn k fun k ih => each_step k ih

end Go.Proofs.Ytkpbidlcnjppkaa
namespace Go.Proofs.Ytkpbidlcnjppkaa
open Go.RowKit

theorem right_pre (xs : List Sp) (hxs : ∀ t ∈ xs, t.ok) (hl : xs.length ≤ 300) : rightP (xs.map Sp.pre) = true := by
  unfold rightP
  rw [List.length_map, decide_eq_true hl, Bool.and_true, List.all_eq_true]
  intro p hp
  obtain ⟨t, ht, rfl⟩ := List.mem_map.1 hp
  exact (hxs t ht).pok

theorem spansOf_res (a : Option Addr) (cap : Nat) (ps : List Pf) (w : World) (hB : Row w a ps) (hl : ps.length ≤ 1048576) :
    Calls Try.prog 49 #[.slice a ps.length cap] w fun e w' => ∃ a' n' c', e = .returned (.tuple #[.slice a' n' c', .bool (rightP ps)]) ∧ Below w.heap.size w w' := by
  by_cases h : ps.length ≤ 300
  · refine (spansOf_short a cap ps w hB h).mono ?_
    rintro e w' ⟨h1 | h1, hb⟩
    · obtain ⟨h1, g, rfl, _⟩ := h1
      exact ⟨_, _, _, by unfold rightP; rw [h1, decide_eq_true h]; rfl, hb⟩
    · obtain ⟨h1, rfl⟩ := h1
      exact ⟨_, _, _, by unfold rightP; rw [h1]; rfl, hb⟩
  · refine (spansOf_long a ps.length cap w (by omega) hl).mono ?_
    rintro e w' ⟨rfl, hb⟩
    exact ⟨_, _, _, by unfold rightP; rw [decide_eq_false h, Bool.and_false], hb⟩

theorem sp_pre (xs : List Sp) : (xs.map Sp.pre).map Pf.sp = xs.map Sp.spn := by
  rw [List.map_map]
  refine List.map_congr_left fun x _ => ?_
  show (⟨x.s, x.H, x.L, (wd x.s : Int) - ((wd x.s : Int) - x.n)⟩ : Pf) = ⟨x.s, x.H, x.L, x.n⟩
  congr 1
  omega

end Go.Proofs.Ytkpbidlcnjppkaa
namespace Go.Proofs.Ytkpbidlcnjppkaa
open Go.RowKit

/-- The four cells of a box. -/
def Box4 (w : World) (B : Nat) (p : Pf) : Prop := w.cell? ⟨B, 0, none⟩ = some (.bool p.s) ∧ w.cell? ⟨B, 1, none⟩ = some (.int .i64 p.H.toInt) ∧ w.cell? ⟨B, 2, none⟩ = some (.int .i64 p.L.toInt) ∧ w.cell? ⟨B, 3, none⟩ = some (.int .i64 p.b)
theorem Box4.kpt {w w' : World} {M : Nat → Prop} {B : Nat} {p : Pf} (h : Box4 w B p) (hk : Kpt M w w') (hB : B < w.heap.size) (hm : M B) : Box4 w' B p :=
  have e : ∀ i, w'.cell? ⟨B, i, none⟩ = w.cell? ⟨B, i, none⟩ := fun _ => World.cell?_of_block (hk.block B hB hm)
  ⟨(e _).trans h.1, (e _).trans h.2.1, (e _).trans h.2.2.1, (e _).trans h.2.2.2⟩
theorem Box4.later {w w' : World} {B : Nat} {p : Pf} (h : Box4 w B p) (hk : Below w.heap.size w w') (hB : B < w.heap.size) : Box4 w' B p := h.kpt (Kpt.ofBelow (fun _ => True) hk) hB trivial

/-- The program's leftOf, of p and a row, hands out ys. -/
def LeftGives (p : Pf) (a : Option Addr) (n cap : Nat) (w0 : World) (ys : List Sp) : Prop := ∀ (w : World) (Bp Bl : Nat), Below w0.heap.size w0 w → Box4 w Bp p → w.cell? ⟨Bl, 0, none⟩ = some (.slice a n cap) → Bp < w.heap.size → Bl < w.heap.size →
  Iter Try.prog 48 #[.pointer (some ⟨Bp, 0, none⟩), .pointer (some ⟨Bl, 0, none⟩)] encP ys (fun k => k < w0.heap.size ∨ k = Bp ∨ k = Bl) w

set_option maxHeartbeats 1000000 in
theorem leftOf_any (p : Pf) (a : Option Addr) (n cap : Nat) (w : World) :
    Calls Try.prog 45 #[.agg #[.bool p.s, .int .i64 p.H.toInt, .int .i64 p.L.toInt, .int .i64 p.b], .slice a n cap] w fun e w' => e = .returned (.func (.func 48) #[] #[.pointer (some ⟨w.heap.size, 0, none⟩), .pointer (some ⟨w.heap.size + 1, 0, none⟩)]) ∧ w' = (w.alloc (.cells #[.bool p.s, .int .i64 p.H.toInt, .int .i64 p.L.toInt, .int .i64 p.b] 27)).alloc (.cells #[.slice a n cap] 42) := by
  go_enter Try.func45, Try.ntmps45
  go_wp2
  go_ret
  exact ⟨rfl, rfl⟩

set_option maxRecDepth 10000 in
set_option maxHeartbeats 2000000 in
theorem left_yes (x : Sp) (hx : x.ok) (a : Option Addr) (cap : Nat) (xs : List Sp) (hxs : ∀ t ∈ xs, t.ok) (w0 : World) (hB : Row w0 a (xs.map Sp.pre)) (hl : xs.length ≤ 300) : LeftGives x.pre a xs.length cap w0 (leftM x.n x xs) := by
  intro w Bp Bl hw hbp hbl hp hq l J M W hk hRM hfit hA hRn hJ
  have HP := hidP (spanOf_yes x.s x.H x.L ((wd x.s : Int) - x.n) x.n (by omega) hx.pok)
  have hS : ∀ wx, Below W.heap.size W wx → Calls Try.prog 49 #[.slice a xs.length cap] wx fun e w' => ∃ g, e = .returned (.tuple #[.slice (some ⟨g, 0, none⟩) xs.length xs.length, .bool true]) ∧ OwnR 50 w' wx.heap.size (.slice (some ⟨g, 0, none⟩) xs.length xs.length) (xs.map Sp.spn) ∧ Below wx.heap.size wx w' := fun wx hb => by
    have hR : Row wx a (xs.map Sp.pre) := (hB.later (hw.trans ((hk.mono (N := fun k => k < w0.heap.size) fun k h => Or.inl h).below hw.size))).later hb
    have h := spansOf_short a cap (xs.map Sp.pre) wx hR (by rw [List.length_map]; exact hl)
    have hr := right_pre xs hxs hl
    unfold rightP at hr
    rw [Bool.and_eq_true] at hr
    rw [List.length_map] at h
    refine h.mono ?_
    rintro e w' ⟨h1 | h1, hb⟩
    · obtain ⟨_, g, rfl, ho⟩ := h1
      rw [sp_pre] at ho
      exact ⟨g, rfl, ho, hb⟩
    · rw [hr.1] at h1; cases h1.1
  have HS := hidP hS
  have hbW : Box4 W Bp x.pre := hbp.kpt hk hp (Or.inr (Or.inl rfl))
  have hcl : W.cell? ⟨Bl, 0, none⟩ = some (.slice a xs.length cap) := (hk.cell (p := ⟨Bl, 0, none⟩) hq (Or.inr (Or.inr rfl))).trans hbl
  have hpW : Bp < W.heap.size := Nat.lt_of_lt_of_le hp hk.size
  have hqW : Bl < W.heap.size := Nat.lt_of_lt_of_le hq hk.size
  have HE : Hid (∀ (g : Nat) (w1 : World), OwnR 50 w1 W.heap.size (.slice (some ⟨g, 0, none⟩) xs.length xs.length) (xs.map Sp.spn) → Below W.heap.size W w1 → Calls Try.prog 50 #[.agg #[.bool x.s, .int .i64 x.H.toInt, .int .i64 x.L.toInt, .int .i64 (x.n : Int)], .slice (some ⟨g, 0, none⟩) xs.length xs.length, .func (.yield l) #[] #[]] w1 fun e w' => ∃ b, e = .returned (.bool b) ∧ Ends J (leftM x.n x xs) (leftM x.n x xs) M W w' b) := hidP fun g w1 ho hb => by
    refine (each_all x.n x hx rfl xs hxs hl (some ⟨g, 0, none⟩) xs.length w1 ho.row l (leftM x.n x xs) J hA hRn M (fun p o h hm => ?_) (fun k hk => Nat.lt_of_lt_of_le (hfit k hk) hb.size) [] (hA _ _ _ _ _ hJ (Kpt.ofBelow _ hb)) (List.prefix_refl _)).mono ?_
    · cases h
      have h1 := (ho.lt g rfl).1
      have h2 := hfit g hm
      omega
    · rintro e w' ⟨b, rfl, pre, M', hj, hg, ht, hf⟩
      exact ⟨b, rfl, pre, M', hj, (Grw.ofBelow hb hfit).trans hg, ht, hf⟩
  obtain ⟨c0, c1, c2, c3⟩ := hbW
  dsimp only [Sp.pre] at c0 c1 c2 c3
  clear hS hbp hbl hk hRM hA hRn hJ hB hxs hx hw hp hq hfit
  obtain ⟨n, hn⟩ : ∃ n, n = xs.length := ⟨_, rfl⟩
  rw [← hn] at HS hcl HE hl
  clear hn
  go_enter Try.func48, Try.ntmps48
  go_wp2_with fail
  refine (HP.out _).mono ?_
  rintro e w2 ⟨rfl, hb2⟩
  have cl2 := (hb2.cell (p := ⟨Bl, 0, none⟩) hqW).trans hcl
  have hqW2 := Nat.lt_of_lt_of_le hqW hb2.size
  have HB2 := hidP hb2
  clear hb2 c0 c1 c2 c3 hcl
  go_wp2_with fail
  have HB3 := hidP (HB2.out.alloc HB2.out.size (.cells #[.bool x.s, .int .i64 x.H.toInt, .int .i64 x.L.toInt, .int .i64 (x.n : Int)] 50))
  obtain ⟨b0, b1, b2, b3⟩ := box_cells w2 50 ⟨x.s, x.H, x.L, (x.n : Int)⟩
  refine (HS.out _ HB3.out).mono ?_
  rintro e w3 ⟨g, rfl, ho, hb3⟩
  have lt2 : w2.heap.size < (w2.alloc (.cells #[.bool x.s, .int .i64 x.H.toInt, .int .i64 x.L.toInt, .int .i64 (x.n : Int)] 50)).heap.size := by simp
  have c0 := (hb3.cell (p := ⟨w2.heap.size, 0, none⟩) lt2).trans b0
  have c1 := (hb3.cell (p := ⟨w2.heap.size, 1, none⟩) lt2).trans b1
  have c2 := (hb3.cell (p := ⟨w2.heap.size, 2, none⟩) lt2).trans b2
  have c3 := (hb3.cell (p := ⟨w2.heap.size, 3, none⟩) lt2).trans b3
  have hlt : w2.heap.size < w3.heap.size := Nat.lt_of_lt_of_le lt2 hb3.size
  have HO := hidP (ho.mono HB3.out.size)
  have HB4 := hidP (HB3.out.trans (hb3.mono HB3.out.size))
  clear ho hb3 b0 b1 b2 b3 lt2 cl2
  go_wp2_with fail
  refine (HE.out g w3 HO.out HB4.out).mono ?_
  rintro e w4 ⟨b, rfl, h4⟩
  have H4 := hidP h4
  clear h4
  go_wp2_with fail
  go_end0
  exact ⟨⟨_, rfl⟩, b, H4.out⟩

set_option maxRecDepth 10000 in
set_option maxHeartbeats 2000000 in
theorem left_no (p : Pf) (a : Option Addr) (cap : Nat) (ps : List Pf) (w0 : World) (hB : Row w0 a ps) (hl : ps.length ≤ 1048576) (hno : (p.pok && rightP ps) = false) : LeftGives p a ps.length cap w0 [] := by
  intro w Bp Bl hw hbp hbl hp hq l J M W hk hRM hfit hA hRn hJ
  have hS : ∀ wx, Below W.heap.size W wx → Calls Try.prog 49 #[.slice a ps.length cap] wx fun e w' => ∃ a' n' c', e = .returned (.tuple #[.slice a' n' c', .bool (rightP ps)]) ∧ Below wx.heap.size wx w' := fun wx hb =>
    spansOf_res a cap ps wx ((hB.later (hw.trans ((hk.mono (N := fun k => k < w0.heap.size) fun k h => Or.inl h).below hw.size))).later hb) hl
  have HS := hidP hS
  have hbW : Box4 W Bp p := hbp.kpt hk hp (Or.inr (Or.inl rfl))
  have hcl : W.cell? ⟨Bl, 0, none⟩ = some (.slice a ps.length cap) := (hk.cell (p := ⟨Bl, 0, none⟩) hq (Or.inr (Or.inr rfl))).trans hbl
  have hpW : Bp < W.heap.size := Nat.lt_of_lt_of_le hp hk.size
  have hqW : Bl < W.heap.size := Nat.lt_of_lt_of_le hq hk.size
  have HE : Hid (∀ w', Below W.heap.size W w' → ∃ b, Ends J [] [] M W w' b) := hidP fun w' hb => ⟨true, [], M, hA _ _ _ _ _ hJ (Kpt.ofBelow _ hb), Grw.ofBelow hb hfit, fun _ => rfl, fun h => by cases h⟩
  obtain ⟨c0, c1, c2, c3⟩ := hbW
  clear hS hbp hbl hk hRM hA hRn hJ hB hw hp hq hfit
  obtain ⟨n, hn⟩ : ∃ n, n = ps.length := ⟨_, rfl⟩
  rw [← hn] at HS hcl hl
  clear hn
  cases hpk : pokB p.s p.H p.L p.b
  · have HP := hidP (spanOf_no p.s p.H p.L p.b hpk)
    clear hno hpk
    go_enter Try.func48, Try.ntmps48
    go_wp2_with fail
    refine (HP.out _).mono ?_
    rintro e w2 ⟨rfl, hb2⟩
    have cl2 := (hb2.cell (p := ⟨Bl, 0, none⟩) hqW).trans hcl
    have hqW2 := Nat.lt_of_lt_of_le hqW hb2.size
    have HB2 := hidP hb2
    clear hb2 c0 c1 c2 c3 hcl
    go_wp2_with fail
    have HB3 := hidP (HB2.out.alloc HB2.out.size (.cells #[.bool false, .int .i64 0, .int .i64 0, .int .i64 0] 50))
    refine (HS.out _ HB3.out).mono ?_
    rintro e w3 ⟨a3, n3, c3, rfl, hb3⟩
    have HB4 := hidP (HB3.out.trans (hb3.mono HB3.out.size))
    clear hb3 cl2
    go_wp2_with fail
    go_end0
    exact ⟨⟨_, rfl⟩, HE.out _ HB4.out⟩
  · have hr : rightP ps = false := by
      have h1 : p.pok = true := hpk
      rw [h1] at hno; simpa using hno
    simp only [hr] at HS
    clear hr hno
    obtain ⟨m, hm⟩ : ∃ m : Nat, (m : Int) = (wd p.s : Int) - p.b := ⟨((wd p.s : Int) - p.b).toNat, by have := (pokB_parts hpk).2.1; omega⟩
    have HP := hidP (spanOf_yes p.s p.H p.L p.b m hm hpk)
    clear hm hpk
    go_enter Try.func48, Try.ntmps48
    go_wp2_with fail
    refine (HP.out _).mono ?_
    rintro e w2 ⟨rfl, hb2⟩
    have cl2 := (hb2.cell (p := ⟨Bl, 0, none⟩) hqW).trans hcl
    have hqW2 := Nat.lt_of_lt_of_le hqW hb2.size
    have HB2 := hidP hb2
    clear hb2 c0 c1 c2 c3 hcl
    go_wp2_with fail
    have HB3 := hidP (HB2.out.alloc HB2.out.size (.cells #[.bool p.s, .int .i64 p.H.toInt, .int .i64 p.L.toInt, .int .i64 (m : Int)] 50))
    refine (HS.out _ HB3.out).mono ?_
    rintro e w3 ⟨a3, n3, c3, rfl, hb3⟩
    have HB4 := hidP (HB3.out.trans (hb3.mono HB3.out.size))
    clear hb3 cl2
    go_wp2_with fail
    go_end0
    exact ⟨⟨_, rfl⟩, HE.out _ HB4.out⟩

end Go.Proofs.Ytkpbidlcnjppkaa
namespace Go.Proofs.Ytkpbidlcnjppkaa
open Go.RowKit

attribute [local go_sem] Oper.semAt_some

def roomP (b : Int) (t : Sp) : Bool := decide ((wd t.s : Int) - t.n ≤ b)
def partL (s : Bool) (b : Int) (ys : List Sp) : List Sp := if (wd s : Int) < b then [] else ys.filter (roomP b)

/-- The program's partsFor, of p, a row and so many bits, hands out ys. -/
def PartGives (p : Pf) (a : Option Addr) (n cap : Nat) (bits : Int) (w0 : World) (ys : List Sp) : Prop := ∀ (w : World) (Bb Bp Bl : Nat), Below w0.heap.size w0 w → w.cell? ⟨Bb, 0, none⟩ = some (.int .i64 bits) → Box4 w Bp p → w.cell? ⟨Bl, 0, none⟩ = some (.slice a n cap) → w0.heap.size ≤ Bb → Bb < w.heap.size → Bp < w.heap.size → Bl < w.heap.size →
  Iter Try.prog 44 #[.pointer (some ⟨Bb, 0, none⟩), .pointer (some ⟨Bp, 0, none⟩), .pointer (some ⟨Bl, 0, none⟩)] encP ys (fun k => k < w0.heap.size ∨ k = Bb ∨ k = Bp ∨ k = Bl) w

set_option maxHeartbeats 1000000 in
theorem partsFor_any (p : Pf) (a : Option Addr) (n cap : Nat) (bits : Int) (w : World) :
    Calls Try.prog 31 #[.agg #[.bool p.s, .int .i64 p.H.toInt, .int .i64 p.L.toInt, .int .i64 p.b], .slice a n cap, .int .i64 bits] w fun e w' => e = .returned (.func (.func 44) #[] #[.pointer (some ⟨w.heap.size + 2, 0, none⟩), .pointer (some ⟨w.heap.size, 0, none⟩), .pointer (some ⟨w.heap.size + 1, 0, none⟩)]) ∧ w' = ((w.alloc (.cells #[.bool p.s, .int .i64 p.H.toInt, .int .i64 p.L.toInt, .int .i64 p.b] 27)).alloc (.cells #[.slice a n cap] 42)).alloc (.cells #[.int .i64 bits] 3) := by
  go_enter Try.func31, Try.ntmps31
  go_wp2
  go_ret
  exact ⟨rfl, rfl⟩

theorem filter_pre {α : Type} (f : α → Bool) {p xs : List α} (h : p <+: xs) : p.filter f <+: xs.filter f := by
  obtain ⟨t, rfl⟩ := h
  rw [List.filter_append]; exact List.prefix_append _ _

theorem cell_new (W : World) (v : Value) (t : TypeId) : (W.alloc (.cells #[v] t)).cell? ⟨W.heap.size, 0, none⟩ = some v := by
  have h := World.alloc_heap_new W (.cells #[v] t)
  unfold World.cell?
  rw [show (⟨W.heap.size, 0, none⟩ : Addr).block = W.heap.size from rfl, h]
  rfl

theorem cell_blk {A B : World} {p : Addr} (h : B.heap[p.block]? = A.heap[p.block]?) : B.cell? p = A.cell? p := World.cell?_of_block (w := A) h

/-- Between two rounds of the inner loop. -/
def ptJ (J : Bool → List Sp → (Nat → Prop) → World → Prop) (bits : Int) (W1 : World) (By Bb : Nat) (b : Bool) (pre : List Sp) (M1 : Nat → Prop) (V : World) : Prop :=
  ∃ M, (∀ k, M1 k ↔ (M k ∨ k = By ∨ k = Bb)) ∧ ¬ M By ∧ ¬ M Bb ∧ V.heap[By]? = W1.heap[By]? ∧ V.heap[Bb]? = W1.heap[Bb]? ∧ W1.heap.size ≤ V.heap.size ∧ J b (pre.filter (roomP bits)) M V

theorem pt_abd {J : Bool → List Sp → (Nat → Prop) → World → Prop} (hA : Abd J) {bits : Int} {W1 : World} {By Bb : Nat} (hy : By < W1.heap.size) (hb : Bb < W1.heap.size) {b : Bool} {pre : List Sp} {M1 : Nat → Prop} {A B : World}
    (h : ptJ J bits W1 By Bb b pre M1 A) (hk : Kpt M1 A B) : ptJ J bits W1 By Bb b pre M1 B := by
  obtain ⟨M, hM, n1, n2, e1, e2, hs, hj⟩ := h
  exact ⟨M, hM, n1, n2, (hk.block By (by omega) ((hM By).2 (Or.inr (Or.inl rfl)))).trans e1, (hk.block Bb (by omega) ((hM Bb).2 (Or.inr (Or.inr rfl)))).trans e2, Nat.le_trans hs hk.size, hA _ _ _ _ _ hj (hk.mono fun k h => (hM k).2 (Or.inl h))⟩

theorem pt_end {J : Bool → List Sp → (Nat → Prop) → World → Prop} (hA : Abd J) {bits : Int} {W W1 W3 V : World} {Bb : Nat} {b : Bool} {pre all xs : List Sp} {M M1 : Nat → Prop} (hW : Below W.heap.size W W1) (hW3 : Below W.heap.size W W3) (hbS : Bb < W.heap.size)
    (hp : ptJ J bits W1 W.heap.size Bb b pre M1 V) (hg : Grw (fun k => M k ∨ k = W.heap.size ∨ k = Bb) M1 W3 V) (D : Nat) (hD : W3.heap.size ≤ D) (hMD : ¬ M1 D) (ht : b = true → pre.filter (roomP bits) = xs) (hf : b = false → pre.filter (roomP bits) <+: all) :
    Ends J all xs M W (V.putObj D (.deferred none)) b := by
  obtain ⟨M', hM, n1, n2, e1, e2, hs, hj⟩ := hp
  have hz := hW3.size
  refine ⟨pre.filter (roomP bits), M', hA _ _ _ _ _ hj ((kpt_put V D _).mono fun k hk e => hMD ((hM D).2 (Or.inl (e ▸ hk)))), ⟨⟨hg.kept.os.trans hW3.os, hg.kept.tape.trans hW3.tape, hg.kept.output.trans hW3.output, by have := hg.kept.size; rw [World.putObj_size]; omega, fun k hk hn => ?_⟩, fun k hk hl => ?_, fun k hk => ?_⟩, ht, hf⟩
  · refine (World.putObj_heap_other (by omega)).trans ?_
    by_cases e : k = Bb
    · rw [e]; exact e2.trans (hW.block Bb hbS)
    · refine (hg.kept.block k (by omega) ?_).trans (hW3.block k hk)
      rintro (h | h | h)
      · exact hn h
      · omega
      · exact e h
  · rcases hg.old k ((hM k).2 (Or.inl hk)) (by omega) with h | h | h
    · exact h
    · omega
    · exact absurd (h ▸ hk) n2
  · rw [World.putObj_size]; exact hg.fit k ((hM k).2 (Or.inl hk))

theorem pt_next {J : Bool → List Sp → (Nat → Prop) → World → Prop} {bits : Int} {W1 V2 V3 : World} {By Bb : Nat} (hy : By < W1.heap.size) (hb : Bb < W1.heap.size) {b : Bool} {pre : List Sp} {x : Sp} {M1 M2 M3 : Nat → Prop}
    (hM : ∀ k, M1 k ↔ (M2 k ∨ k = By ∨ k = Bb)) (m1 : ¬ M2 By) (m2 : ¬ M2 Bb) (f1 : V2.heap[By]? = W1.heap[By]?) (f2 : V2.heap[Bb]? = W1.heap[Bb]?) (hs : W1.heap.size ≤ V2.heap.size)
    (hr : roomP bits x = true) (hj : J b (pre.filter (roomP bits) ++ [x]) M3 V3) (hg : Grw M2 M3 V2 V3) : ∃ M1', ptJ J bits W1 By Bb b (pre ++ [x]) M1' V3 ∧ Grw M1 M1' V2 V3 := by
  have hs3 := hg.kept.size
  refine ⟨fun k => M3 k ∨ k = By ∨ k = Bb, ⟨M3, fun _ => Iff.rfl, fun h => m1 (hg.old By h (by omega)), fun h => m2 (hg.old Bb h (by omega)), (hg.kept.block By (by omega) m1).trans f1, (hg.kept.block Bb (by omega) m2).trans f2, by omega, ?_⟩, ⟨hg.kept.mono fun k h h' => h ((hM k).2 (Or.inl h')), fun k h hl => (hM k).2 (h.imp (fun h => hg.old k h hl) id), fun k h => ?_⟩⟩
  · rw [List.filter_append, List.filter_cons_of_pos hr]; exact hj
  · rcases h with h | h | h
    · exact hg.fit k h
    · omega
    · omega

theorem lastB {W : World} {A B C D : Prop} {w' : World} (c : A ∧ B ∧ C ∧ D ∧ Below W.heap.size W w') : Below W.heap.size W w' := c.2.2.2.2

set_option maxRecDepth 10000 in
set_option maxHeartbeats 2000000 in
theorem part_gives (p : Pf) (a : Option Addr) (n cap : Nat) (bits : Int) (w0 : World) (ys : List Sp) (hL : LeftGives p a n cap w0 ys) : PartGives p a n cap bits w0 (partL p.s bits ys) := by
  intro w Bb Bp Bl hw hcb hbp hbl hb0 hb hp hq l J M W hk hRM hfit hA hRn hJ
  cases hgt : decide ((wd p.s : Int) < bits)
  · have hpl : partL p.s bits ys = ys.filter (roomP bits) := by unfold partL; rw [if_neg (of_decide_eq_false hgt)]
    rw [hpl] at hRn ⊢
    clear hpl
    have HL := hidP hL
    have hw2 : Below w0.heap.size w0 W := hw.trans ((hk.mono (N := fun k => k < w0.heap.size) fun k h => Or.inl h).below hw.size)
    have HW2 := hidP hw2
    have hbW : Box4 W Bp p := hbp.kpt hk hp (Or.inr (Or.inr (Or.inl rfl)))
    have cb : W.cell? ⟨Bb, 0, none⟩ = some (.int .i64 bits) := (hk.cell (p := ⟨Bb, 0, none⟩) hb (Or.inr (Or.inl rfl))).trans hcb
    have hcl : W.cell? ⟨Bl, 0, none⟩ = some (.slice a n cap) := (hk.cell (p := ⟨Bl, 0, none⟩) hq (Or.inr (Or.inr (Or.inr rfl)))).trans hbl
    have hbS : Bb < W.heap.size := Nat.lt_of_lt_of_le hb hk.size
    have hpW : Bp < W.heap.size := Nat.lt_of_lt_of_le hp hk.size
    have hqW : Bl < W.heap.size := Nat.lt_of_lt_of_le hq hk.size
    have HRM := hidP hRM
    have HFit := hidP hfit
    have HA := hidP hA
    have HRn := hidP hRn
    have HJ := hidP hJ
    obtain ⟨c0, c1, c2, c3⟩ := hbW
    have HWd := hidP (width_any p.s p.H.toInt p.L.toInt)
    clear hL hw hw2 hcb hbp hbl hb hp hq hk hRM hfit hA hRn hJ
    refine (callsIn_wide (n := 9)).1 (callsIn_of_wp_marks Try.func44 rfl trivial ?_ rfl)
    simp only [Try.ntmps44, List.size_toArray, List.length_cons, List.length_nil, Nat.reduceAdd, Nat.reduceSub, Array.replicate_succ, Array.replicate_zero, List.push_toArray, List.append_toArray, List.nil_append, List.cons_append]
    gi_wp2
    have hs1 : (W.alloc (.cells #[.func (.yield l) #[] #[]] 47)).heap.size = W.heap.size + 1 := by simp
    have hy1 : (W.alloc (.cells #[.func (.yield l) #[] #[]] 47)).cell? ⟨W.heap.size, 0, none⟩ = some (.func (.yield l) #[] #[]) := cell_new W _ _
    have hb1 : Below W.heap.size W (W.alloc (.cells #[.func (.yield l) #[] #[]] 47)) := (Below.refl _ W).alloc (Nat.le_refl _) _
    generalize W.alloc (.cells #[.func (.yield l) #[] #[]] 47) = W1 at *
    have HSx : Hid (∀ w', Below W1.heap.size W1 w' → (w'.cell? ⟨Bb, 0, none⟩ = some (.int .i64 bits) ∧ w'.cell? ⟨Bp, 0, none⟩ = some (.bool p.s) ∧ w'.cell? ⟨Bp, 1, none⟩ = some (.int .i64 p.H.toInt) ∧ w'.cell? ⟨Bp, 2, none⟩ = some (.int .i64 p.L.toInt) ∧ Below W1.heap.size W1 w')) := hidP fun w' h =>
      have e : ∀ q : Addr, q.block < W.heap.size → w'.cell? q = W.cell? q := fun q hq => (h.cell (p := q) (by omega)).trans (hb1.cell (p := q) hq)
      ⟨(e ⟨Bb, 0, none⟩ hbS).trans cb, (e ⟨Bp, 0, none⟩ hpW).trans c0, (e ⟨Bp, 1, none⟩ hpW).trans c1, (e ⟨Bp, 2, none⟩ hpW).trans c2, h⟩
    have HSy : Hid (∀ w', Below W1.heap.size W1 w' → (w'.cell? ⟨Bp, 3, none⟩ = some (.int .i64 p.b) ∧ w'.cell? ⟨Bl, 0, none⟩ = some (.slice a n cap) ∧ w'.cell? ⟨W.heap.size, 0, none⟩ = some (.func (.yield l) #[] #[]))) := hidP fun w' h =>
      have e : ∀ q : Addr, q.block < W.heap.size → w'.cell? q = W.cell? q := fun q hq => (h.cell (p := q) (by omega)).trans (hb1.cell (p := q) hq)
      ⟨(e ⟨Bp, 3, none⟩ hpW).trans c3, (e ⟨Bl, 0, none⟩ hqW).trans hcl, (h.cell (p := ⟨W.heap.size, 0, none⟩) (show W.heap.size < W1.heap.size by omega)).trans hy1⟩
    have HB1 := hidP hb1
    have HY1 := hidP hy1
    clear c0 c1 c2 c3 cb hcl hy1 hb1
    have hS0 := HSx.out W1 (Below.refl _ _)
    obtain ⟨cb, c0, c1, c2, _⟩ := HSx.out W1 (Below.refl _ _)
    have hbS1 : Bb < W1.heap.size := by omega
    have hpW1 : Bp < W1.heap.size := by omega
    have hqW1 : Bl < W1.heap.size := by omega
    refine wpIn_wide.2 ?_
    go_region_held3 (fun w' => w'.cell? ⟨Bb, 0, none⟩ = some (.int .i64 bits) ∧ w'.cell? ⟨Bp, 0, none⟩ = some (.bool p.s) ∧ w'.cell? ⟨Bp, 1, none⟩ = some (.int .i64 p.H.toInt) ∧ w'.cell? ⟨Bp, 2, none⟩ = some (.int .i64 p.L.toInt) ∧ Below W1.heap.size W1 w') (first | (with_reducible exact HSx.out _ b2) | (with_reducible exact hS0) | (with_reducible exact HSx.out _ (Below.refl _ _).drew) | (with_reducible exact HSx.out _ (Below.refl _ _))) (first | (go_at_call_of 16 (Value.int IntKind.i64 p.H.toInt); refine (HWd.out _).mono ?_; rintro e w2 ⟨rfl, hb2⟩; have b2 := (lastB (by assumption)).trans (hb2.mono (lastB (by assumption)).size)))
    all_goals
      have HB2 := hidP b2
      clear hb2 b2
      obtain ⟨cb', c0', c1', c2', _⟩ := HSx.out w2 HB2.out
      obtain ⟨c3', cl', cy'⟩ := HSy.out w2 HB2.out
      have hz2 := HB2.out.size
      gi_wp2
      refine ⟨trivial, (callsIn_wide.2 (leftOf_any p a n cap _)).mono ?_⟩
      rintro e w3 ⟨rfl, rfl⟩
      have hz3 : ((w2.alloc (.cells #[.bool p.s, .int .i64 p.H.toInt, .int .i64 p.L.toInt, .int .i64 p.b] 27)).alloc (.cells #[.slice a n cap] 42)).heap.size = w2.heap.size + 2 := by simp
      have hb3 : Below w2.heap.size w2 ((w2.alloc (.cells #[.bool p.s, .int .i64 p.H.toInt, .int .i64 p.L.toInt, .int .i64 p.b] 27)).alloc (.cells #[.slice a n cap] 42)) := ((Below.refl _ w2).alloc (Nat.le_refl _) _).alloc (by simp) _
      have hx3 : Box4 ((w2.alloc (.cells #[.bool p.s, .int .i64 p.H.toInt, .int .i64 p.L.toInt, .int .i64 p.b] 27)).alloc (.cells #[.slice a n cap] 42)) w2.heap.size p := Box4.later (box_cells w2 27 p) ((Below.refl _ _).alloc (Nat.le_refl _) _) (by simp)
      have hx4 : ((w2.alloc (.cells #[.bool p.s, .int .i64 p.H.toInt, .int .i64 p.L.toInt, .int .i64 p.b] 27)).alloc (.cells #[.slice a n cap] 42)).cell? ⟨w2.heap.size + 1, 0, none⟩ = some (.slice a n cap) := by
        have h := cell_new (w2.alloc (.cells #[.bool p.s, .int .i64 p.H.toInt, .int .i64 p.L.toInt, .int .i64 p.b] 27)) (.slice a n cap) 42
        rw [World.size_alloc] at h; exact h
      gi_wp2
      generalize ((w2.alloc (.cells #[.bool p.s, .int .i64 p.H.toInt, .int .i64 p.L.toInt, .int .i64 p.b] 27)).alloc (.cells #[.slice a n cap] 42)) = W3 at *
      have HBW3 : Hid (Below W1.heap.size W1 W3) := hidP (HB2.out.trans (hb3.mono hz2))
      have HBW : Hid (Below W.heap.size W W3) := hidP (HB1.out.trans (HBW3.out.mono HB1.out.size))
      have HIt := hidP (HL.out W3 w2.heap.size (w2.heap.size + 1) (HW2.out.trans (HBW.out.mono HW2.out.size)) hx3 hx4 (by omega) (by omega))
      have hw0 : w0.heap.size ≤ W.heap.size := HW2.out.size
      clear hb3 hx3 hx4
      refine wp_range (gf := 48) (lb := #[.pointer (some ⟨w2.heap.size, 0, none⟩), .pointer (some ⟨w2.heap.size + 1, 0, none⟩)]) rfl (enters_of Try.func48 (by kernel_rfl) rfl) HIt.out (fun _ => rfl) (fun k h => by omega)
        (ptJ J bits W1 W.heap.size Bb true) (fun c pre M1 V => c = .ret ∧ ptJ J bits W1 W.heap.size Bb false pre M1 V) (fun _ _ _ _ h hk => pt_abd HA.out (by omega) (by omega) h hk) (fun _ _ _ _ _ h hk => ⟨h.1, pt_abd HA.out (by omega) (by omega) h.2 hk⟩)
        (fun k => M k ∨ k = W.heap.size ∨ k = Bb) (fun k h => h.elim (fun h => by have := HFit.out k h; omega) fun h => by omega) (fun k h hm => ?dis)
        ⟨M, fun _ => Iff.rfl, fun h => by have := HFit.out _ h; omega, HRM.out Bb (Or.inr (Or.inl rfl)), HBW3.out.block _ (by omega), HBW3.out.block _ (by omega), HBW3.out.size, HA.out _ _ _ _ _ HJ.out (Kpt.ofBelow _ HBW.out)⟩ ?round ?done ?stop
      case dis =>
        rcases hm with hm | hm | hm
        · have hf := HFit.out k hm
          rcases h with h | h | h
          · exact HRM.out k (Or.inl h) hm
          · omega
          · omega
        · omega
        · omega
      case done =>
        rintro D M1 V hD hDl hMD hp hg hK
        gi_wp2
        refine ⟨by simp, .inl ⟨_, _, rfl, run_takeDeferred hK, ?_⟩⟩
        exact ⟨_, results_none rfl _ _ _, ⟨⟨_, rfl⟩, true, pt_end HA.out HB1.out HBW.out hbS hp hg D hD hMD (fun _ => rfl) (fun h => by cases h)⟩⟩
      case stop =>
        rintro D c pre M1 V hD hDl hMD hpre ⟨rfl, hp⟩ hg hK
        gi_wp2
        refine ⟨by simp, .inl ⟨_, _, rfl, run_takeDeferred hK, ?_⟩⟩
        exact ⟨_, results_none rfl _ _ _, ⟨⟨_, rfl⟩, false, pt_end HA.out HB1.out HBW.out hbS hp hg D hD hMD (fun h => by cases h) (fun _ => filter_pre _ hpre)⟩⟩
      case round =>
        intro l' pre x M1 V _ hf hl' _ hlt hpre
        unfold encP
        refine rnd_of ?_
        intro K' HK'
        have HF0 := hidP hf
        have HPr := hidP hpre
        clear hf hl' hpre
        gi_wp2
        refine HK'.out _ _ ⟨(Below.refl _ V).alloc (Nat.le_refl _) _, ?_⟩
        clear HK'
        intro V2 hk2 hs2 hi2
        obtain ⟨M2, hM2, m1, m2, f1, f2, hsz2, hj2⟩ := hi2
        have cy := (cell_blk (A := W1) (p := ⟨W.heap.size, 0, none⟩) f1).trans HY1.out
        have cb2 := (cell_blk (A := W1) (p := ⟨Bb, 0, none⟩) f2).trans cb
        obtain ⟨x0, x1, x2, x3⟩ := box_cells V 27 x.pre
        have lV : V.heap.size < (V.alloc (.cells #[.bool x.s, .int .i64 x.H.toInt, .int .i64 x.L.toInt, .int .i64 ((wd x.s : Int) - x.n)] 27)).heap.size := by simp
        have nV : V.heap.size ≠ l' := by omega
        have y0 := (hk2.cell (p := ⟨V.heap.size, 0, none⟩) lV nV).trans x0
        have y1 := (hk2.cell (p := ⟨V.heap.size, 1, none⟩) lV nV).trans x1
        have y2 := (hk2.cell (p := ⟨V.heap.size, 2, none⟩) lV nV).trans x2
        have y3 := (hk2.cell (p := ⟨V.heap.size, 3, none⟩) lV nV).trans x3
        dsimp only [Sp.pre] at y0 y1 y2 y3
        have hVs : V.heap.size < V2.heap.size := by rw [hs2]; exact lV
        have hWs : W.heap.size < V2.heap.size := by omega
        have hBs : Bb < V2.heap.size := by omega
        have fit2 : ∀ k, M2 k → k < V2.heap.size := fun k h => by have := HF0.out k ((hM2 k).2 (Or.inl h)); omega
        have fit1 : ∀ k, M1 k → k < V2.heap.size := fun k h => by have := HF0.out k h; omega
        cases hr : decide ((wd x.s : Int) - x.n ≤ bits)
        · have HF : Hid (∃ M', ptJ J bits W1 W.heap.size Bb true (pre ++ [x]) M' V2 ∧ Grw M1 M' V2 V2) := hidP ⟨M1, ⟨M2, hM2, m1, m2, f1, f2, hsz2, by rw [List.filter_append, List.filter_cons_of_neg (by unfold roomP; rw [hr]; simp), List.filter_nil, List.append_nil]; exact hj2⟩, Grw.refl fit1⟩
          clear hk2 hs2 hM2 m1 m2 f1 f2 hsz2 hj2 x0 x1 x2 x3 lV nV fit2 fit1
          gi_wp2
          first | exact HF.out | (refine ⟨fun _ h => (by cases h), ?_⟩; gi_wp2; exact HF.out) | trace_state
        · have hpx : pre.filter (roomP bits) ++ [x] <+: ys.filter (roomP bits) := by
            have h := filter_pre (roomP bits) HPr.out
            rw [List.filter_append, List.filter_cons_of_pos (show roomP bits x = true from hr)] at h
            exact h
          obtain ⟨fn, tmps, assign, body, hy, hRd⟩ := HRn.out 8 (pre.filter (roomP bits)) x M2 V2 hj2 fit2 hpx
          dsimp only [encP] at hy
          have HRd := hidP hRd
          have HN : Hid (∀ (b : Bool) (M3 : Nat → Prop) (V3 : World), J b (pre.filter (roomP bits) ++ [x]) M3 V3 → Grw M2 M3 V2 V3 → ∃ M1', ptJ J bits W1 W.heap.size Bb b (pre ++ [x]) M1' V3 ∧ Grw M1 M1' V2 V3) := hidP fun b M3 V3 hj hg => pt_next (show W.heap.size < W1.heap.size by omega) hbS1 hM2 m1 m2 f1 f2 hsz2 hr hj hg
          clear hk2 hs2 hM2 m1 m2 f1 f2 hsz2 hj2 x0 x1 x2 x3 lV nV fit2 fit1 hpx hRd
          gi_wp2
          refine RoundIn.mono (F := Fence.wide.inRound l') HRd.out ?_
          rintro e V3 ⟨b, M3, rfl, hj3, hg3⟩
          have HG := hidP (HN.out b M3 V3 hj3 hg3)
          clear hj3 hg3
          cases b
          · gi_wp2
            obtain ⟨M4, h1, h2⟩ := HG.out
            exact ⟨M4, ⟨rfl, h1⟩, h2⟩
          · gi_wp2
            exact HG.out
  · have hpl : partL p.s bits ys = [] := by unfold partL; rw [if_pos (of_decide_eq_true hgt)]
    rw [hpl] at hRn ⊢
    clear hpl
    have HL := hidP hL
    have hw2 : Below w0.heap.size w0 W := hw.trans ((hk.mono (N := fun k => k < w0.heap.size) fun k h => Or.inl h).below hw.size)
    have HW2 := hidP hw2
    have hbW : Box4 W Bp p := hbp.kpt hk hp (Or.inr (Or.inr (Or.inl rfl)))
    have cb : W.cell? ⟨Bb, 0, none⟩ = some (.int .i64 bits) := (hk.cell (p := ⟨Bb, 0, none⟩) hb (Or.inr (Or.inl rfl))).trans hcb
    have hcl : W.cell? ⟨Bl, 0, none⟩ = some (.slice a n cap) := (hk.cell (p := ⟨Bl, 0, none⟩) hq (Or.inr (Or.inr (Or.inr rfl)))).trans hbl
    have hbS : Bb < W.heap.size := Nat.lt_of_lt_of_le hb hk.size
    have hpW : Bp < W.heap.size := Nat.lt_of_lt_of_le hp hk.size
    have hqW : Bl < W.heap.size := Nat.lt_of_lt_of_le hq hk.size
    have HRM := hidP hRM
    have HFit := hidP hfit
    have HA := hidP hA
    have HRn := hidP hRn
    have HJ := hidP hJ
    obtain ⟨c0, c1, c2, c3⟩ := hbW
    have HWd := hidP (width_any p.s p.H.toInt p.L.toInt)
    clear hL hw hw2 hcb hbp hbl hb hp hq hk hRM hfit hA hRn hJ
    refine (callsIn_wide (n := 9)).1 (callsIn_of_wp_marks Try.func44 rfl trivial ?_ rfl)
    simp only [Try.ntmps44, List.size_toArray, List.length_cons, List.length_nil, Nat.reduceAdd, Nat.reduceSub, Array.replicate_succ, Array.replicate_zero, List.push_toArray, List.append_toArray, List.nil_append, List.cons_append]
    gi_wp2
    have hs1 : (W.alloc (.cells #[.func (.yield l) #[] #[]] 47)).heap.size = W.heap.size + 1 := by simp
    have hy1 : (W.alloc (.cells #[.func (.yield l) #[] #[]] 47)).cell? ⟨W.heap.size, 0, none⟩ = some (.func (.yield l) #[] #[]) := cell_new W _ _
    have hb1 : Below W.heap.size W (W.alloc (.cells #[.func (.yield l) #[] #[]] 47)) := (Below.refl _ W).alloc (Nat.le_refl _) _
    generalize W.alloc (.cells #[.func (.yield l) #[] #[]] 47) = W1 at *
    have HSx : Hid (∀ w', Below W1.heap.size W1 w' → (w'.cell? ⟨Bb, 0, none⟩ = some (.int .i64 bits) ∧ w'.cell? ⟨Bp, 0, none⟩ = some (.bool p.s) ∧ w'.cell? ⟨Bp, 1, none⟩ = some (.int .i64 p.H.toInt) ∧ w'.cell? ⟨Bp, 2, none⟩ = some (.int .i64 p.L.toInt) ∧ Below W1.heap.size W1 w')) := hidP fun w' h =>
      have e : ∀ q : Addr, q.block < W.heap.size → w'.cell? q = W.cell? q := fun q hq => (h.cell (p := q) (by omega)).trans (hb1.cell (p := q) hq)
      ⟨(e ⟨Bb, 0, none⟩ hbS).trans cb, (e ⟨Bp, 0, none⟩ hpW).trans c0, (e ⟨Bp, 1, none⟩ hpW).trans c1, (e ⟨Bp, 2, none⟩ hpW).trans c2, h⟩
    have HSy : Hid (∀ w', Below W1.heap.size W1 w' → (w'.cell? ⟨Bp, 3, none⟩ = some (.int .i64 p.b) ∧ w'.cell? ⟨Bl, 0, none⟩ = some (.slice a n cap) ∧ w'.cell? ⟨W.heap.size, 0, none⟩ = some (.func (.yield l) #[] #[]))) := hidP fun w' h =>
      have e : ∀ q : Addr, q.block < W.heap.size → w'.cell? q = W.cell? q := fun q hq => (h.cell (p := q) (by omega)).trans (hb1.cell (p := q) hq)
      ⟨(e ⟨Bp, 3, none⟩ hpW).trans c3, (e ⟨Bl, 0, none⟩ hqW).trans hcl, (h.cell (p := ⟨W.heap.size, 0, none⟩) (show W.heap.size < W1.heap.size by omega)).trans hy1⟩
    have HB1 := hidP hb1
    have HY1 := hidP hy1
    clear c0 c1 c2 c3 cb hcl hy1 hb1
    have hS0 := HSx.out W1 (Below.refl _ _)
    obtain ⟨cb, c0, c1, c2, _⟩ := HSx.out W1 (Below.refl _ _)
    have hbS1 : Bb < W1.heap.size := by omega
    have hpW1 : Bp < W1.heap.size := by omega
    have hqW1 : Bl < W1.heap.size := by omega
    refine wpIn_wide.2 ?_
    go_region_held3 (fun w' => w'.cell? ⟨Bb, 0, none⟩ = some (.int .i64 bits) ∧ w'.cell? ⟨Bp, 0, none⟩ = some (.bool p.s) ∧ w'.cell? ⟨Bp, 1, none⟩ = some (.int .i64 p.H.toInt) ∧ w'.cell? ⟨Bp, 2, none⟩ = some (.int .i64 p.L.toInt) ∧ Below W1.heap.size W1 w') (first | (with_reducible exact HSx.out _ b2) | (with_reducible exact hS0) | (with_reducible exact HSx.out _ (Below.refl _ _).drew) | (with_reducible exact HSx.out _ (Below.refl _ _))) (first | (go_at_call_of 16 (Value.int IntKind.i64 p.H.toInt); refine (HWd.out _).mono ?_; rintro e w2 ⟨rfl, hb2⟩; have b2 := (lastB (by assumption)).trans (hb2.mono (lastB (by assumption)).size)))
    all_goals
      have HB2 := hidP b2
      have HE : Hid (∃ b, Ends J [] [] M W w2 b) := hidP ⟨true, [], M, HA.out _ _ _ _ _ HJ.out (Kpt.ofBelow _ (HB1.out.trans (b2.mono HB1.out.size))), Grw.ofBelow (HB1.out.trans (b2.mono HB1.out.size)) HFit.out, fun _ => rfl, fun h => by cases h⟩
      clear hb2 b2
      gi_wp2
      exact ⟨_, results_none rfl _ _ _, ⟨⟨_, rfl⟩, HE.out⟩⟩

end Go.Proofs.Ytkpbidlcnjppkaa
namespace Go.Proofs.Ytkpbidlcnjppkaa
open Go.RowKit

attribute [local go_sem] Oper.semAt_some

theorem lt_heap {A : World} {k : Nat} {o : Obj} (h : A.heap[k]? = some o) : k < A.heap.size := (Array.getElem?_eq_some_iff.1 h).1
theorem Kpt.at {M : Nat → Prop} {A B : World} {k : Nat} {o : Obj} (hk : Kpt M A B) (hm : M k) (h : A.heap[k]? = some o) : B.heap[k]? = some o := (hk.block k (lt_heap h) hm).trans h
theorem kpt_set {M : Nat → Prop} (V : World) (p : Addr) (u : Value) (hm : M p.block) : Kpt (fun k => ¬ M k) V (V.setCell p u) :=
  ⟨rfl, rfl, rfl, by simp [World.setCell], fun k _ hk => Below.heap_setCell V p u k fun e => hk (e ▸ hm)⟩
theorem Grw.set {M M' : Nat → Prop} {A V : World} (h : Grw M M' A V) (p : Addr) (u : Value) (hm : M' p.block) : Grw M M' A (V.setCell p u) :=
  h.trans ⟨kpt_set V p u hm, fun _ h _ => h, fun k hk => by rw [show (V.setCell p u).heap.size = V.heap.size by simp [World.setCell]]; exact h.fit k hk⟩
theorem set1 {V : World} {k : Nat} {v u : Value} {t : TypeId} (h : V.heap[k]? = some (.cells #[v] t)) : (V.setCell ⟨k, 0, none⟩ u).heap[k]? = some (.cells #[u] t) := by
  simp [World.setCell, Array.getElem?_modify, h]
theorem set4 {V : World} {k : Nat} {a b c d a' b' c' d' : Value} {t : TypeId} (h : V.heap[k]? = some (.cells #[a, b, c, d] t)) : ((((V.setCell ⟨k, 0, none⟩ a').setCell ⟨k, 1, none⟩ b').setCell ⟨k, 2, none⟩ c').setCell ⟨k, 3, none⟩ d').heap[k]? = some (.cells #[a', b', c', d'] t) := by
  simp [World.setCell, Array.getElem?_modify, h]
theorem setO {V : World} {k : Nat} {p : Addr} {u : Value} {o : Obj} (hne : k ≠ p.block) (h : V.heap[k]? = some o) : (V.setCell p u).heap[k]? = some o := (Below.heap_setCell V p u k hne).trans h
theorem of1 {V : World} {k : Nat} {v : Value} {t : TypeId} (h : V.heap[k]? = some (.cells #[v] t)) : V.cell? ⟨k, 0, none⟩ = some v ∧ V.frozen? ⟨k, 0, none⟩ = false := by
  constructor <;> simp [World.cell?, World.frozen?, h]
theorem of4 {V : World} {k : Nat} {a b c d : Value} {t : TypeId} (h : V.heap[k]? = some (.cells #[a, b, c, d] t)) : (V.cell? ⟨k, 0, none⟩ = some a ∧ V.cell? ⟨k, 1, none⟩ = some b ∧ V.cell? ⟨k, 2, none⟩ = some c ∧ V.cell? ⟨k, 3, none⟩ = some d) ∧ V.frozen? ⟨k, 0, none⟩ = false ∧ V.frozen? ⟨k, 1, none⟩ = false ∧ V.frozen? ⟨k, 2, none⟩ = false ∧ V.frozen? ⟨k, 3, none⟩ = false := by
  refine ⟨⟨?_, ?_, ?_, ?_⟩, ?_, ?_, ?_, ?_⟩ <;> simp [World.cell?, World.frozen?, h]
/-- Blocks laid one behind another. -/
def allocs (w : World) : List Obj → World
  | [] => w
  | o :: t => allocs (w.alloc o) t
theorem allocs_below : ∀ (os : List Obj) (w : World), Below w.heap.size w (allocs w os)
  | [], w => Below.refl _ w
  | o :: t, w => ((Below.refl _ w).alloc (Nat.le_refl _) o).trans ((allocs_below t (w.alloc o)).mono (by simp))
theorem allocs_size : ∀ (os : List Obj) (w : World), (allocs w os).heap.size = w.heap.size + os.length
  | [], _ => rfl
  | o :: t, w => by
      show (allocs (w.alloc o) t).heap.size = _
      rw [allocs_size t, World.size_alloc, List.length_cons]; omega
theorem allocs_at : ∀ (os : List Obj) (w : World) (i : Nat) (o : Obj), os[i]? = some o → (allocs w os).heap[w.heap.size + i]? = some o
  | [], _, _, _, h => by simp at h
  | o :: t, w, 0, o', h => by
      have e : o = o' := by simpa using h
      rw [← e]
      exact ((allocs_below t (w.alloc o)).block w.heap.size (by simp)).trans (World.alloc_heap_new w o)
  | o :: t, w, i + 1, o', h => by
      have := allocs_at t (w.alloc o) i o' (by simpa using h)
      rw [World.size_alloc] at this
      rw [show w.heap.size + (i + 1) = w.heap.size + 1 + i by omega]
      exact this
theorem bel_end {w w7 V : World} {M M' : Nat → Prop} (hb : Below w.heap.size w w7) (hg : Grw M M' w7 V) (hM : ∀ k, M k → w.heap.size ≤ k) {D : Nat} (hD : w7.heap.size ≤ D) (o : Obj) : Below w.heap.size w (V.putObj D o) := by
  have hz := hb.size
  exact ⟨hg.kept.os.trans hb.os, hg.kept.tape.trans hb.tape, hg.kept.output.trans hb.output, by have := hg.kept.size; rw [World.putObj_size]; omega, fun k hk => (World.putObj_heap_other (by omega)).trans ((hg.kept.block k (by omega) fun h => by have := hM k h; omega).trans (hb.block k hk))⟩

/-- What FirstFree answers where zs are handed out. -/
def frsV (bits : Int) : List Sp → Value
  | [] => .tuple #[.agg #[.bool false, .int .i64 0, .int .i64 0, .int .i64 0], .bool false]
  | z :: _ => .tuple #[.agg #[.bool z.s, .int .i64 z.H.toInt, .int .i64 z.L.toInt, .int .i64 bits], .bool true]
def frM (s : Nat) (k : Nat) : Prop := k = s + 1 ∨ k = s + 2 ∨ k = s + 3

set_option maxRecDepth 10000 in
set_option maxHeartbeats 2000000 in
theorem iFirst (p : Pf) (a : Option Addr) (n cap : Nat) (bits : Int) (w : World) (zs : List Sp) (hP : PartGives p a n cap bits w zs) :
    Calls Try.prog 17 #[.agg #[.bool p.s, .int .i64 p.H.toInt, .int .i64 p.L.toInt, .int .i64 p.b], .slice a n cap, .int .i64 bits] w fun e w' => e = .returned (frsV bits zs) ∧ Below w.heap.size w w' := by
  have HP := hidP hP
  clear hP
  refine (callsIn_wide (n := 9)).1 (callsIn_of_wp_marks Try.func17 rfl trivial ?_ rfl)
  simp only [Try.ntmps17, List.size_toArray, List.length_cons, List.length_nil, Nat.reduceAdd, Nat.reduceSub, Array.replicate_succ, Array.replicate_zero, List.push_toArray, List.append_toArray, List.nil_append, List.cons_append]
  gi_wp2
  refine ⟨trivial, (callsIn_wide.2 (partsFor_any p a n cap bits _)).mono ?_⟩
  rintro e w7 ⟨rfl, hw7⟩
  obtain ⟨os, hos⟩ : ∃ os : List Obj, os = [.cells #[.bool p.s, .int .i64 p.H.toInt, .int .i64 p.L.toInt, .int .i64 p.b] 27, .cells #[.int .i64 bits] 3, .cells #[.bool false, .int .i64 0, .int .i64 0, .int .i64 0] 27, .cells #[.bool false] 4, .cells #[.bool p.s, .int .i64 p.H.toInt, .int .i64 p.L.toInt, .int .i64 p.b] 27, .cells #[.slice a n cap] 42, .cells #[.int .i64 bits] 3] := ⟨_, rfl⟩
  have hw : w7 = allocs w os := by rw [hos]; exact hw7
  have hz : w7.heap.size = w.heap.size + 7 := by rw [hw, allocs_size, hos]; rfl
  have hb : Below w.heap.size w w7 := by rw [hw]; exact allocs_below os w
  have hat : ∀ i o, os[i]? = some o → w7.heap[w.heap.size + i]? = some o := by rw [hw]; exact allocs_at os w
  subst hos
  have h1 := hat 1 _ rfl
  have h2 := hat 2 _ rfl
  have h3 := hat 3 _ rfl
  have h4 := hat 4 _ rfl
  have h5 := hat 5 _ rfl
  have h6 := hat 6 _ rfl
  have HB := hidP hb
  have H1 := hidP h1
  have H2 := hidP h2
  have H3 := hidP h3
  have HIt := hidP (HP.out w7 (w.heap.size + 6) (w.heap.size + 4) (w.heap.size + 5) hb (of1 h6).1 (of4 h4).1 (of1 h5).1 (by omega) (by omega) (by omega) (by omega))
  clear hw7 hw hat hb h1 h2 h3 h4 h5 h6
  gi_wp2
  refine wp_range (gf := 44) (lb := #[.pointer (some ⟨w.heap.size + 6, 0, none⟩), .pointer (some ⟨w.heap.size + 4, 0, none⟩), .pointer (some ⟨w.heap.size + 5, 0, none⟩)]) rfl (enters_of Try.func44 (by kernel_rfl) rfl) HIt.out (fun _ => rfl) (fun k h => by omega)
    (fun pre M V => pre = [] ∧ M = frM w.heap.size ∧ V.heap[w.heap.size + 1]? = some (.cells #[.int .i64 bits] 3) ∧ V.heap[w.heap.size + 2]? = some (.cells #[.bool false, .int .i64 0, .int .i64 0, .int .i64 0] 27) ∧ V.heap[w.heap.size + 3]? = some (.cells #[.bool false] 4))
    (fun c pre M V => c = .ret ∧ M = frM w.heap.size ∧ ∃ z : Sp, pre = [z] ∧ V.heap[w.heap.size + 2]? = some (.cells #[.bool z.s, .int .i64 z.H.toInt, .int .i64 z.L.toInt, .int .i64 bits] 27) ∧ V.heap[w.heap.size + 3]? = some (.cells #[.bool true] 4))
    (fun pre M A B h hk => ?hI) (fun c pre M A B h hk => ?hX) (frM w.heap.size) (fun k h => by unfold frM at h; omega) (fun k h hm => by unfold frM at hm; omega) ⟨rfl, rfl, H1.out, H2.out, H3.out⟩ ?round ?done ?stop
  case hI =>
    obtain ⟨rfl, rfl, h1, h2, h3⟩ := h
    exact ⟨rfl, rfl, hk.at (Or.inl rfl) h1, hk.at (Or.inr (Or.inl rfl)) h2, hk.at (Or.inr (Or.inr rfl)) h3⟩
  case hX =>
    obtain ⟨rfl, rfl, z, rfl, h2, h3⟩ := h
    exact ⟨rfl, rfl, z, rfl, hk.at (Or.inr (Or.inl rfl)) h2, hk.at (Or.inr (Or.inr rfl)) h3⟩
  case stop =>
    rintro D c pre M1 V hD hDl hMD hpre ⟨rfl, rfl, z, rfl, h2, h3⟩ hg hK
    obtain ⟨t, rfl⟩ := hpre
    have k2 := (World.putObj_heap_other (w := V) (o := .deferred none) (show w.heap.size + 2 ≠ D by omega)).trans h2
    have k3 := (World.putObj_heap_other (w := V) (o := .deferred none) (show w.heap.size + 3 ≠ D by omega)).trans h3
    obtain ⟨⟨g0, g1, g2, g3⟩, _⟩ := of4 k2
    have g4 := (of1 k3).1
    have HE := hidP (bel_end HB.out hg (fun k h => by unfold frM at h; omega) hD (.deferred none))
    clear h2 h3 k2 k3 hg
    gi_wp2
    refine ⟨by simp, .inl ⟨_, _, rfl, run_takeDeferred hK, ?_⟩⟩
    exact ⟨.tuple #[.agg #[.bool z.s, .int .i64 z.H.toInt, .int .i64 z.L.toInt, .int .i64 bits], .bool true], by simp [results, Try.results17, go_sem, g0, g1, g2, g3, g4], rfl, HE.out⟩
  case done =>
    rintro D M1 V hD hDl hMD ⟨rfl, rfl, h1, h2, h3⟩ hg hK
    have G1 : Grw (frM w.heap.size) (frM w.heap.size) V (((((V.setCell ⟨w.heap.size + 2, 0, none⟩ (.bool false)).setCell ⟨w.heap.size + 2, 1, none⟩ (.int .i64 0)).setCell ⟨w.heap.size + 2, 2, none⟩ (.int .i64 0)).setCell ⟨w.heap.size + 2, 3, none⟩ (.int .i64 0)).setCell ⟨w.heap.size + 3, 0, none⟩ (.bool false)) :=
      ((((Grw.refl hg.fit).set _ _ (Or.inr (Or.inl rfl))).set _ _ (Or.inr (Or.inl rfl))).set _ _ (Or.inr (Or.inl rfl))).set _ _ (Or.inr (Or.inl rfl)) |>.set _ _ (Or.inr (Or.inr rfl))
    have HK := hidP ((G1.kept.block D hDl hMD).trans hK)
    have e2 := setO (k := w.heap.size + 2) (p := ⟨w.heap.size + 3, 0, none⟩) (u := .bool false) (show w.heap.size + 2 ≠ w.heap.size + 3 by omega) (set4 (a' := .bool false) (b' := .int .i64 0) (c' := .int .i64 0) (d' := .int .i64 0) h2)
    have e3 := set1 (u := .bool false) (setO (p := ⟨w.heap.size + 2, 3, none⟩) (u := .int .i64 0) (show w.heap.size + 3 ≠ w.heap.size + 2 by omega) (setO (p := ⟨w.heap.size + 2, 2, none⟩) (u := .int .i64 0) (show w.heap.size + 3 ≠ w.heap.size + 2 by omega) (setO (p := ⟨w.heap.size + 2, 1, none⟩) (u := .int .i64 0) (show w.heap.size + 3 ≠ w.heap.size + 2 by omega) (setO (p := ⟨w.heap.size + 2, 0, none⟩) (u := .bool false) (show w.heap.size + 3 ≠ w.heap.size + 2 by omega) h3))))
    have k2 := fun o => (World.putObj_heap_other (o := o) (show w.heap.size + 2 ≠ D by omega)).trans e2
    have k3 := fun o => (World.putObj_heap_other (o := o) (show w.heap.size + 3 ≠ D by omega)).trans e3
    obtain ⟨⟨g0, g1, g2, g3⟩, _⟩ := of4 (k2 (.deferred none))
    have g4 := (of1 (k3 (.deferred none))).1
    obtain ⟨⟨v0, v1, v2, v3⟩, f0, f1, f2, f3⟩ := of4 h2
    obtain ⟨v4, f4⟩ := of1 h3
    have lz2 := lt_heap h2
    have lz3 := lt_heap h3
    have HE := hidP (bel_end HB.out (hg.trans G1) (fun k h => by unfold frM at h; omega) hD (.deferred none))
    have HG := hidP (And.intro g0 (And.intro g1 (And.intro g2 (And.intro g3 g4))))
    clear h1 h2 h3 k2 k3 hg e2 e3 G1 g0 g1 g2 g3 g4
    gi_wp2
    refine ⟨by simp, .inl ⟨_, _, rfl, run_takeDeferred HK.out, ?_⟩⟩
    obtain ⟨g0, g1, g2, g3, g4⟩ := HG.out
    exact ⟨.tuple #[.agg #[.bool false, .int .i64 0, .int .i64 0, .int .i64 0], .bool false], by simp [results, Try.results17, go_sem, g0, g1, g2, g3, g4], rfl, HE.out⟩
  case round =>
    intro l' pre x M1 V _ hf hl' _ hlt hpre
    unfold encP
    refine rnd_of ?_
    intro K' HK'
    have HF0 := hidP hf
    clear hf hl' hpre
    gi_wp2
    refine HK'.out _ _ ⟨(Below.refl _ V).alloc (Nat.le_refl _) _, ?_⟩
    clear HK'
    rintro V2 hk2 hs2 ⟨rfl, rfl, h1, h2, h3⟩
    obtain ⟨x0, x1, x2, x3⟩ := box_cells V 27 x.pre
    have lV : V.heap.size < (V.alloc (.cells #[.bool x.s, .int .i64 x.H.toInt, .int .i64 x.L.toInt, .int .i64 ((wd x.s : Int) - x.n)] 27)).heap.size := by simp
    have nV : V.heap.size ≠ l' := by omega
    have y0 := (hk2.cell (p := ⟨V.heap.size, 0, none⟩) lV nV).trans x0
    have y1 := (hk2.cell (p := ⟨V.heap.size, 1, none⟩) lV nV).trans x1
    have y2 := (hk2.cell (p := ⟨V.heap.size, 2, none⟩) lV nV).trans x2
    have hVs : V.heap.size < V2.heap.size := by rw [hs2]; exact lV
    obtain ⟨⟨v0, v1, v2, v3⟩, f0, f1, f2, f3⟩ := of4 h2
    obtain ⟨v4, f4⟩ := of1 h3
    have v5 := (of1 h1).1
    have lz1 := lt_heap h1
    have lz2 := lt_heap h2
    have lz3 := lt_heap h3
    dsimp only [Sp.pre] at y0 y1 y2
    have fit2 : ∀ k, frM w.heap.size k → k < V2.heap.size := fun k h => by have := HF0.out k h; omega
    have HG : Hid (Grw (frM w.heap.size) (frM w.heap.size) V2 (((((V2.setCell ⟨w.heap.size + 2, 0, none⟩ (.bool x.s)).setCell ⟨w.heap.size + 2, 1, none⟩ (.int .i64 x.H.toInt)).setCell ⟨w.heap.size + 2, 2, none⟩ (.int .i64 x.L.toInt)).setCell ⟨w.heap.size + 2, 3, none⟩ (.int .i64 bits)).setCell ⟨w.heap.size + 3, 0, none⟩ (.bool true))) :=
      hidP (((((Grw.refl fit2).set _ _ (Or.inr (Or.inl rfl))).set _ _ (Or.inr (Or.inl rfl))).set _ _ (Or.inr (Or.inl rfl))).set _ _ (Or.inr (Or.inl rfl)) |>.set _ _ (Or.inr (Or.inr rfl)))
    have E2 := hidP (setO (k := w.heap.size + 2) (p := ⟨w.heap.size + 3, 0, none⟩) (u := .bool true) (show w.heap.size + 2 ≠ w.heap.size + 3 by omega) (set4 (a' := .bool x.s) (b' := .int .i64 x.H.toInt) (c' := .int .i64 x.L.toInt) (d' := .int .i64 bits) h2))
    have E3 := hidP (set1 (u := .bool true) (setO (p := ⟨w.heap.size + 2, 3, none⟩) (u := .int .i64 bits) (show w.heap.size + 3 ≠ w.heap.size + 2 by omega) (setO (p := ⟨w.heap.size + 2, 2, none⟩) (u := .int .i64 x.L.toInt) (show w.heap.size + 3 ≠ w.heap.size + 2 by omega) (setO (p := ⟨w.heap.size + 2, 1, none⟩) (u := .int .i64 x.H.toInt) (show w.heap.size + 3 ≠ w.heap.size + 2 by omega) (setO (p := ⟨w.heap.size + 2, 0, none⟩) (u := .bool x.s) (show w.heap.size + 3 ≠ w.heap.size + 2 by omega) h3)))))
    clear hk2 hs2 h1 h2 h3 x0 x1 x2 x3 lV nV fit2
    gi_wp2
    exact ⟨frM w.heap.size, ⟨rfl, rfl, x, rfl, E2.out, E3.out⟩, HG.out⟩

end Go.Proofs.Ytkpbidlcnjppkaa
namespace Go.Proofs.Ytkpbidlcnjppkaa
open Go.RowKit

theorem pig (a : Nat) : ∀ (m : Nat) (l : List Nat), (∀ j, j < m → a + j ∈ l) → m ≤ l.length
  | 0, _, _ => Nat.zero_le _
  | m + 1, l, h => by
      have hm := h m (Nat.lt_succ_self m)
      have ih := pig a m (l.erase (a + m)) fun j hj => (List.mem_erase_of_ne (by omega)).2 (h j (by omega))
      rw [List.length_erase_of_mem hm] at ih
      have : 0 < l.length := List.length_pos_of_mem hm
      omega

def Ad.adr (u : Ad) : Nat := adrN u.H u.L
/-- What FirstAddr is to answer. -/
def FAns (x : Sp) (us : List Ad) (V : Value) : Prop :=
  (∃ (X Y : BitVec 64) (m : Nat), m < 2 ^ x.n ∧ adrN X Y = x.adr + m ∧ (∀ u ∈ us, u.s = x.s → u.adr ≠ x.adr + m) ∧ (∀ j, j < m → ∃ u ∈ us, u.s = x.s ∧ u.adr = x.adr + j) ∧ V = .tuple #[.agg #[.bool x.s, .int .i64 X.toInt, .int .i64 Y.toInt], .bool true]) ∨
  ((∀ m, m < 2 ^ x.n → ∃ u ∈ us, u.s = x.s ∧ u.adr = x.adr + m) ∧ V = .tuple #[.agg #[.bool false, .int .i64 0, .int .i64 0], .bool false])
theorem fans_one {x : Sp} {us : List Ad} {V V' : Value} (h : FAns x us V) (h' : FAns x us V') : V = V' := by
  rcases h with ⟨X, Y, m, hm, ha, hf, hb, rfl⟩ | ⟨hall, rfl⟩
  · rcases h' with ⟨X', Y', m', hm', ha', hf', hb', rfl⟩ | ⟨hall', rfl⟩
    · have e : m = m' := by
        rcases Nat.lt_trichotomy m m' with h | h | h
        · obtain ⟨u, hu, hs, he⟩ := hb' m h
          exact absurd he (hf u hu hs)
        · exact h
        · obtain ⟨u, hu, hs, he⟩ := hb m' h
          exact absurd he (hf' u hu hs)
      subst e
      obtain ⟨rfl, rfl⟩ := adrN_inj (ha.trans ha'.symm)
      rfl
    · obtain ⟨u, hu, hs, he⟩ := hall' m hm
      exact absurd he (hf u hu hs)
  · rcases h' with ⟨X', Y', m', hm', ha', hf', hb', rfl⟩ | ⟨hall', rfl⟩
    · obtain ⟨u, hu, hs, he⟩ := hall m' hm'
      exact absurd he (hf' u hu hs)
    · rfl

theorem set3 {V : World} {k : Nat} {a b c a' b' c' : Value} {t : TypeId} (h : V.heap[k]? = some (.cells #[a, b, c] t)) : (((V.setCell ⟨k, 0, none⟩ a').setCell ⟨k, 1, none⟩ b').setCell ⟨k, 2, none⟩ c').heap[k]? = some (.cells #[a', b', c'] t) := by
  simp [World.setCell, Array.getElem?_modify, h]
theorem of3 {V : World} {k : Nat} {a b c : Value} {t : TypeId} (h : V.heap[k]? = some (.cells #[a, b, c] t)) : (V.cell? ⟨k, 0, none⟩ = some a ∧ V.cell? ⟨k, 1, none⟩ = some b ∧ V.cell? ⟨k, 2, none⟩ = some c) ∧ V.frozen? ⟨k, 0, none⟩ = false ∧ V.frozen? ⟨k, 1, none⟩ = false ∧ V.frozen? ⟨k, 2, none⟩ = false := by
  refine ⟨⟨?_, ?_, ?_⟩, ?_, ?_, ?_⟩ <;> simp [World.cell?, World.frozen?, h]

def eqU (s : Bool) (X Y : BitVec 64) (u : Ad) : Bool := u.s == s && (u.H == X && u.L == Y)
theorem eqU_iff (s : Bool) (X Y : BitVec 64) (u : Ad) : eqU s X Y u = true ↔ u.s = s ∧ u.adr = adrN X Y := by
  unfold eqU
  rw [Bool.and_eq_true, Bool.and_eq_true, beq_iff_eq, beq_iff_eq, beq_iff_eq]
  constructor
  · rintro ⟨h1, h2, h3⟩; exact ⟨h1, by unfold Ad.adr; rw [h2, h3]⟩
  · rintro ⟨h1, h2⟩; exact ⟨h1, adrN_inj h2⟩

set_option maxRecDepth 10000 in
set_option maxHeartbeats 4000000 in
theorem sFA_yes (x : Sp) (hx : x.ok) (a : Option Addr) (n cap : Nat) (us : List Ad) (hn : n = us.length) (w : World) (hB : RowA w a us) (hl : n ≤ 300) :
    Calls Try.prog 7 #[.agg #[.bool x.s, .int .i64 x.H.toInt, .int .i64 x.L.toInt, .int .i64 ((wd x.s : Int) - (x.n : Int))], .slice a n cap] w fun e w' => ∃ V, e = .returned V ∧ FAns x us V ∧ Below w.heap.size w w' := by
  have hp := sPrefixOk_any x.s x.H x.L ((wd x.s : Int) - (x.n : Int))
  rw [hx.pok] at hp
  have HP := hidP hp
  have HB := hidP hB
  have HN := hidP hn
  have HX := hidP hx
  clear hB hn hx hp
  go_enter Try.func7, Try.ntmps7
  go_wp2_with fail
  obtain ⟨os, hos⟩ : ∃ os : List Obj, os = [.cells #[.bool x.s, .int .i64 x.H.toInt, .int .i64 x.L.toInt, .int .i64 ((wd x.s : Int) - (x.n : Int))] 27, .cells #[.bool false, .int .i64 0, .int .i64 0] 25] := ⟨_, rfl⟩
  obtain ⟨W, hW⟩ : ∃ W, W = allocs w os := ⟨_, rfl⟩
  have hWe : (w.alloc (.cells #[.bool x.s, .int .i64 x.H.toInt, .int .i64 x.L.toInt, .int .i64 ((wd x.s : Int) - (x.n : Int))] 27)).alloc (.cells #[.bool false, .int .i64 0, .int .i64 0] 25) = W := by rw [hW, hos]; rfl
  have hb1 : Below w.heap.size w W := by rw [hW]; exact allocs_below os w
  have hsz : W.heap.size = w.heap.size + 2 := by rw [hW, allocs_size, hos]; rfl
  have h0 : W.heap[w.heap.size]? = some (.cells #[.bool x.s, .int .i64 x.H.toInt, .int .i64 x.L.toInt, .int .i64 ((wd x.s : Int) - (x.n : Int))] 27) := by rw [hW]; exact allocs_at os w 0 _ (by rw [hos]; rfl)
  have h1 : W.heap[w.heap.size + 1]? = some (.cells #[.bool false, .int .i64 0, .int .i64 0] 25) := by rw [hW]; exact allocs_at os w 1 _ (by rw [hos]; rfl)
  rw [hWe]
  have HB1 := hidP hb1
  have H0 := hidP h0
  have H1 := hidP h1
  clear hW hWe hos hb1 h0 h1
  refine (HP.out W).mono ?_
  rintro e w2 ⟨rfl, hb2⟩
  have H02 := hidP ((hb2.block _ (lt_heap H0.out)).trans H0.out)
  have H12 := hidP ((hb2.block _ (lt_heap H1.out)).trans H1.out)
  have HB2 := hidP (HB1.out.trans (hb2.mono HB1.out.size))
  have hz2 := hb2.size
  clear hb2 H0 H1
  go_wp2_with fail
  go_loopw [6] (fun t6 wr => ∃ i : Nat, i ≤ n + 1 ∧ t6 = .int .i64 i ∧ (∀ j, j < i → j < 2 ^ x.n ∧ ∃ u ∈ us, u.s = x.s ∧ u.adr = x.adr + j) ∧ Below w2.heap.size w2 wr) (fun t6 _ => n + 1 - (intOf t6).toNat)
  case atStart => exact ⟨0, Nat.zero_le _, rfl, fun j hj => absurd hj (Nat.not_lt_zero j), Below.refl _ _⟩
  case round =>
    obtain ⟨i9, hi9, rfl, hall, hbr⟩ := hrel
    have HAll := hidP hall
    have HBr := hidP hbr
    have hzr := hbr.size
    have j0 := (hbr.block _ (lt_heap H02.out)).trans H02.out
    have j1 := (hbr.block _ (lt_heap H12.out)).trans H12.out
    obtain ⟨⟨d0, d1, d2, d3⟩, _⟩ := of4 j0
    have lz0 := lt_heap j0
    have J1 := hidP j1
    clear hall hbr j0 j1
    by_cases hle : i9 ≤ n
    · by_cases hpl : i9 < 2 ^ x.n
      · obtain ⟨X9, Y9, ha9, hok9, hc9⟩ := nth_yes HX.out i9 hpl (by omega)
        have HC := hidP hc9
        have HA9 := hidP ha9
        clear hc9 ha9 hok9
        go_wp2_with fail
        refine (HC.out _).mono ?_
        rintro e w3 ⟨rfl, hb3⟩
        have HB3 := hidP (HBr.out.trans (hb3.mono HBr.out.size))
        have hz3 := hb3.size
        clear hb3
        go_wp2_with fail
        have hna := World.alloc_heap_new w3 (.cells #[.bool x.s, .int .i64 X9.toInt, .int .i64 Y9.toInt] 25)
        have hba : Below w3.heap.size w3 (w3.alloc (.cells #[.bool x.s, .int .i64 X9.toInt, .int .i64 Y9.toInt] 25)) := (Below.refl _ _).alloc (Nat.le_refl _) _
        have hsa : (w3.alloc (.cells #[.bool x.s, .int .i64 X9.toInt, .int .i64 Y9.toInt] 25)).heap.size = w3.heap.size + 1 := by simp
        generalize w3.alloc (.cells #[.bool x.s, .int .i64 X9.toInt, .int .i64 Y9.toInt] 25) = wa at *
        obtain ⟨Ba, hBa⟩ : ∃ Ba, Ba = w3.heap.size := ⟨_, rfl⟩
        rw [← hBa] at hna ⊢
        have HNa := hidP hna
        have HBa := hidP (HB3.out.trans (hba.mono HB3.out.size))
        have hlba : Ba < wa.heap.size := by omega
        clear hna hba hBa hsa
        go_loopw [9, 10] (fun t9 t10 wr2 => ∃ i : Nat, i ≤ n ∧ t10 = .int .i64 i ∧ t9 = .bool ((us.take i).any (eqU x.s X9 Y9)) ∧ Below wa.heap.size wa wr2) (fun _ t10 _ => n - (intOf t10).toNat)
        case atStart => exact ⟨0, Nat.zero_le _, rfl, by simp, Below.refl _ _⟩
        case round =>
          obtain ⟨i, hi, rfl, rfl, hbr2⟩ := hrel
          have HBr2 := hidP hbr2
          have k1 := (hbr2.block _ (lt_heap HNa.out)).trans HNa.out
          obtain ⟨⟨y0, y1, y2⟩, _⟩ := of3 k1
          have lzb := lt_heap k1
          clear hbr2 k1
          by_cases hlt : i < n
          · obtain ⟨p, o, u, rfl, hp, hu, e0, e1, e2⟩ := HB.out i (by rw [← HN.out]; exact hlt)
            have hbw := (HB2.out.trans (HBa.out.mono HB2.out.size)).trans (HBr2.out.mono (Nat.le_trans HB2.out.size HBa.out.size))
            have x0 := (hbw.cell (p := ⟨p, o + i * 3, none⟩) hp).trans e0
            have x1 := (hbw.cell (p := ⟨p, o + i * 3 + 1, none⟩) hp).trans e1
            have x2 := (hbw.cell (p := ⟨p, o + i * 3 + 2, none⟩) hp).trans e2
            have lzp : p < wr.heap.size := Nat.lt_of_lt_of_le hp hbw.size
            have HT : Hid ((us.take (i + 1)).any (eqU x.s X9 Y9) = ((us.take i).any (eqU x.s X9 Y9) || eqU x.s X9 Y9 u)) := hidP (by rw [List.take_add_one, hu, List.any_append]; simp)
            have HBd := hidP HBr2.out.drew
            clear e0 e1 e2 hu hbw
            cases hta : (us.take i).any (eqU x.s X9 Y9)
            · rw [hta, Bool.false_or] at HT
              by_cases a1 : u.s = x.s
              · by_cases a2 : u.H.toInt = X9.toInt
                · by_cases a3 : u.L.toInt = Y9.toInt
                  · have HE : Hid (eqU x.s X9 Y9 u = true) := hidP (by rw [eqU_iff]; exact ⟨a1, by unfold Ad.adr; rw [BitVec.eq_of_toInt_eq a2, BitVec.eq_of_toInt_eq a3]⟩)
                    rw [HE.out] at HT
                    clear HE
                    go_wp2_with fail
                    refine wp_region_held_drew (S := (fun Z => Z.cell? ⟨p, o + i * 3, none⟩ = some (.bool u.s) ∧ Z.cell? ⟨p, o + i * 3 + 1, none⟩ = some (.int .i64 u.H.toInt) ∧ Z.cell? ⟨p, o + i * 3 + 2, none⟩ = some (.int .i64 u.L.toInt) ∧ Z.cell? ⟨Ba, 0, none⟩ = some (.bool x.s) ∧ Z.cell? ⟨Ba, 1, none⟩ = some (.int .i64 X9.toInt) ∧ Z.cell? ⟨Ba, 2, none⟩ = some (.int .i64 Y9.toInt))) (by kernel_rfl) ?_ (fun hHeld => ?_)
                    · exact ⟨x0, x1, x2, y0, y1, y2⟩
                    refine tk 0 40 rfl ?_; simp only [pa]
                    refine tk 1 41 rfl ?_; simp only [pa]
                    refine tk 2 42 rfl ?_; simp only [pa]
                    refine tk 3 43 rfl ?_; simp only [pa]
                    refine tk 4 44 rfl ?_; simp only [pa]
                    refine tk 5 45 rfl ?_; simp only [pa]
                    refine tk 6 46 rfl ?_; simp only [pa]
                    refine tk 7 47 rfl ?_; simp only [pa]
                    refine tk 8 48 rfl ?_; simp only [pa]
                    refine tk 9 9 rfl ?_; simp only [pa]
                    refine wpAnyH_done (by kernel_rfl) ?_ _
                    go_wp2_with fail
                    go_roundw
                    case rel => exact ⟨i + 1, by omega, by go_num, by first | rw [HT.out] | (rw [HT.out]; rfl), HBd.out⟩
                    case measure => simp [intOf]; omega
                  · have HE : Hid (eqU x.s X9 Y9 u = false) := hidP (by unfold eqU; rw [Bool.eq_false_iff]; intro h; rw [Bool.and_eq_true, Bool.and_eq_true, beq_iff_eq, beq_iff_eq, beq_iff_eq] at h; exact a3 (by rw [h.2.2]))
                    rw [HE.out] at HT
                    clear HE
                    go_wp2_with fail
                    refine wp_region_held_drew (S := (fun Z => Z.cell? ⟨p, o + i * 3, none⟩ = some (.bool u.s) ∧ Z.cell? ⟨p, o + i * 3 + 1, none⟩ = some (.int .i64 u.H.toInt) ∧ Z.cell? ⟨p, o + i * 3 + 2, none⟩ = some (.int .i64 u.L.toInt) ∧ Z.cell? ⟨Ba, 0, none⟩ = some (.bool x.s) ∧ Z.cell? ⟨Ba, 1, none⟩ = some (.int .i64 X9.toInt) ∧ Z.cell? ⟨Ba, 2, none⟩ = some (.int .i64 Y9.toInt))) (by kernel_rfl) ?_ (fun hHeld => ?_)
                    · exact ⟨x0, x1, x2, y0, y1, y2⟩
                    refine tk 0 40 rfl ?_; simp only [pa]
                    refine tk 1 41 rfl ?_; simp only [pa]
                    refine tk 2 42 rfl ?_; simp only [pa]
                    refine tk 3 43 rfl ?_; simp only [pa]
                    refine tk 4 44 rfl ?_; simp only [pa]
                    refine tk 5 45 rfl ?_; simp only [pa]
                    refine tk 6 46 rfl ?_; simp only [pa]
                    refine tk 7 47 rfl ?_; simp only [pa]
                    refine tk 8 48 rfl ?_; simp only [pa]
                    refine tk 9 9 rfl ?_; simp only [pa]
                    refine wpAnyH_done (by kernel_rfl) ?_ _
                    go_wp2_with fail
                    go_roundw
                    case rel => exact ⟨i + 1, by omega, by go_num, by first | rw [HT.out] | (rw [HT.out]; rfl), HBd.out⟩
                    case measure => simp [intOf]; omega
                · have HE : Hid (eqU x.s X9 Y9 u = false) := hidP (by unfold eqU; rw [Bool.eq_false_iff]; intro h; rw [Bool.and_eq_true, Bool.and_eq_true, beq_iff_eq, beq_iff_eq, beq_iff_eq] at h; exact a2 (by rw [h.2.1]))
                  rw [HE.out] at HT
                  clear HE
                  go_wp2_with fail
                  refine wp_region_held_drew (S := (fun Z => Z.cell? ⟨p, o + i * 3, none⟩ = some (.bool u.s) ∧ Z.cell? ⟨p, o + i * 3 + 1, none⟩ = some (.int .i64 u.H.toInt) ∧ Z.cell? ⟨p, o + i * 3 + 2, none⟩ = some (.int .i64 u.L.toInt) ∧ Z.cell? ⟨Ba, 0, none⟩ = some (.bool x.s) ∧ Z.cell? ⟨Ba, 1, none⟩ = some (.int .i64 X9.toInt) ∧ Z.cell? ⟨Ba, 2, none⟩ = some (.int .i64 Y9.toInt))) (by kernel_rfl) ?_ (fun hHeld => ?_)
                  · exact ⟨x0, x1, x2, y0, y1, y2⟩
                  refine tk 0 40 rfl ?_; simp only [pa]
                  refine tk 1 41 rfl ?_; simp only [pa]
                  refine tk 2 42 rfl ?_; simp only [pa]
                  refine tk 3 43 rfl ?_; simp only [pa]
                  refine tk 4 44 rfl ?_; simp only [pa]
                  refine tk 5 45 rfl ?_; simp only [pa]
                  refine tk 6 46 rfl ?_; simp only [pa]
                  refine tk 7 47 rfl ?_; simp only [pa]
                  refine tk 8 48 rfl ?_; simp only [pa]
                  refine tk 9 9 rfl ?_; simp only [pa]
                  refine wpAnyH_done (by kernel_rfl) ?_ _
                  go_wp2_with fail
                  go_roundw
                  case rel => exact ⟨i + 1, by omega, by go_num, by first | rw [HT.out] | (rw [HT.out]; rfl), HBd.out⟩
                  case measure => simp [intOf]; omega
              · have HE : Hid (eqU x.s X9 Y9 u = false) := hidP (by unfold eqU; rw [Bool.eq_false_iff]; intro h; rw [Bool.and_eq_true, Bool.and_eq_true, beq_iff_eq, beq_iff_eq, beq_iff_eq] at h; exact a1 h.1)
                rw [HE.out] at HT
                clear HE
                go_wp2_with fail
                refine wp_region_held_drew (S := (fun Z => Z.cell? ⟨p, o + i * 3, none⟩ = some (.bool u.s) ∧ Z.cell? ⟨p, o + i * 3 + 1, none⟩ = some (.int .i64 u.H.toInt) ∧ Z.cell? ⟨p, o + i * 3 + 2, none⟩ = some (.int .i64 u.L.toInt) ∧ Z.cell? ⟨Ba, 0, none⟩ = some (.bool x.s) ∧ Z.cell? ⟨Ba, 1, none⟩ = some (.int .i64 X9.toInt) ∧ Z.cell? ⟨Ba, 2, none⟩ = some (.int .i64 Y9.toInt))) (by kernel_rfl) ?_ (fun hHeld => ?_)
                · exact ⟨x0, x1, x2, y0, y1, y2⟩
                refine tk 0 40 rfl ?_; simp only [pa]
                refine tk 1 41 rfl ?_; simp only [pa]
                refine tk 2 42 rfl ?_; simp only [pa]
                refine tk 3 43 rfl ?_; simp only [pa]
                refine tk 4 44 rfl ?_; simp only [pa]
                refine tk 5 45 rfl ?_; simp only [pa]
                refine tk 6 46 rfl ?_; simp only [pa]
                refine tk 7 47 rfl ?_; simp only [pa]
                refine tk 8 48 rfl ?_; simp only [pa]
                refine tk 9 9 rfl ?_; simp only [pa]
                refine wpAnyH_done (by kernel_rfl) ?_ _
                go_wp2_with fail
                go_roundw
                case rel => exact ⟨i + 1, by omega, by go_num, by first | rw [HT.out] | (rw [HT.out]; rfl), HBd.out⟩
                case measure => simp [intOf]; omega
            · rw [hta, Bool.true_or] at HT
              go_wp2_with fail
              refine wp_region_held_drew (S := (fun Z => Z.cell? ⟨p, o + i * 3, none⟩ = some (.bool u.s) ∧ Z.cell? ⟨p, o + i * 3 + 1, none⟩ = some (.int .i64 u.H.toInt) ∧ Z.cell? ⟨p, o + i * 3 + 2, none⟩ = some (.int .i64 u.L.toInt) ∧ Z.cell? ⟨Ba, 0, none⟩ = some (.bool x.s) ∧ Z.cell? ⟨Ba, 1, none⟩ = some (.int .i64 X9.toInt) ∧ Z.cell? ⟨Ba, 2, none⟩ = some (.int .i64 Y9.toInt))) (by kernel_rfl) ?_ (fun hHeld => ?_)
              · exact ⟨x0, x1, x2, y0, y1, y2⟩
              refine tk 0 40 rfl ?_; simp only [pa]
              refine tk 1 41 rfl ?_; simp only [pa]
              refine sk 2 42 rfl ?_; simp only [pa]
              refine sk 3 43 rfl ?_; simp only [pa]
              refine sk 4 44 rfl ?_; simp only [pa]
              refine sk 5 45 rfl ?_; simp only [pa]
              refine sk 6 46 rfl ?_; simp only [pa]
              refine sk 7 47 rfl ?_; simp only [pa]
              refine tk 8 48 rfl ?_; simp only [pa]
              refine tk 9 9 rfl ?_; simp only [pa]
              refine wpAnyH_done (by kernel_rfl) ?_ _
              go_wp2_with fail
              go_roundw
              case rel => exact ⟨i + 1, by omega, by go_num, by first | rw [HT.out] | (rw [HT.out]; rfl), HBd.out⟩
              case measure => simp [intOf]; omega
          · have hin : i = n := by omega
            subst hin
            have eT : us.take i = us := by rw [HN.out, List.take_length]
            rw [eT]
            clear eT
            cases hta : us.any (eqU x.s X9 Y9)
            · have hfr : ∀ u ∈ us, u.s = x.s → u.adr ≠ x.adr + i9 := fun u hu hs he => by
                have h1 := (eqU_iff x.s X9 Y9 u).2 ⟨hs, he.trans HA9.out.symm⟩
                have h2 := List.any_eq_true.2 ⟨u, hu, h1⟩
                rw [hta] at h2; cases h2
              have HF : Hid (FAns x us (.tuple #[.agg #[.bool x.s, .int .i64 X9.toInt, .int .i64 Y9.toInt], .bool true])) := hidP (Or.inl ⟨X9, Y9, i9, hpl, HA9.out, hfr, fun j hj => (HAll.out j hj).2, rfl⟩)
              clear hfr
              have HBq := hidP (HBa.out.trans (HBr2.out.mono HBa.out.size))
              have q1 := (HBq.out.block _ (lt_heap H12.out)).trans H12.out
              obtain ⟨⟨z0, z1, z2⟩, f0, f1, f2⟩ := of3 q1
              have lzq := lt_heap q1
              have HZ := hidP (of3 (set3 (a' := .bool x.s) (b' := .int .i64 X9.toInt) (c' := .int .i64 Y9.toInt) q1)).1
              have HBe := hidP (HB2.out.trans (HBq.out.mono HB2.out.size))
              clear q1
              go_wp2_with fail
              obtain ⟨g0, g1, g2⟩ := HZ.out
              refine bodyPost_ret (v := .tuple #[.agg #[.bool x.s, .int .i64 X9.toInt, .int .i64 Y9.toInt], .bool true]) (by simp [results, Try.results7, go_sem, g0, g1, g2]) rfl ⟨_, rfl, HF.out, ?_⟩
              exact ((HBe.out.setCell (p := ⟨w.heap.size + 1, 0, none⟩) (Nat.le_succ _) _).setCell (p := ⟨w.heap.size + 1, 1, none⟩) (Nat.le_succ _) _).setCell (p := ⟨w.heap.size + 1, 2, none⟩) (Nat.le_succ _) _
            · have HF : Hid (∀ j, j < i9 + 1 → j < 2 ^ x.n ∧ ∃ u ∈ us, u.s = x.s ∧ u.adr = x.adr + j) := hidP fun j hj => by
                by_cases hj2 : j < i9
                · exact HAll.out j hj2
                · have : j = i9 := by omega
                  subst this
                  obtain ⟨u, hu, he⟩ := List.any_eq_true.1 hta
                  have h1 := (eqU_iff x.s X9 Y9 u).1 he
                  exact ⟨hpl, u, hu, h1.1, h1.2.trans HA9.out⟩
              have HBq := hidP (HBa.out.trans (HBr2.out.mono HBa.out.size))
              go_wp2_with fail
              go_roundw
              case rel => exact ⟨i9 + 1, by omega, by go_num, HF.out, HBq.out⟩
              case measure => simp [intOf]; omega
      · have HC := hidP (nth_no HX.out i9 (by omega) (by omega))
        have HF : Hid (FAns x us (.tuple #[.agg #[.bool false, .int .i64 0, .int .i64 0], .bool false])) := hidP (Or.inr ⟨fun m hm => (HAll.out m (by omega)).2, rfl⟩)
        go_wp2_with fail
        refine (HC.out _).mono ?_
        rintro e w3 ⟨rfl, hb3⟩
        have HB3 := hidP (HBr.out.trans (hb3.mono HBr.out.size))
        have q1 := (HB3.out.block _ (lt_heap H12.out)).trans H12.out
        obtain ⟨⟨z0, z1, z2⟩, f0, f1, f2⟩ := of3 q1
        have lzq := lt_heap q1
        have hzs : (((w3.setCell ⟨w.heap.size + 1, 0, none⟩ (.bool false)).setCell ⟨w.heap.size + 1, 1, none⟩ (.int .i64 0)).setCell ⟨w.heap.size + 1, 2, none⟩ (.int .i64 0)).heap.size = w3.heap.size := by simp [World.setCell]
        have q2 := (Below.heap_alloc (((w3.setCell ⟨w.heap.size + 1, 0, none⟩ (.bool false)).setCell ⟨w.heap.size + 1, 1, none⟩ (.int .i64 0)).setCell ⟨w.heap.size + 1, 2, none⟩ (.int .i64 0)) (.cells #[.bool false, .int .i64 0, .int .i64 0] 25) (w.heap.size + 1) (by rw [hzs]; exact lzq)).trans (set3 (a' := .bool false) (b' := .int .i64 0) (c' := .int .i64 0) q1)
        have HZ := hidP (of3 q2).1
        have HBe := hidP (((((HB2.out.trans (HB3.out.mono HB2.out.size)).setCell (p := ⟨w.heap.size + 1, 0, none⟩) (Nat.le_succ _) (.bool false)).setCell (p := ⟨w.heap.size + 1, 1, none⟩) (Nat.le_succ _) (.int .i64 0)).setCell (p := ⟨w.heap.size + 1, 2, none⟩) (Nat.le_succ _) (.int .i64 0)).alloc (by rw [hzs]; exact Nat.le_trans HB2.out.size HB3.out.size) (.cells #[.bool false, .int .i64 0, .int .i64 0] 25))
        clear hzs
        clear hb3 q1 q2
        go_wp2_with fail
        obtain ⟨g0, g1, g2⟩ := HZ.out
        refine bodyPost_ret (v := .tuple #[.agg #[.bool false, .int .i64 0, .int .i64 0], .bool false]) (by simp [results, Try.results7, go_sem, g0, g1, g2]) rfl ⟨_, rfl, HF.out, ?_⟩
        exact HBe.out
    · exfalso
      have := pig x.adr (n + 1) (us.map Ad.adr) fun j hj => by
        obtain ⟨_, u, hu, _, he⟩ := HAll.out j (by omega)
        rw [← he]; exact List.mem_map_of_mem hu
      rw [List.length_map, ← HN.out] at this
      omega

end Go.Proofs.Ytkpbidlcnjppkaa
namespace Go.Proofs.Ytkpbidlcnjppkaa
open Go.RowKit

def hadP (p : Pf) (u : Ad) : Bool := hadB p.s p.H p.L p.b u.s u.H u.L
def Ad.pf (u : Ad) : Pf := ⟨u.s, u.H, u.L, wd u.s⟩
def takA (p : Pf) (us : List Ad) : List Pf := (us.filter (hadP p)).map Ad.pf
theorem had_snoc (p : Pf) (us : List Ad) (i : Nat) (u : Ad) (h : us[i]? = some u) : (us.take (i + 1)).filter (hadP p) = (us.take i).filter (hadP p) ++ (if hadP p u = true then [u] else []) := by
  rw [List.take_add_one, h, List.filter_append]
  cases hh : hadP p u <;> simp [hh]
theorem boxA3 (w : World) (t : TypeId) (u : Ad) : (w.alloc (.cells #[.bool u.s, .int .i64 u.H.toInt, .int .i64 u.L.toInt] t)).cell? ⟨w.heap.size, 0, none⟩ = some (.bool u.s) ∧ (w.alloc (.cells #[.bool u.s, .int .i64 u.H.toInt, .int .i64 u.L.toInt] t)).cell? ⟨w.heap.size, 1, none⟩ = some (.int .i64 u.H.toInt) ∧ (w.alloc (.cells #[.bool u.s, .int .i64 u.H.toInt, .int .i64 u.L.toInt] t)).cell? ⟨w.heap.size, 2, none⟩ = some (.int .i64 u.L.toInt) := (of3 (World.alloc_heap_new w _)).1

theorem faC {V : World} {k : Nat} {z0 z1 z2 : Value} {t : TypeId} (o : Obj) (a b c : Value) (h : V.heap[k]? = some (.cells #[z0, z1, z2] t)) : ((((V.setCell ⟨k, 0, none⟩ a).setCell ⟨k, 1, none⟩ b).setCell ⟨k, 2, none⟩ c).alloc o).cell? ⟨k, 0, none⟩ = some a ∧ ((((V.setCell ⟨k, 0, none⟩ a).setCell ⟨k, 1, none⟩ b).setCell ⟨k, 2, none⟩ c).alloc o).cell? ⟨k, 1, none⟩ = some b ∧ ((((V.setCell ⟨k, 0, none⟩ a).setCell ⟨k, 1, none⟩ b).setCell ⟨k, 2, none⟩ c).alloc o).cell? ⟨k, 2, none⟩ = some c := by
  have h3 := set3 (a' := a) (b' := b) (c' := c) h
  exact (of3 ((Below.heap_alloc _ o k (lt_heap h3)).trans h3)).1
theorem setS {V : World} {k : Nat} {z0 z1 z2 : Value} {t : TypeId} (a b c : Value) (h : V.heap[k]? = some (.cells #[z0, z1, z2] t)) : (V.setCell ⟨k, 0, none⟩ a).cell? ⟨k, 0, none⟩ = some a ∧ ((V.setCell ⟨k, 0, none⟩ a).setCell ⟨k, 1, none⟩ b).cell? ⟨k, 1, none⟩ = some b ∧ (((V.setCell ⟨k, 0, none⟩ a).setCell ⟨k, 1, none⟩ b).setCell ⟨k, 2, none⟩ c).cell? ⟨k, 2, none⟩ = some c := by
  refine ⟨?_, ?_, (of3 (set3 (a' := a) (b' := b) (c' := c) h)).1.2.2⟩
  · have e : (V.setCell ⟨k, 0, none⟩ a).heap[k]? = some (.cells #[a, z1, z2] t) := by simp [World.setCell, Array.getElem?_modify, h]
    exact (of3 e).1.1
  · have e : ((V.setCell ⟨k, 0, none⟩ a).setCell ⟨k, 1, none⟩ b).heap[k]? = some (.cells #[a, b, z2] t) := by simp [World.setCell, Array.getElem?_modify, h]
    exact (of3 e).1.2.1
theorem faK {V : World} {k K : Nat} {z0 z1 z2 : Value} {t : TypeId} (hne : k ≠ K) (p0 p1 p2 p3 a b c : Value) (h : V.heap[k]? = some (.cells #[z0, z1, z2] t)) : (((((V.setCell ⟨K, 0, none⟩ p0).setCell ⟨K, 1, none⟩ p1).setCell ⟨K, 2, none⟩ p2).setCell ⟨K, 3, none⟩ p3).setCell ⟨k, 0, none⟩ a).cell? ⟨k, 0, none⟩ = some a ∧ ((((((V.setCell ⟨K, 0, none⟩ p0).setCell ⟨K, 1, none⟩ p1).setCell ⟨K, 2, none⟩ p2).setCell ⟨K, 3, none⟩ p3).setCell ⟨k, 0, none⟩ a).setCell ⟨k, 1, none⟩ b).cell? ⟨k, 1, none⟩ = some b ∧ (((((((V.setCell ⟨K, 0, none⟩ p0).setCell ⟨K, 1, none⟩ p1).setCell ⟨K, 2, none⟩ p2).setCell ⟨K, 3, none⟩ p3).setCell ⟨k, 0, none⟩ a).setCell ⟨k, 1, none⟩ b).setCell ⟨k, 2, none⟩ c).cell? ⟨k, 2, none⟩ = some c :=
  setS a b c (setO hne (setO hne (setO hne (setO hne h))))

end Go.Proofs.Ytkpbidlcnjppkaa
