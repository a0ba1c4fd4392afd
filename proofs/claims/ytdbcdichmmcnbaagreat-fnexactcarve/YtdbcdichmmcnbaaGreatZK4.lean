/-
  The program's spanOf where the address is right and the bits are of its width, by its plain twin; nothing old in memory turns.
-/
import Derived.Test.YtdbcdichmmcnbaaGreatZK3
import Derived.Deep.RegionWith
import Derived.Deep.DeepCutAuto
namespace Go.Proofs.YtdbcdichmmcnbaaGreat
open Go.RowKit

set_option maxHeartbeats 1000000 in
theorem spanOf_ok (s : Bool) (H L : BitVec 64) (b : Int) (n : Nat) (hn : n ≤ 128) (hok : okB s H.toInt L.toInt = true) (hb0 : 0 ≤ b) (hbw : b ≤ (wd s : Int)) (hsub : IntKind.i64.wrap ((wd s : Int) - b) = (n : Int)) (hh : hasB s H L n s H L = true) (w : World) :
    Calls Tryz.prog 52 #[.agg #[.bool s, .int .i64 H.toInt, .int .i64 L.toInt, .int .i64 b]] w fun e w' => e = .returned (.tuple #[.agg #[.bool s, .int .i64 H.toInt, .int .i64 L.toInt, .int .i64 n], .bool true]) ∧ Below w.heap.size w w' := by
  have HH : Hid (∀ w, _) := has_any s H L n hn s H L
  rw [hh] at HH
  clear hh
  have HK : Hid (∀ w, _) := iAddrOk_any s H.toInt L.toInt
  rw [hok] at HK
  clear hok
  have d1 : decide (b < 0) = false := decide_eq_false (by omega)
  have d2 : decide ((wd s : Int) < b) = false := decide_eq_false (by omega)
  go_enter Tryz.func52, Tryz.ntmps52
  go_upto_region 2 with fail
  go_cut [24] (fun t24 wc => t24 = .bool false ∧ Below (w.heap.size + 3) (((w.alloc (.cells #[.bool s, .int .i64 H.toInt, .int .i64 L.toInt, .int .i64 b] 31)).alloc (.cells #[.bool false, .int .i64 0, .int .i64 0, .int .i64 0] 96)).alloc (.cells #[.bool s, .int .i64 H.toInt, .int .i64 L.toInt, .int .i64 0] 96)) wc ∧ Below w.heap.size w wc)
  case first =>
    first | (go_region_with (first | (go_at_call 99; refine (HK.out _).mono ?_; rintro e w1 ⟨rfl, hb1⟩; have hz1 := hb1.size; (try simp at hz1); (first | (refine ltk (w.heap.size) (w1.heap.size) ?_ ?_; (focus omega); intro f10) | skip); (first | (refine ltk (w.heap.size + 1) (w1.heap.size) ?_ ?_; (focus omega); intro f11) | skip); (first | (refine ltk (w.heap.size + 2) (w1.heap.size) ?_ ?_; (focus omega); intro f12) | skip); (refine olds_k (w.heap.size + 3) hb1 ?_ ?_; (focus (first | omega | (simp; omega) | (simp; done))); intro hc1 hf1)) | (go_at_call 103; refine (width_any s H.toInt L.toInt _).mono ?_; rintro e w2 ⟨rfl, hb2⟩; have hz2 := hb2.size; (try simp at hz2); (first | (refine ltk (w.heap.size) (w2.heap.size) ?_ ?_; (focus omega); intro f20) | skip); (first | (refine ltk (w.heap.size + 1) (w2.heap.size) ?_ ?_; (focus omega); intro f21) | skip); (first | (refine ltk (w.heap.size + 2) (w2.heap.size) ?_ ?_; (focus omega); intro f22) | skip); (refine olds_k (w.heap.size + 3) hb2 ?_ ?_; (focus (first | omega | (simp; omega) | (simp; done))); intro hc2 hf2)))) | fail
    all_goals
      go_wp2_with fail
      go_meet
      refine ⟨rfl, ?_, ?_⟩
      · repeat (first | with_reducible exact Below.refl _ _ | (with_reducible refine Below.drew ?_) | (with_reducible refine Below.alloc ?_ ?_ _; rotate_left; (focus (first | omega | (simp; omega) | (simp; done)))) | (with_reducible refine Below.setCell ?_ ?_ _; rotate_left; (focus (first | omega | (simp; omega) | (simp; done)))) | (with_reducible refine Below.trans ?_ (hb2.mono ?_); rotate_left; (focus (first | omega | (simp; omega) | (simp; done)))) | (with_reducible refine Below.trans ?_ (hb1.mono ?_); rotate_left; (focus (first | omega | (simp; omega) | (simp; done)))))
      · repeat (first | with_reducible exact Below.refl _ _ | (with_reducible refine Below.drew ?_) | (with_reducible refine Below.alloc ?_ ?_ _; rotate_left; (focus (first | omega | (simp; omega) | (simp; done)))) | (with_reducible refine Below.setCell ?_ ?_ _; rotate_left; (focus (first | omega | (simp; omega) | (simp; done)))) | (with_reducible refine Below.trans ?_ (hb2.mono ?_); rotate_left; (focus (first | omega | (simp; omega) | (simp; done)))) | (with_reducible refine Below.trans ?_ (hb1.mono ?_); rotate_left; (focus (first | omega | (simp; omega) | (simp; done)))))
  case rest =>
    obtain ⟨rfl, hB, hW⟩ := hcut
    rename_i wc
    have hzc := hB.size
    simp at hzc
    have y0 : w.heap.size < wc.heap.size := by omega
    have y1 : w.heap.size + 1 < wc.heap.size := by omega
    have y2 : w.heap.size + 2 < wc.heap.size := by omega
    obtain ⟨hc, hf⟩ := olds hB
    go_upto_region 4 with fail
    go_cut [] (fun wd4 => w.heap.size + 2 < wd4.heap.size ∧ wd4.cell? ⟨w.heap.size, 0, none⟩ = some (.bool s) ∧ wd4.cell? ⟨w.heap.size, 1, none⟩ = some (.int .i64 H.toInt) ∧ wd4.cell? ⟨w.heap.size, 2, none⟩ = some (.int .i64 L.toInt) ∧ wd4.cell? ⟨w.heap.size + 2, 0, none⟩ = some (.bool s) ∧ wd4.cell? ⟨w.heap.size + 2, 1, none⟩ = some (.int .i64 H.toInt) ∧ wd4.cell? ⟨w.heap.size + 2, 2, none⟩ = some (.int .i64 L.toInt) ∧ wd4.cell? ⟨w.heap.size + 2, 3, none⟩ = some (.int .i64 n) ∧ wd4.cell? ⟨w.heap.size + 1, 0, none⟩ = some (.bool false) ∧ wd4.cell? ⟨w.heap.size + 1, 1, none⟩ = some (.int .i64 0) ∧ wd4.cell? ⟨w.heap.size + 1, 2, none⟩ = some (.int .i64 0) ∧ wd4.cell? ⟨w.heap.size + 1, 3, none⟩ = some (.int .i64 0) ∧ wd4.frozen? ⟨w.heap.size + 1, 0, none⟩ = false ∧ wd4.frozen? ⟨w.heap.size + 1, 1, none⟩ = false ∧ wd4.frozen? ⟨w.heap.size + 1, 2, none⟩ = false ∧ wd4.frozen? ⟨w.heap.size + 1, 3, none⟩ = false ∧ Below w.heap.size w wd4)
    case first =>
      first | (go_region_with ((go_at_call 103; refine (width_any s H.toInt L.toInt _).mono ?_; rintro e w3 ⟨rfl, hb3⟩; have hz3 := hb3.size; (try simp at hz3); (first | (refine ltk (w.heap.size) (w3.heap.size) ?_ ?_; (focus omega); intro f30) | skip); (first | (refine ltk (w.heap.size + 1) (w3.heap.size) ?_ ?_; (focus omega); intro f31) | skip); (first | (refine ltk (w.heap.size + 2) (w3.heap.size) ?_ ?_; (focus omega); intro f32) | skip); (refine olds_k (w.heap.size + 3) hb3 ?_ ?_; (focus (first | omega | (simp; omega) | (simp; done))); intro hc3 hf3)))) | fail
      all_goals
        go_wp2_with fail
        go_meet
        refine ⟨?_, ?_, ?_, ?_, ?_, ?_, ?_, ?_, ?_, ?_, ?_, ?_, ?_, ?_, ?_, ?_, ?_⟩
        all_goals try (go_simp; done)
        repeat (first | with_reducible exact hW | (with_reducible refine Below.drew ?_) | (with_reducible refine Below.alloc ?_ ?_ _; rotate_left; (focus (first | omega | (simp; omega) | (simp; done)))) | (with_reducible refine Below.setCell ?_ ?_ _; rotate_left; (focus (first | omega | (simp; omega) | (simp; done)))) | (with_reducible refine Below.trans ?_ (hb3.mono ?_); rotate_left; (focus (first | omega | (simp; omega) | (simp; done)))))
    case rest =>
      obtain ⟨x0, p0, p1, p2, q0, q1, q2, q3, r0, r1, r2, r3, g0, g1, g2, g3, hV⟩ := hcut
      clear hc hf hB hW
      have x1 := Nat.lt_of_succ_lt x0
      go_wp2_with fail
      refine (HH.out _).mono ?_
      rintro e w4 ⟨rfl, hb4⟩
      have hz4 := hb4.size
      try simp at hz4
      have f40 : w.heap.size < w4.heap.size := by omega
      have f41 : w.heap.size + 1 < w4.heap.size := by omega
      have f42 : w.heap.size + 2 < w4.heap.size := by omega
      refine olds_k (w.heap.size + 3) hb4 ?_ ?_
      · first | omega | (simp; omega) | (simp; done)
      intro hc4 hf4
      go_wp2_with fail
      refine bodyPost_ret (v := .tuple #[.agg #[.bool s, .int .i64 H.toInt, .int .i64 L.toInt, .int .i64 n], .bool true]) (by simp [results, Tryz.results52, go_sem, hc4, r0, r1, r2, r3]) rfl ⟨rfl, ?_⟩
      repeat (first | with_reducible exact hV | (with_reducible refine Below.drew ?_) | (with_reducible refine Below.alloc ?_ ?_ _; rotate_left; (focus (first | omega | (simp; omega) | (simp; done)))) | (with_reducible refine Below.setCell ?_ ?_ _; rotate_left; (focus (first | omega | (simp; omega) | (simp; done)))) | (with_reducible refine Below.trans ?_ (hb4.mono ?_); rotate_left; (focus (first | omega | (simp; omega) | (simp; done)))))

set_option maxHeartbeats 1000000 in
theorem spanOf_off (s : Bool) (H L : BitVec 64) (b : Int) (n : Nat) (hn : n ≤ 128) (hok : okB s H.toInt L.toInt = true) (hb0 : 0 ≤ b) (hbw : b ≤ (wd s : Int)) (hsub : IntKind.i64.wrap ((wd s : Int) - b) = (n : Int)) (hh : hasB s H L n s H L = false) (w : World) :
    Calls Tryz.prog 52 #[.agg #[.bool s, .int .i64 H.toInt, .int .i64 L.toInt, .int .i64 b]] w fun e w' => e = .returned (.tuple #[.agg #[.bool false, .int .i64 0, .int .i64 0, .int .i64 0], .bool false]) ∧ Below w.heap.size w w' := by
  have HH : Hid (∀ w, _) := has_any s H L n hn s H L
  rw [hh] at HH
  clear hh
  have HK : Hid (∀ w, _) := iAddrOk_any s H.toInt L.toInt
  rw [hok] at HK
  clear hok
  have d1 : decide (b < 0) = false := decide_eq_false (by omega)
  have d2 : decide ((wd s : Int) < b) = false := decide_eq_false (by omega)
  go_enter Tryz.func52, Tryz.ntmps52
  go_upto_region 2 with fail
  go_cut [24] (fun t24 wc => t24 = .bool false ∧ Below (w.heap.size + 3) (((w.alloc (.cells #[.bool s, .int .i64 H.toInt, .int .i64 L.toInt, .int .i64 b] 31)).alloc (.cells #[.bool false, .int .i64 0, .int .i64 0, .int .i64 0] 96)).alloc (.cells #[.bool s, .int .i64 H.toInt, .int .i64 L.toInt, .int .i64 0] 96)) wc ∧ Below w.heap.size w wc)
  case first =>
    first | (go_region_with (first | (go_at_call 99; refine (HK.out _).mono ?_; rintro e w1 ⟨rfl, hb1⟩; have hz1 := hb1.size; (try simp at hz1); (first | (refine ltk (w.heap.size) (w1.heap.size) ?_ ?_; (focus omega); intro f10) | skip); (first | (refine ltk (w.heap.size + 1) (w1.heap.size) ?_ ?_; (focus omega); intro f11) | skip); (first | (refine ltk (w.heap.size + 2) (w1.heap.size) ?_ ?_; (focus omega); intro f12) | skip); (refine olds_k (w.heap.size + 3) hb1 ?_ ?_; (focus (first | omega | (simp; omega) | (simp; done))); intro hc1 hf1)) | (go_at_call 103; refine (width_any s H.toInt L.toInt _).mono ?_; rintro e w2 ⟨rfl, hb2⟩; have hz2 := hb2.size; (try simp at hz2); (first | (refine ltk (w.heap.size) (w2.heap.size) ?_ ?_; (focus omega); intro f20) | skip); (first | (refine ltk (w.heap.size + 1) (w2.heap.size) ?_ ?_; (focus omega); intro f21) | skip); (first | (refine ltk (w.heap.size + 2) (w2.heap.size) ?_ ?_; (focus omega); intro f22) | skip); (refine olds_k (w.heap.size + 3) hb2 ?_ ?_; (focus (first | omega | (simp; omega) | (simp; done))); intro hc2 hf2)))) | fail
    all_goals
      go_wp2_with fail
      go_meet
      refine ⟨rfl, ?_, ?_⟩
      · repeat (first | with_reducible exact Below.refl _ _ | (with_reducible refine Below.drew ?_) | (with_reducible refine Below.alloc ?_ ?_ _; rotate_left; (focus (first | omega | (simp; omega) | (simp; done)))) | (with_reducible refine Below.setCell ?_ ?_ _; rotate_left; (focus (first | omega | (simp; omega) | (simp; done)))) | (with_reducible refine Below.trans ?_ (hb2.mono ?_); rotate_left; (focus (first | omega | (simp; omega) | (simp; done)))) | (with_reducible refine Below.trans ?_ (hb1.mono ?_); rotate_left; (focus (first | omega | (simp; omega) | (simp; done)))))
      · repeat (first | with_reducible exact Below.refl _ _ | (with_reducible refine Below.drew ?_) | (with_reducible refine Below.alloc ?_ ?_ _; rotate_left; (focus (first | omega | (simp; omega) | (simp; done)))) | (with_reducible refine Below.setCell ?_ ?_ _; rotate_left; (focus (first | omega | (simp; omega) | (simp; done)))) | (with_reducible refine Below.trans ?_ (hb2.mono ?_); rotate_left; (focus (first | omega | (simp; omega) | (simp; done)))) | (with_reducible refine Below.trans ?_ (hb1.mono ?_); rotate_left; (focus (first | omega | (simp; omega) | (simp; done)))))
  case rest =>
    obtain ⟨rfl, hB, hW⟩ := hcut
    rename_i wc
    have hzc := hB.size
    simp at hzc
    have y0 : w.heap.size < wc.heap.size := by omega
    have y1 : w.heap.size + 1 < wc.heap.size := by omega
    have y2 : w.heap.size + 2 < wc.heap.size := by omega
    obtain ⟨hc, hf⟩ := olds hB
    go_upto_region 4 with fail
    go_cut [] (fun wd4 => w.heap.size + 2 < wd4.heap.size ∧ wd4.cell? ⟨w.heap.size, 0, none⟩ = some (.bool s) ∧ wd4.cell? ⟨w.heap.size, 1, none⟩ = some (.int .i64 H.toInt) ∧ wd4.cell? ⟨w.heap.size, 2, none⟩ = some (.int .i64 L.toInt) ∧ wd4.cell? ⟨w.heap.size + 2, 0, none⟩ = some (.bool s) ∧ wd4.cell? ⟨w.heap.size + 2, 1, none⟩ = some (.int .i64 H.toInt) ∧ wd4.cell? ⟨w.heap.size + 2, 2, none⟩ = some (.int .i64 L.toInt) ∧ wd4.cell? ⟨w.heap.size + 2, 3, none⟩ = some (.int .i64 n) ∧ wd4.cell? ⟨w.heap.size + 1, 0, none⟩ = some (.bool false) ∧ wd4.cell? ⟨w.heap.size + 1, 1, none⟩ = some (.int .i64 0) ∧ wd4.cell? ⟨w.heap.size + 1, 2, none⟩ = some (.int .i64 0) ∧ wd4.cell? ⟨w.heap.size + 1, 3, none⟩ = some (.int .i64 0) ∧ wd4.frozen? ⟨w.heap.size + 1, 0, none⟩ = false ∧ wd4.frozen? ⟨w.heap.size + 1, 1, none⟩ = false ∧ wd4.frozen? ⟨w.heap.size + 1, 2, none⟩ = false ∧ wd4.frozen? ⟨w.heap.size + 1, 3, none⟩ = false ∧ Below w.heap.size w wd4)
    case first =>
      first | (go_region_with ((go_at_call 103; refine (width_any s H.toInt L.toInt _).mono ?_; rintro e w3 ⟨rfl, hb3⟩; have hz3 := hb3.size; (try simp at hz3); (first | (refine ltk (w.heap.size) (w3.heap.size) ?_ ?_; (focus omega); intro f30) | skip); (first | (refine ltk (w.heap.size + 1) (w3.heap.size) ?_ ?_; (focus omega); intro f31) | skip); (first | (refine ltk (w.heap.size + 2) (w3.heap.size) ?_ ?_; (focus omega); intro f32) | skip); (refine olds_k (w.heap.size + 3) hb3 ?_ ?_; (focus (first | omega | (simp; omega) | (simp; done))); intro hc3 hf3)))) | fail
      all_goals
        go_wp2_with fail
        go_meet
        refine ⟨?_, ?_, ?_, ?_, ?_, ?_, ?_, ?_, ?_, ?_, ?_, ?_, ?_, ?_, ?_, ?_, ?_⟩
        all_goals try (go_simp; done)
        repeat (first | with_reducible exact hW | (with_reducible refine Below.drew ?_) | (with_reducible refine Below.alloc ?_ ?_ _; rotate_left; (focus (first | omega | (simp; omega) | (simp; done)))) | (with_reducible refine Below.setCell ?_ ?_ _; rotate_left; (focus (first | omega | (simp; omega) | (simp; done)))) | (with_reducible refine Below.trans ?_ (hb3.mono ?_); rotate_left; (focus (first | omega | (simp; omega) | (simp; done)))))
    case rest =>
      obtain ⟨x0, p0, p1, p2, q0, q1, q2, q3, r0, r1, r2, r3, g0, g1, g2, g3, hV⟩ := hcut
      clear hc hf hB hW
      have x1 := Nat.lt_of_succ_lt x0
      go_wp2_with fail
      refine (HH.out _).mono ?_
      rintro e w4 ⟨rfl, hb4⟩
      have hz4 := hb4.size
      try simp at hz4
      have f40 : w.heap.size < w4.heap.size := by omega
      have f41 : w.heap.size + 1 < w4.heap.size := by omega
      have f42 : w.heap.size + 2 < w4.heap.size := by omega
      refine olds_k (w.heap.size + 3) hb4 ?_ ?_
      · first | omega | (simp; omega) | (simp; done)
      intro hc4 hf4
      go_wp2_with fail
      refine bodyPost_ret (v := .tuple #[.agg #[.bool false, .int .i64 0, .int .i64 0, .int .i64 0], .bool false]) (by simp [results, Tryz.results52, go_sem, hc4, r0, r1, r2, r3]) rfl ⟨rfl, ?_⟩
      repeat (first | with_reducible exact hV | (with_reducible refine Below.drew ?_) | (with_reducible refine Below.alloc ?_ ?_ _; rotate_left; (focus (first | omega | (simp; omega) | (simp; done)))) | (with_reducible refine Below.setCell ?_ ?_ _; rotate_left; (focus (first | omega | (simp; omega) | (simp; done)))) | (with_reducible refine Below.trans ?_ (hb4.mono ?_); rotate_left; (focus (first | omega | (simp; omega) | (simp; done)))))

end Go.Proofs.YtdbcdichmmcnbaaGreat
