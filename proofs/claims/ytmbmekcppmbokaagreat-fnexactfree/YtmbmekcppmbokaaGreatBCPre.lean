/-
  The program's CmpPrefix and the specification's, each by its plain twin over CmpAddr's answer; nothing old in memory turns.
-/
import Derived.Test.YtmbmekcppmbokaaGreatBCmp
import Derived.Deep.RegionHeld3
import Derived.Deep.RegionWith
import Derived.Deep.DeepCutAuto
namespace Go.Proofs.YtmbmekcppmbokaaGreat
open Go.RowKit

theorem eight_of_below' {W X : World} {n b c : Nat} {v0 v1 v2 v3 u0 u1 u2 u3 : Value} (hB : Below n W X) (hb : b < n) (hc : c < n)
    (k : W.cell? ⟨b, 0, none⟩ = some v0 ∧ W.cell? ⟨b, 1, none⟩ = some v1 ∧ W.cell? ⟨b, 2, none⟩ = some v2 ∧ W.cell? ⟨b, 3, none⟩ = some v3 ∧ W.cell? ⟨c, 0, none⟩ = some u0 ∧ W.cell? ⟨c, 1, none⟩ = some u1 ∧ W.cell? ⟨c, 2, none⟩ = some u2 ∧ W.cell? ⟨c, 3, none⟩ = some u3) :
    X.cell? ⟨b, 0, none⟩ = some v0 ∧ X.cell? ⟨b, 1, none⟩ = some v1 ∧ X.cell? ⟨b, 2, none⟩ = some v2 ∧ X.cell? ⟨b, 3, none⟩ = some v3 ∧ X.cell? ⟨c, 0, none⟩ = some u0 ∧ X.cell? ⟨c, 1, none⟩ = some u1 ∧ X.cell? ⟨c, 2, none⟩ = some u2 ∧ X.cell? ⟨c, 3, none⟩ = some u3 := by
  obtain ⟨k0, k1, k2, k3, k4, k5, k6, k7⟩ := k
  exact ⟨(hB.cell hb).trans k0, (hB.cell hb).trans k1, (hB.cell hb).trans k2, (hB.cell hb).trans k3, (hB.cell hc).trans k4, (hB.cell hc).trans k5, (hB.cell hc).trans k6, (hB.cell hc).trans k7⟩

set_option maxHeartbeats 1000000 in
theorem sCmpPrefix_any (s : Bool) (h l b : Int) (s' : Bool) (h' l' b' : Int) (c : Int) (hc : ∀ w : World, Calls Tryz.prog 56 #[.agg #[.bool s, .int .i64 h, .int .i64 l], .agg #[.bool s', .int .i64 h', .int .i64 l']] w fun e w' => e = .returned (.int .i64 c) ∧ Below w.heap.size w w') (w : World) :
    Calls Tryz.prog 25 #[.agg #[.bool s, .int .i64 h, .int .i64 l, .int .i64 b], .agg #[.bool s', .int .i64 h', .int .i64 l', .int .i64 b']] w fun e w' => e = .returned (.int .i64 (orI c (cmpW b b'))) ∧ Below w.heap.size w w' := by
  have HC : Hid (∀ w : World, _) := hc
  clear hc
  cases hz : (c != 0)
  · rw [orI_2 hz]
    by_cases h1 : b < b'
    · rw [show cmpW b b' = -1 by simp [cmpW, h1]]
      go_enter Tryz.func25, Tryz.ntmps25
      go_wp2_with fail
      refine (HC.out _).mono ?_
      rintro e w1 ⟨rfl, hb1⟩
      have hz1 := hb1.size
      try simp at hz1
      have f10 : w.heap.size < w1.heap.size := by omega
      have f11 : w.heap.size + 1 < w1.heap.size := by omega
      refine olds_k (w.heap.size + 2) hb1 ?_ ?_
      · first | omega | (simp; omega) | (simp; done)
      intro hc1 hf1
      go_wp2_with fail
      go_ret
      refine ⟨rfl, ?_⟩
      repeat (first | with_reducible exact Below.refl _ _ | (with_reducible refine Below.drew ?_) | (with_reducible refine Below.alloc ?_ ?_ _; rotate_left; (focus (first | omega | (simp; omega) | (simp; done)))) | (with_reducible refine Below.setCell ?_ ?_ _; rotate_left; (focus (first | omega | (simp; omega) | (simp; done)))) | (with_reducible refine Below.trans ?_ (hb1.mono ?_); rotate_left; (focus (first | omega | (simp; omega) | (simp; done)))))
    · by_cases h2 : b' < b
      · rw [show cmpW b b' = 1 by simp [cmpW, h1, h2]]
        go_enter Tryz.func25, Tryz.ntmps25
        go_wp2_with fail
        refine (HC.out _).mono ?_
        rintro e w1 ⟨rfl, hb1⟩
        have hz1 := hb1.size
        try simp at hz1
        have f10 : w.heap.size < w1.heap.size := by omega
        have f11 : w.heap.size + 1 < w1.heap.size := by omega
        refine olds_k (w.heap.size + 2) hb1 ?_ ?_
        · first | omega | (simp; omega) | (simp; done)
        intro hc1 hf1
        go_wp2_with fail
        go_ret
        refine ⟨rfl, ?_⟩
        repeat (first | with_reducible exact Below.refl _ _ | (with_reducible refine Below.drew ?_) | (with_reducible refine Below.alloc ?_ ?_ _; rotate_left; (focus (first | omega | (simp; omega) | (simp; done)))) | (with_reducible refine Below.setCell ?_ ?_ _; rotate_left; (focus (first | omega | (simp; omega) | (simp; done)))) | (with_reducible refine Below.trans ?_ (hb1.mono ?_); rotate_left; (focus (first | omega | (simp; omega) | (simp; done)))))
      · rw [show cmpW b b' = 0 by simp [cmpW, h1, h2]]
        go_enter Tryz.func25, Tryz.ntmps25
        go_wp2_with fail
        refine (HC.out _).mono ?_
        rintro e w1 ⟨rfl, hb1⟩
        have hz1 := hb1.size
        try simp at hz1
        have f10 : w.heap.size < w1.heap.size := by omega
        have f11 : w.heap.size + 1 < w1.heap.size := by omega
        refine olds_k (w.heap.size + 2) hb1 ?_ ?_
        · first | omega | (simp; omega) | (simp; done)
        intro hc1 hf1
        go_wp2_with fail
        go_ret
        refine ⟨rfl, ?_⟩
        repeat (first | with_reducible exact Below.refl _ _ | (with_reducible refine Below.drew ?_) | (with_reducible refine Below.alloc ?_ ?_ _; rotate_left; (focus (first | omega | (simp; omega) | (simp; done)))) | (with_reducible refine Below.setCell ?_ ?_ _; rotate_left; (focus (first | omega | (simp; omega) | (simp; done)))) | (with_reducible refine Below.trans ?_ (hb1.mono ?_); rotate_left; (focus (first | omega | (simp; omega) | (simp; done)))))
  · rw [orI_1 hz]
    go_enter Tryz.func25, Tryz.ntmps25
    go_wp2_with fail
    refine (HC.out _).mono ?_
    rintro e w1 ⟨rfl, hb1⟩
    have hz1 := hb1.size
    try simp at hz1
    have f10 : w.heap.size < w1.heap.size := by omega
    have f11 : w.heap.size + 1 < w1.heap.size := by omega
    refine olds_k (w.heap.size + 2) hb1 ?_ ?_
    · first | omega | (simp; omega) | (simp; done)
    intro hc1 hf1
    go_wp2_with fail
    go_ret
    refine ⟨rfl, ?_⟩
    repeat (first | with_reducible exact Below.refl _ _ | (with_reducible refine Below.drew ?_) | (with_reducible refine Below.alloc ?_ ?_ _; rotate_left; (focus (first | omega | (simp; omega) | (simp; done)))) | (with_reducible refine Below.setCell ?_ ?_ _; rotate_left; (focus (first | omega | (simp; omega) | (simp; done)))) | (with_reducible refine Below.trans ?_ (hb1.mono ?_); rotate_left; (focus (first | omega | (simp; omega) | (simp; done)))))

set_option maxHeartbeats 1000000 in
theorem iCmpPrefix_any (s : Bool) (h l b : Int) (s' : Bool) (h' l' b' : Int) (c : Int) (hc : ∀ w : World, Calls Tryz.prog 106 #[.agg #[.bool s, .int .i64 h, .int .i64 l], .agg #[.bool s', .int .i64 h', .int .i64 l']] w fun e w' => e = .returned (.int .i64 c) ∧ Below w.heap.size w w') (w : World) :
    Calls Tryz.prog 93 #[.agg #[.bool s, .int .i64 h, .int .i64 l, .int .i64 b], .agg #[.bool s', .int .i64 h', .int .i64 l', .int .i64 b']] w fun e w' => e = .returned (.int .i64 (orI c (cmpW b b'))) ∧ Below w.heap.size w w' := by
  have HC : Hid (∀ w : World, _) := hc
  clear hc
  go_enter Tryz.func93, Tryz.ntmps93
  go_wp2_with fail
  go_region_held3 (fun x => x.cell? ⟨w.heap.size, 0, none⟩ = some (.bool s) ∧ x.cell? ⟨w.heap.size, 1, none⟩ = some (.int .i64 h) ∧ x.cell? ⟨w.heap.size, 2, none⟩ = some (.int .i64 l) ∧ x.cell? ⟨w.heap.size, 3, none⟩ = some (.int .i64 b) ∧ x.cell? ⟨w.heap.size + 1, 0, none⟩ = some (.bool s') ∧ x.cell? ⟨w.heap.size + 1, 1, none⟩ = some (.int .i64 h') ∧ x.cell? ⟨w.heap.size + 1, 2, none⟩ = some (.int .i64 l') ∧ x.cell? ⟨w.heap.size + 1, 3, none⟩ = some (.int .i64 b')) ((refine eight_of_below' (W := (w.alloc (.cells #[.bool s, .int .i64 h, .int .i64 l, .int .i64 b] 37)).alloc (.cells #[.bool s', .int .i64 h', .int .i64 l', .int .i64 b'] 37)) (n := w.heap.size + 2) ?_ (by omega) (by omega) ⟨by simp [go_sem], by simp [go_sem], by simp [go_sem], by simp [go_sem], by simp [go_sem], by simp [go_sem], by simp [go_sem], by simp [go_sem]⟩; repeat (first | with_reducible exact Below.refl _ _ | (with_reducible refine Below.drew ?_) | (with_reducible refine Below.alloc ?_ ?_ _; rotate_left; (focus (first | omega | (simp; omega) | (simp; done)))) | (with_reducible refine Below.setCell ?_ ?_ _; rotate_left; (focus (first | omega | (simp; omega) | (simp; done)))) | (with_reducible refine Below.trans ?_ (hb1.mono ?_); rotate_left; (focus (first | omega | (simp; omega) | (simp; done))))))) (first | (go_at_call 106; refine (HC.out _).mono ?_; rintro e w1 ⟨rfl, hb1⟩; have hz1 := hb1.size; (try simp at hz1); (first | (refine ltk (w.heap.size) (w1.heap.size) ?_ ?_; (focus omega); intro f10) | skip); (first | (refine ltk (w.heap.size + 1) (w1.heap.size) ?_ ?_; (focus omega); intro f11) | skip); (refine olds_k (w.heap.size + 2) hb1 ?_ ?_; (focus (first | omega | (simp; omega) | (simp; done))); intro hc1 hf1)) | (go_at_call 107; refine (cmpInt_any b b' _).mono ?_; rintro e w2 ⟨rfl, rfl⟩) | (go_at_call 105; refine (cmpOr_any c (cmpW b b') _ _ ?_ ?_).mono ?_; (focus (simp [go_sem])); (focus (simp [go_sem])); rintro e w3 ⟨rfl, rfl⟩))
  all_goals
    go_wp2_with fail
    go_ret
    refine ⟨rfl, ?_⟩
    repeat (first | with_reducible exact Below.refl _ _ | (with_reducible refine Below.drew ?_) | (with_reducible refine Below.alloc ?_ ?_ _; rotate_left; (focus (first | omega | (simp; omega) | (simp; done)))) | (with_reducible refine Below.setCell ?_ ?_ _; rotate_left; (focus (first | omega | (simp; omega) | (simp; done)))) | (with_reducible refine Below.trans ?_ (hb1.mono ?_); rotate_left; (focus (first | omega | (simp; omega) | (simp; done)))))

end Go.Proofs.YtmbmekcppmbokaaGreat
