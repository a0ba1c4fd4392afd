/-
  The specification's l2Width, l1In and l2High, each by its plain twin; nothing old in memory turns.
-/
import Derived.Test.YtdbcdichmmcnbaaGreatZK3
import Derived.Deep.RegionWith
import Derived.Deep.DeepCutAuto
import Derived.Deep.RegionHeld3
namespace Go.Proofs.YtdbcdichmmcnbaaGreat
open Go.RowKit

set_option maxHeartbeats 1000000 in
theorem l2Width_any (s : Bool) (h l : Int) (w : World) :
    Calls Tryz.prog 93 #[.agg #[.bool s, .int .i64 h, .int .i64 l]] w fun e w' => e = .returned (.int .i64 (wd s)) ∧ Below w.heap.size w w' := by
  cases s <;>
  · go_enter Tryz.func93, Tryz.ntmps93
    go_wp2
    go_ret
    exact ⟨rfl, (Below.refl _ _).alloc (Nat.le_refl _) _⟩

theorem inB (x a b : Int) : (decide (a ≤ x) && decide (x ≤ b)) = decide (a ≤ x ∧ x ≤ b) := by
  by_cases h : a ≤ x <;> by_cases h1 : x ≤ b <;> simp [h, h1]

set_option maxHeartbeats 1000000 in
theorem l1In_any (x a b : Int) (w : World) :
    Calls Tryz.prog 92 #[.int .i64 x, .int .i64 a, .int .i64 b] w fun e w' => e = .returned (.bool (decide (a ≤ x ∧ x ≤ b))) ∧ w' = w := by
  rw [← inB]
  by_cases h : a ≤ x
  · rw [decide_eq_true h]
    go_enter Tryz.func92, Tryz.ntmps92
    go_wp2
    all_goals go_ret
    all_goals exact ⟨by simp_all, rfl⟩
  · rw [decide_eq_false h]
    go_enter Tryz.func92, Tryz.ntmps92
    go_wp2
    all_goals go_ret
    all_goals exact ⟨by simp_all, rfl⟩

theorem shr32' (r : BitVec 64) : (r.toNat : Int) / (4294967296 : Int) = ((r >>> 32).toNat : Int) := by
  rw [← shr32, Int.fdiv_eq_ediv_of_nonneg _ (by decide)]
  rfl

theorem hgA (b : Int) (h : b ≤ 0) : hg b = 0 := by simp [hg, h]
theorem hgB (b : Int) (h : ¬ b ≤ 0) (h1 : 64 ≤ b) : hg b = BitVec.allOnes 64 := by simp [hg, h, h1]

set_option maxHeartbeats 1000000 in
theorem l2High_any (b : Int) (h0 : -64 ≤ b) (h1 : b ≤ 128) (w : World) :
    Calls Tryz.prog 125 #[.int .i64 b] w fun e w' => e = .returned (.int .u64 (hg b).toNat) ∧ w' = w := by
  by_cases c : b ≤ 0
  · rw [hgA b c]
    go_enter Tryz.func125, Tryz.ntmps125
    go_wp2
    go_ret
    exact ⟨rfl, rfl⟩
  · by_cases d : 64 ≤ b
    · rw [hgB b c d]
      go_enter Tryz.func125, Tryz.ntmps125
      go_wp2
      go_ret
      exact ⟨rfl, rfl⟩
    · have e := hg_sh b (by omega) (by omega)
      rw [Nat.min_eq_left (by omega)] at e
      have u : IntKind.u64.wrap (64 - b) = 64 - b := by rw [IntKind.wrap_u64]; omega
      go_enter Tryz.func125, Tryz.ntmps125
      go_wp2
      go_ret
      exact ⟨rfl, rfl⟩

end Go.Proofs.YtdbcdichmmcnbaaGreat

/-
  The specification's l2Mask of a right address, by its plain twin; nothing old in memory turns.
-/
namespace Go.Proofs.YtdbcdichmmcnbaaGreat
open Go.RowKit

set_option maxHeartbeats 1000000 in
theorem l2Mask_six (H L : BitVec 64) (n : Nat) (b : Int) (hn : n ≤ 128) (hb : b = 128 - (n : Int)) (w : World) :
    Calls Tryz.prog 94 #[.agg #[.bool true, .int .i64 H.toInt, .int .i64 L.toInt], .int .i64 b] w fun e w' => e = .returned (.agg #[.bool true, .int .i64 (cH n H).toInt, .int .i64 (cL n L).toInt]) ∧ Below w.heap.size w w' := by
  have a1 := l2High_any b (by omega) (by omega)
  have a2 := l2High_any (b - 64) (by omega) (by omega)
  rw [show hg b = ~~~ mh n by rw [hb]; exact hg_hi n hn] at a1
  rw [show hg (b - 64) = ~~~ ml n by rw [hb]; exact hg_lo n hn] at a2
  have H1 : Hid (∀ w, _) := a1
  have H2 : Hid (∀ w, _) := a2
  clear a1 a2
  have hb1 : -64 ≤ b - 64 := by omega
  have hb2 : b ≤ 128 := by omega
  have hw1 : wrap64 (b - 64) = b - 64 := by unfold wrap64; omega
  have hw2 : IntKind.i64.wrap (b - 64) = b - 64 := by rw [← w64]; exact hw1
  have k1 : IntKind.i64.wrap (bits .and .u64 (IntKind.u64.wrap H.toInt) ((~~~ mh n).toNat : Int)) = (cH n H).toInt := by rw [wrapU, bAndU, wrapI]; rfl
  have k2 : IntKind.i64.wrap (bits .and .u64 (IntKind.u64.wrap L.toInt) ((~~~ ml n).toNat : Int)) = (cL n L).toInt := by rw [wrapU, bAndU, wrapI]; rfl
  have k3 := k1
  have k4 := k2
  rw [← w64] at k3 k4
  generalize ~~~ mh n = M1 at k1 k3 H1
  generalize ~~~ ml n = M2 at k2 k4 H2
  generalize cH n H = X1 at k1 k3 ⊢
  generalize cL n L = X2 at k2 k4 ⊢
  clear hb hn
  go_enter Tryz.func94, Tryz.ntmps94
  go_wp2_with fail
  go_region_held3 (fun x => x.cell? ⟨w.heap.size, 0, none⟩ = some (.bool true) ∧ x.cell? ⟨w.heap.size, 1, none⟩ = some (.int .i64 H.toInt) ∧ x.cell? ⟨w.heap.size, 2, none⟩ = some (.int .i64 L.toInt)) ((go_simp)) (first | (go_at_call_of 125 (Value.int .i64 b); refine (H1.out _).mono ?_; rintro e w1 ⟨rfl, rfl⟩) | (go_at_call 125; refine (H2.out _).mono ?_; rintro e w1 ⟨rfl, rfl⟩))
  all_goals
    go_wp2_with fail
    refine bodyPost_ret (v := .agg #[.bool true, .int .i64 X1.toInt, .int .i64 X2.toInt]) (by simp [results, Tryz.results94, go_sem]) rfl ⟨rfl, ?_⟩
    repeat (first | with_reducible exact Below.refl _ _ | (with_reducible refine Below.drew ?_) | (with_reducible refine Below.alloc ?_ ?_ _; rotate_left; (focus (first | omega | (simp; omega) | (simp; done)))) | (with_reducible refine Below.setCell ?_ ?_ _; rotate_left; (focus (first | omega | (simp; omega) | (simp; done)))))

set_option maxHeartbeats 1000000 in
theorem l2Mask_four (L : BitVec 64) (n : Nat) (b : Int) (hn : n ≤ 32) (hL : L.toNat < 4294967296) (hb : b = 32 - (n : Int)) (w : World) :
    Calls Tryz.prog 94 #[.agg #[.bool false, .int .i64 0, .int .i64 L.toInt], .int .i64 b] w fun e w' => e = .returned (.agg #[.bool false, .int .i64 0, .int .i64 (cL n L).toInt]) ∧ Below w.heap.size w w' := by
  have a1 := l2High_any b (by omega) (by omega)
  have H1 : Hid (∀ w, _) := a1
  clear a1
  have k1 : bits .and .i64 L.toInt (IntKind.i64.wrap (((hg b).toNat : Int) / 4294967296)) = (cL n L).toInt := by
    rw [shr32', wrapI, bAnd, hb, msk32 L hL n hn]; rfl
  generalize hg b = M1 at k1 H1
  generalize cL n L = X2 at k1 ⊢
  clear hb hn hL
  go_enter Tryz.func94, Tryz.ntmps94
  go_wp2_with fail
  go_region_held3 (fun x => x.cell? ⟨w.heap.size, 0, none⟩ = some (.bool false) ∧ x.cell? ⟨w.heap.size, 1, none⟩ = some (.int .i64 0) ∧ x.cell? ⟨w.heap.size, 2, none⟩ = some (.int .i64 L.toInt)) ((go_simp)) ((go_at_call 125; refine (H1.out _).mono ?_; rintro e w1 ⟨rfl, rfl⟩))
  all_goals
    go_wp2_with fail
    refine bodyPost_ret (v := .agg #[.bool false, .int .i64 0, .int .i64 X2.toInt]) (by simp [results, Tryz.results94, go_sem]) rfl ⟨rfl, ?_⟩
    repeat (first | with_reducible exact Below.refl _ _ | (with_reducible refine Below.drew ?_) | (with_reducible refine Below.alloc ?_ ?_ _; rotate_left; (focus (first | omega | (simp; omega) | (simp; done)))) | (with_reducible refine Below.setCell ?_ ?_ _; rotate_left; (focus (first | omega | (simp; omega) | (simp; done)))))

end Go.Proofs.YtdbcdichmmcnbaaGreat
