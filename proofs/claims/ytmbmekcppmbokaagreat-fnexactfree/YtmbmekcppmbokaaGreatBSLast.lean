/-
  The specification's l2Last of a right prefix, by its plain twin; nothing old in memory turns.
-/
import Derived.Test.YtmbmekcppmbokaaGreatBSHi
import Derived.Deep.RegionHeld3
import Derived.Deep.RegionWith
import Derived.Deep.DeepCutAuto
namespace Go.Proofs.YtmbmekcppmbokaaGreat
open Go.RowKit

theorem bNotU (M : BitVec 64) : bits .xor .u64 IntKind.u64.max (M.toNat : Int) = ((~~~ M).toNat : Int) := by
  show IntKind.u64.wrap ((BitVec.ofInt 64 IntKind.u64.max ^^^ BitVec.ofInt 64 M.toNat).toNat : Int) = _
  rw [ofN, show BitVec.ofInt 64 IntKind.u64.max = BitVec.allOnes 64 by decide, BitVec.allOnes_xor, wrapUn]

set_option maxHeartbeats 1000000 in
theorem l2Last_six (H L : BitVec 64) (n : Nat) (b : Int) (hn : n ≤ 128) (hb : b = 128 - (n : Int)) (w : World) :
    Calls Tryz.prog 94 #[.agg #[.bool true, .int .i64 H.toInt, .int .i64 L.toInt, .int .i64 b]] w fun e w' => e = .returned (.agg #[.bool true, .int .i64 (fH n H).toInt, .int .i64 (fL n L).toInt]) ∧ Below w.heap.size w w' := by
  have a1 := l2High_any b (by omega) (by omega)
  have a2 := l2High_any (b - 64) (by omega) (by omega)
  rw [show hg b = ~~~ mh n by rw [hb]; exact hg_hi n hn] at a1
  rw [show hg (b - 64) = ~~~ ml n by rw [hb]; exact hg_lo n hn] at a2
  have H1 : Hid (∀ w, _) := a1
  have H2 : Hid (∀ w, _) := a2
  clear a1 a2
  have hb1 : -64 ≤ b - 64 := by omega
  have hb2 : b ≤ 128 := by omega
  have hw1 : wrap64 (b - 64) = b - 64 := by unfold wrap64; omega
  have hw2 : IntKind.i64.wrap (b - 64) = b - 64 := by rw [← w64]; exact hw1
  have k1 : IntKind.i64.wrap (bits .or .u64 (IntKind.u64.wrap H.toInt) (bits .xor .u64 IntKind.u64.max ((~~~ mh n).toNat : Int))) = (fH n H).toInt := by rw [bNotU, wrapU, bOrU, wrapI, BitVec.not_not]; rfl
  have k2 : IntKind.i64.wrap (bits .or .u64 (IntKind.u64.wrap L.toInt) (bits .xor .u64 IntKind.u64.max ((~~~ ml n).toNat : Int))) = (fL n L).toInt := by rw [bNotU, wrapU, bOrU, wrapI, BitVec.not_not]; rfl
  generalize ~~~ mh n = M1 at H1 k1
  generalize ~~~ ml n = M2 at H2 k2
  generalize fH n H = X1 at k1 ⊢
  generalize fL n L = X2 at k2 ⊢
  clear hb hn
  go_enter Tryz.func94, Tryz.ntmps94
  go_wp2_with fail
  go_region_held3 (fun x => x.cell? ⟨w.heap.size, 0, none⟩ = some (.bool true) ∧ x.cell? ⟨w.heap.size, 1, none⟩ = some (.int .i64 H.toInt) ∧ x.cell? ⟨w.heap.size, 2, none⟩ = some (.int .i64 L.toInt) ∧ x.cell? ⟨w.heap.size, 3, none⟩ = some (.int .i64 b)) ((go_simp)) (first | (go_at_call_of 75 (Value.int .i64 b); refine (H1.out _).mono ?_; rintro e w1 ⟨rfl, rfl⟩) | (go_at_call 75; refine (H2.out _).mono ?_; rintro e w1 ⟨rfl, rfl⟩))
  all_goals
    go_wp2_with fail
    refine bodyPost_ret (v := .agg #[.bool true, .int .i64 X1.toInt, .int .i64 X2.toInt]) (by simp [results, Tryz.results94, go_sem]) rfl ⟨rfl, ?_⟩
    repeat (first | with_reducible exact Below.refl _ _ | (with_reducible refine Below.drew ?_) | (with_reducible refine Below.alloc ?_ ?_ _; rotate_left; (focus (first | omega | (simp; omega) | (simp; done)))) | (with_reducible refine Below.setCell ?_ ?_ _; rotate_left; (focus (first | omega | (simp; omega) | (simp; done)))))

set_option maxHeartbeats 1000000 in
theorem l2Last_four (L : BitVec 64) (n : Nat) (b : Int) (hn : n ≤ 32) (hb : b = 32 - (n : Int)) (w : World) :
    Calls Tryz.prog 94 #[.agg #[.bool false, .int .i64 0, .int .i64 L.toInt, .int .i64 b]] w fun e w' => e = .returned (.agg #[.bool false, .int .i64 0, .int .i64 (fL n L).toInt]) ∧ Below w.heap.size w w' := by
  have a1 := l2High_any b (by omega) (by omega)
  have H1 : Hid (∀ w, _) := a1
  clear a1
  have k1 : bits .or .i64 L.toInt (IntKind.i64.wrap (bits .xor .u64 IntKind.u64.max ((hg b).toNat : Int) / (4294967296 : Int))) = (fL n L).toInt := by
    rw [bNotU, shr32', wrapI, bOr, hb, ng_32 n hn]; rfl
  generalize hg b = M1 at k1 H1
  generalize fL n L = X2 at k1 ⊢
  clear hb hn
  go_enter Tryz.func94, Tryz.ntmps94
  go_wp2_with fail
  go_region_held3 (fun x => x.cell? ⟨w.heap.size, 0, none⟩ = some (.bool false) ∧ x.cell? ⟨w.heap.size, 1, none⟩ = some (.int .i64 0) ∧ x.cell? ⟨w.heap.size, 2, none⟩ = some (.int .i64 L.toInt) ∧ x.cell? ⟨w.heap.size, 3, none⟩ = some (.int .i64 b)) ((go_simp)) ((go_at_call 75; refine (H1.out _).mono ?_; rintro e w1 ⟨rfl, rfl⟩))
  all_goals
    go_wp2_with fail
    refine bodyPost_ret (v := .agg #[.bool false, .int .i64 0, .int .i64 X2.toInt]) (by simp [results, Tryz.results94, go_sem]) rfl ⟨rfl, ?_⟩
    repeat (first | with_reducible exact Below.refl _ _ | (with_reducible refine Below.drew ?_) | (with_reducible refine Below.alloc ?_ ?_ _; rotate_left; (focus (first | omega | (simp; omega) | (simp; done)))) | (with_reducible refine Below.setCell ?_ ?_ _; rotate_left; (focus (first | omega | (simp; omega) | (simp; done)))))

end Go.Proofs.YtmbmekcppmbokaaGreat
