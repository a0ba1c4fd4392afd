/-
  For every two addresses the two CmpAddr answer alike, so the exact law of CmpAddr returns true; no condition.
-/
import Derived.Test.YtdbcdichmmcnbaaGreatZK1
import Derived.Test.YtdbcdichmmcnbaaGreatZK2
import Derived.ProofKit
import Derived.Lib.SmallJoins
import Derived.Deep.RegionHeld3
import Derived.Deep.RegionWith
import Derived.Deep.DeepCutAuto
import Derived.WalkKit
namespace Go.Proofs.YtdbcdichmmcnbaaGreat
open Go.ChangeShapes Go.WideShapes Go.ChangeAt Go.RowKit Go.Joins

theorem ult_t {a b : Int} (h : ult a b = true) : IntKind.u64.wrap a < IntKind.u64.wrap b := by simpa [ult] using h
theorem ult_f {a b : Int} (h : ult a b = false) : ¬ IntKind.u64.wrap a < IntKind.u64.wrap b := by simpa [ult] using h
theorem u64_inj {a b : Int} (ha : -9223372036854775808 ≤ a ∧ a ≤ 9223372036854775807) (hb : -9223372036854775808 ≤ b ∧ b ≤ 9223372036854775807) (h : IntKind.u64.wrap a = IntKind.u64.wrap b) : a = b := by
  rw [IntKind.wrap_u64, IntKind.wrap_u64] at h; omega

theorem cmp3_lt0 {a0 a1 a2 b0 b1 b2 : Int} (h : a0 < b0) : cmp3 a0 a1 a2 b0 b1 b2 = -1 := by simp [cmp3, cmpW, h]
theorem cmp3_gt0 {a0 a1 a2 b0 b1 b2 : Int} (h : b0 < a0) : cmp3 a0 a1 a2 b0 b1 b2 = 1 := by
  have : ¬ a0 < b0 := by omega
  simp [cmp3, cmpW, h, this]
theorem cmp3_lt1 {a a1 a2 b1 b2 : Int} (h : a1 < b1) : cmp3 a a1 a2 a b1 b2 = -1 := by simp [cmp3, cmpW, h]
theorem cmp3_gt1 {a a1 a2 b1 b2 : Int} (h : b1 < a1) : cmp3 a a1 a2 a b1 b2 = 1 := by
  have : ¬ a1 < b1 := by omega
  simp [cmp3, cmpW, h, this]
theorem cmp3_lt2 {a b a2 b2 : Int} (h : a2 < b2) : cmp3 a b a2 a b b2 = -1 := by simp [cmp3, cmpW, h]
theorem cmp3_gt2 {a b a2 b2 : Int} (h : b2 < a2) : cmp3 a b a2 a b b2 = 1 := by
  have : ¬ a2 < b2 := by omega
  simp [cmp3, cmpW, h, this]
theorem cmp3_eq (a b c : Int) : cmp3 a b c a b c = 0 := by simp [cmp3, cmpW]

theorem Rank_ex (S : Bool) (H L : Int) : ∃ r0 r1 r2, Rank S H L r0 r1 r2 ∧ (S = true → r0 = 1 ∧ r1 = IntKind.u64.wrap H) ∧ (S = false → r0 = 0 ∧ r1 = 0) ∧ r2 = IntKind.u64.wrap L := by
  cases S
  · exact ⟨0, 0, _, Or.inr ⟨rfl, rfl, rfl, rfl⟩, by simp, by simp, rfl⟩
  · exact ⟨1, _, _, Or.inl ⟨rfl, rfl, rfl, rfl⟩, by simp, by simp, rfl⟩

end Go.Proofs.YtdbcdichmmcnbaaGreat

/-
  The library's cmp.Compare and cmp.Or at int, each by its plain twin; nothing in memory turns.
-/
namespace Go.Proofs.YtdbcdichmmcnbaaGreat
open Go.RowKit

set_option maxHeartbeats 400000 in
theorem cmpInt_any (a b : Int) (w : World) :
    Calls Tryz.prog 140 #[.int .i64 a, .int .i64 b] w fun e w' => e = .returned (.int .i64 (cmpW a b)) ∧ w' = w := by
  by_cases h1 : a < b
  · have e : cmpW a b = -1 := by simp [cmpW, h1]
    rw [e]
    go_enter Tryz.func140, Tryz.ntmps140
    go_wp2
    go_ret
    exact ⟨rfl, rfl⟩
  · by_cases h2 : b < a
    · have e : cmpW a b = 1 := by simp [cmpW, h1, h2]
      rw [e]
      go_enter Tryz.func140, Tryz.ntmps140
      go_wp2
      go_ret
      exact ⟨rfl, rfl⟩
    · have e : cmpW a b = 0 := by simp [cmpW, h1, h2]
      rw [e]
      go_enter Tryz.func140, Tryz.ntmps140
      go_wp2
      go_ret
      exact ⟨rfl, rfl⟩

/-- the first that is not 0 -/
def orI (c d : Int) : Int := if (c != 0) = true then c else d
theorem orI_1 {c d : Int} (h : (c != 0) = true) : orI c d = c := by simp only [orI, h, if_true]
theorem orI_2 {c d : Int} (h : (c != 0) = false) : orI c d = d := by simp [orI, h]

/-- a number that is 0, said so that no walk looks in -/
def ZeroI (c : Int) : Prop := (c != 0) = false

set_option maxHeartbeats 1000000 in
theorem cmpOr_any (c d : Int) (p : Nat) (w : World) (x0 : w.cell? ⟨p, 0, none⟩ = some (.int .i64 c)) (x1 : w.cell? ⟨p, 1, none⟩ = some (.int .i64 d)) :
    Calls Tryz.prog 138 #[.slice (some ⟨p, 0, none⟩) 2 2] w fun e w' => e = .returned (.int .i64 (orI c d)) ∧ w' = w := by
  go_enter Tryz.func138, Tryz.ntmps138
  go_wp2
  go_loop [8] (fun i => i = .int .i64 0 ∨ (i = .int .i64 1 ∧ ZeroI c) ∨ (i = .int .i64 2 ∧ ZeroI c ∧ ZeroI d)) (fun i => 2 - (intOf i).toNat)
  case atStart => exact Or.inl rfl
  case round =>
    rcases hrel with rfl | ⟨rfl, k0⟩ | ⟨rfl, k0, k1⟩
    · cases hc : (c != 0)
      · go_wp2
        go_round
        case rel => exact Or.inr (Or.inl ⟨rfl, hc⟩)
        case measure => simp [intOf]
      · go_wp2
        go_ret
        exact ⟨ret_int (orI_1 hc).symm, rfl⟩
    · cases hc : (d != 0)
      · go_wp2
        go_round
        case rel => exact Or.inr (Or.inr ⟨rfl, k0, hc⟩)
        case measure => simp [intOf]
      · have HZ : Hid (orI c d = d) := orI_2 k0
        go_wp2
        go_ret
        exact ⟨ret_int HZ.out.symm, rfl⟩
    · have HZ : Hid (orI c d = 0) := (orI_2 k0).trans (by simpa [ZeroI] using k1)
      go_wp2
      go_ret
      exact ⟨ret_int HZ.out.symm, rfl⟩

end Go.Proofs.YtdbcdichmmcnbaaGreat

/-
  The program's CmpPrefix and the specification's, each by its plain twin over CmpAddr's answer; nothing old in memory turns.
-/
namespace Go.Proofs.YtdbcdichmmcnbaaGreat
open Go.RowKit

theorem eight_of_below' {W X : World} {n b c : Nat} {v0 v1 v2 v3 u0 u1 u2 u3 : Value} (hB : Below n W X) (hb : b < n) (hc : c < n)
    (k : W.cell? ⟨b, 0, none⟩ = some v0 ∧ W.cell? ⟨b, 1, none⟩ = some v1 ∧ W.cell? ⟨b, 2, none⟩ = some v2 ∧ W.cell? ⟨b, 3, none⟩ = some v3 ∧ W.cell? ⟨c, 0, none⟩ = some u0 ∧ W.cell? ⟨c, 1, none⟩ = some u1 ∧ W.cell? ⟨c, 2, none⟩ = some u2 ∧ W.cell? ⟨c, 3, none⟩ = some u3) :
    X.cell? ⟨b, 0, none⟩ = some v0 ∧ X.cell? ⟨b, 1, none⟩ = some v1 ∧ X.cell? ⟨b, 2, none⟩ = some v2 ∧ X.cell? ⟨b, 3, none⟩ = some v3 ∧ X.cell? ⟨c, 0, none⟩ = some u0 ∧ X.cell? ⟨c, 1, none⟩ = some u1 ∧ X.cell? ⟨c, 2, none⟩ = some u2 ∧ X.cell? ⟨c, 3, none⟩ = some u3 := by
  obtain ⟨k0, k1, k2, k3, k4, k5, k6, k7⟩ := k
  exact ⟨(hB.cell hb).trans k0, (hB.cell hb).trans k1, (hB.cell hb).trans k2, (hB.cell hb).trans k3, (hB.cell hc).trans k4, (hB.cell hc).trans k5, (hB.cell hc).trans k6, (hB.cell hc).trans k7⟩

set_option maxHeartbeats 1000000 in
theorem sCmpPrefix_any (s : Bool) (h l b : Int) (s' : Bool) (h' l' b' : Int) (c : Int) (hc : ∀ w : World, Calls Tryz.prog 98 #[.agg #[.bool s, .int .i64 h, .int .i64 l], .agg #[.bool s', .int .i64 h', .int .i64 l']] w fun e w' => e = .returned (.int .i64 c) ∧ Below w.heap.size w w') (w : World) :
    Calls Tryz.prog 47 #[.agg #[.bool s, .int .i64 h, .int .i64 l, .int .i64 b], .agg #[.bool s', .int .i64 h', .int .i64 l', .int .i64 b']] w fun e w' => e = .returned (.int .i64 (orI c (cmpW b b'))) ∧ Below w.heap.size w w' := by
  have HC : Hid (∀ w : World, _) := hc
  clear hc
  cases hz : (c != 0)
  · rw [orI_2 hz]
    by_cases h1 : b < b'
    · rw [show cmpW b b' = -1 by simp [cmpW, h1]]
      go_enter Tryz.func47, Tryz.ntmps47
      go_wp2_with fail
      refine (HC.out _).mono ?_
      rintro e w1 ⟨rfl, hb1⟩
      have hz1 := hb1.size
      try simp at hz1
      have f10 : w.heap.size < w1.heap.size := by omega
      have f11 : w.heap.size + 1 < w1.heap.size := by omega
      refine olds_k (w.heap.size + 2) hb1 ?_ ?_
      · first | omega | (simp; omega) | (simp; done)
      intro hc1 hf1
      go_wp2_with fail
      go_ret
      refine ⟨rfl, ?_⟩
      repeat (first | with_reducible exact Below.refl _ _ | (with_reducible refine Below.drew ?_) | (with_reducible refine Below.alloc ?_ ?_ _; rotate_left; (focus (first | omega | (simp; omega) | (simp; done)))) | (with_reducible refine Below.setCell ?_ ?_ _; rotate_left; (focus (first | omega | (simp; omega) | (simp; done)))) | (with_reducible refine Below.trans ?_ (hb1.mono ?_); rotate_left; (focus (first | omega | (simp; omega) | (simp; done)))))
    · by_cases h2 : b' < b
      · rw [show cmpW b b' = 1 by simp [cmpW, h1, h2]]
        go_enter Tryz.func47, Tryz.ntmps47
        go_wp2_with fail
        refine (HC.out _).mono ?_
        rintro e w1 ⟨rfl, hb1⟩
        have hz1 := hb1.size
        try simp at hz1
        have f10 : w.heap.size < w1.heap.size := by omega
        have f11 : w.heap.size + 1 < w1.heap.size := by omega
        refine olds_k (w.heap.size + 2) hb1 ?_ ?_
        · first | omega | (simp; omega) | (simp; done)
        intro hc1 hf1
        go_wp2_with fail
        go_ret
        refine ⟨rfl, ?_⟩
        repeat (first | with_reducible exact Below.refl _ _ | (with_reducible refine Below.drew ?_) | (with_reducible refine Below.alloc ?_ ?_ _; rotate_left; (focus (first | omega | (simp; omega) | (simp; done)))) | (with_reducible refine Below.setCell ?_ ?_ _; rotate_left; (focus (first | omega | (simp; omega) | (simp; done)))) | (with_reducible refine Below.trans ?_ (hb1.mono ?_); rotate_left; (focus (first | omega | (simp; omega) | (simp; done)))))
      · rw [show cmpW b b' = 0 by simp [cmpW, h1, h2]]
        go_enter Tryz.func47, Tryz.ntmps47
        go_wp2_with fail
        refine (HC.out _).mono ?_
        rintro e w1 ⟨rfl, hb1⟩
        have hz1 := hb1.size
        try simp at hz1
        have f10 : w.heap.size < w1.heap.size := by omega
        have f11 : w.heap.size + 1 < w1.heap.size := by omega
        refine olds_k (w.heap.size + 2) hb1 ?_ ?_
        · first | omega | (simp; omega) | (simp; done)
        intro hc1 hf1
        go_wp2_with fail
        go_ret
        refine ⟨rfl, ?_⟩
        repeat (first | with_reducible exact Below.refl _ _ | (with_reducible refine Below.drew ?_) | (with_reducible refine Below.alloc ?_ ?_ _; rotate_left; (focus (first | omega | (simp; omega) | (simp; done)))) | (with_reducible refine Below.setCell ?_ ?_ _; rotate_left; (focus (first | omega | (simp; omega) | (simp; done)))) | (with_reducible refine Below.trans ?_ (hb1.mono ?_); rotate_left; (focus (first | omega | (simp; omega) | (simp; done)))))
  · rw [orI_1 hz]
    go_enter Tryz.func47, Tryz.ntmps47
    go_wp2_with fail
    refine (HC.out _).mono ?_
    rintro e w1 ⟨rfl, hb1⟩
    have hz1 := hb1.size
    try simp at hz1
    have f10 : w.heap.size < w1.heap.size := by omega
    have f11 : w.heap.size + 1 < w1.heap.size := by omega
    refine olds_k (w.heap.size + 2) hb1 ?_ ?_
    · first | omega | (simp; omega) | (simp; done)
    intro hc1 hf1
    go_wp2_with fail
    go_ret
    refine ⟨rfl, ?_⟩
    repeat (first | with_reducible exact Below.refl _ _ | (with_reducible refine Below.drew ?_) | (with_reducible refine Below.alloc ?_ ?_ _; rotate_left; (focus (first | omega | (simp; omega) | (simp; done)))) | (with_reducible refine Below.setCell ?_ ?_ _; rotate_left; (focus (first | omega | (simp; omega) | (simp; done)))) | (with_reducible refine Below.trans ?_ (hb1.mono ?_); rotate_left; (focus (first | omega | (simp; omega) | (simp; done)))))

set_option maxHeartbeats 1000000 in
theorem iCmpPrefix_any (s : Bool) (h l b : Int) (s' : Bool) (h' l' b' : Int) (c : Int) (hc : ∀ w : World, Calls Tryz.prog 139 #[.agg #[.bool s, .int .i64 h, .int .i64 l], .agg #[.bool s', .int .i64 h', .int .i64 l']] w fun e w' => e = .returned (.int .i64 c) ∧ Below w.heap.size w w') (w : World) :
    Calls Tryz.prog 108 #[.agg #[.bool s, .int .i64 h, .int .i64 l, .int .i64 b], .agg #[.bool s', .int .i64 h', .int .i64 l', .int .i64 b']] w fun e w' => e = .returned (.int .i64 (orI c (cmpW b b'))) ∧ Below w.heap.size w w' := by
  have HC : Hid (∀ w : World, _) := hc
  clear hc
  go_enter Tryz.func108, Tryz.ntmps108
  go_wp2_with fail
  go_region_held3 (fun x => x.cell? ⟨w.heap.size, 0, none⟩ = some (.bool s) ∧ x.cell? ⟨w.heap.size, 1, none⟩ = some (.int .i64 h) ∧ x.cell? ⟨w.heap.size, 2, none⟩ = some (.int .i64 l) ∧ x.cell? ⟨w.heap.size, 3, none⟩ = some (.int .i64 b) ∧ x.cell? ⟨w.heap.size + 1, 0, none⟩ = some (.bool s') ∧ x.cell? ⟨w.heap.size + 1, 1, none⟩ = some (.int .i64 h') ∧ x.cell? ⟨w.heap.size + 1, 2, none⟩ = some (.int .i64 l') ∧ x.cell? ⟨w.heap.size + 1, 3, none⟩ = some (.int .i64 b')) ((refine eight_of_below' (W := (w.alloc (.cells #[.bool s, .int .i64 h, .int .i64 l, .int .i64 b] 31)).alloc (.cells #[.bool s', .int .i64 h', .int .i64 l', .int .i64 b'] 31)) (n := w.heap.size + 2) ?_ (by omega) (by omega) ⟨by simp [go_sem], by simp [go_sem], by simp [go_sem], by simp [go_sem], by simp [go_sem], by simp [go_sem], by simp [go_sem], by simp [go_sem]⟩; repeat (first | with_reducible exact Below.refl _ _ | (with_reducible refine Below.drew ?_) | (with_reducible refine Below.alloc ?_ ?_ _; rotate_left; (focus (first | omega | (simp; omega) | (simp; done)))) | (with_reducible refine Below.setCell ?_ ?_ _; rotate_left; (focus (first | omega | (simp; omega) | (simp; done)))) | (with_reducible refine Below.trans ?_ (hb1.mono ?_); rotate_left; (focus (first | omega | (simp; omega) | (simp; done))))))) (first | (go_at_call 139; refine (HC.out _).mono ?_; rintro e w1 ⟨rfl, hb1⟩; have hz1 := hb1.size; (try simp at hz1); (first | (refine ltk (w.heap.size) (w1.heap.size) ?_ ?_; (focus omega); intro f10) | skip); (first | (refine ltk (w.heap.size + 1) (w1.heap.size) ?_ ?_; (focus omega); intro f11) | skip); (refine olds_k (w.heap.size + 2) hb1 ?_ ?_; (focus (first | omega | (simp; omega) | (simp; done))); intro hc1 hf1)) | (go_at_call 140; refine (cmpInt_any b b' _).mono ?_; rintro e w2 ⟨rfl, rfl⟩) | (go_at_call 138; refine (cmpOr_any c (cmpW b b') _ _ ?_ ?_).mono ?_; (focus (simp [go_sem])); (focus (simp [go_sem])); rintro e w3 ⟨rfl, rfl⟩))
  all_goals
    go_wp2_with fail
    go_ret
    refine ⟨rfl, ?_⟩
    repeat (first | with_reducible exact Below.refl _ _ | (with_reducible refine Below.drew ?_) | (with_reducible refine Below.alloc ?_ ?_ _; rotate_left; (focus (first | omega | (simp; omega) | (simp; done)))) | (with_reducible refine Below.setCell ?_ ?_ _; rotate_left; (focus (first | omega | (simp; omega) | (simp; done)))) | (with_reducible refine Below.trans ?_ (hb1.mono ?_); rotate_left; (focus (first | omega | (simp; omega) | (simp; done)))))

end Go.Proofs.YtdbcdichmmcnbaaGreat

/-
  Plain facts on words of 64 bits: masks of the last bits, an address whose last bits are cleared or filled, the first bits as the specification takes them. No program is named.
-/
namespace Go.Proofs.YtdbcdichmmcnbaaGreat
open Go.RowKit

def ml (n : Nat) : BitVec 64 := if 64 ≤ n then BitVec.allOnes 64 else BitVec.ofNat 64 (2 ^ n - 1)
def mh (n : Nat) : BitVec 64 := ml (n - 64)
def hg (b : Int) : BitVec 64 := if b ≤ 0 then 0 else if 64 ≤ b then BitVec.allOnes 64 else BitVec.allOnes 64 <<< (64 - b).toNat

theorem wrapI (r : BitVec 64) : IntKind.wrap .i64 (r.toNat : Int) = r.toInt := by
  have h := r.isLt
  simp [IntKind.wrap, IntKind.bits, IntKind.signed, BitVec.toInt_eq_toNat_cond]
  omega
theorem wrapU (r : BitVec 64) : IntKind.wrap .u64 (r.toInt) = (r.toNat : Int) := by
  have h := r.isLt
  simp [IntKind.wrap, IntKind.bits, IntKind.signed, BitVec.toInt_eq_toNat_cond]
  split <;> omega
theorem wrapUn (r : BitVec 64) : IntKind.wrap .u64 (r.toNat) = (r.toNat : Int) := by
  have h := r.isLt
  simp [IntKind.wrap, IntKind.bits, IntKind.signed]
  omega
theorem ofN (r : BitVec 64) : BitVec.ofInt 64 (r.toNat : Int) = r := by simp
theorem ofI (r : BitVec 64) : BitVec.ofInt 64 r.toInt = r := by simp

theorem w64 (x : Int) : wrap64 x = IntKind.i64.wrap x := by rw [IntKind.wrap_i64, wrap64]

theorem bAN (H M : BitVec 64) : bits .andNot .i64 H.toInt M.toInt = (H &&& ~~~ M).toInt := by
  show IntKind.i64.wrap ((BitVec.ofInt 64 H.toInt &&& ~~~ BitVec.ofInt 64 M.toInt).toNat : Int) = _
  rw [ofI, ofI, wrapI]
theorem bOr (H M : BitVec 64) : bits .or .i64 H.toInt M.toInt = (H ||| M).toInt := by
  show IntKind.i64.wrap ((BitVec.ofInt 64 H.toInt ||| BitVec.ofInt 64 M.toInt).toNat : Int) = _
  rw [ofI, ofI, wrapI]
theorem bAnd (H M : BitVec 64) : bits .and .i64 H.toInt M.toInt = (H &&& M).toInt := by
  show IntKind.i64.wrap ((BitVec.ofInt 64 H.toInt &&& BitVec.ofInt 64 M.toInt).toNat : Int) = _
  rw [ofI, ofI, wrapI]
theorem bAndU (H M : BitVec 64) : bits .and .u64 H.toNat M.toNat = (H &&& M).toNat := by
  show IntKind.u64.wrap ((BitVec.ofInt 64 H.toNat &&& BitVec.ofInt 64 M.toNat).toNat : Int) = _
  rw [ofN, ofN, wrapUn]
theorem bOrU (H M : BitVec 64) : bits .or .u64 H.toNat M.toNat = (H ||| M).toNat := by
  show IntKind.u64.wrap ((BitVec.ofInt 64 H.toNat ||| BitVec.ofInt 64 M.toNat).toNat : Int) = _
  rw [ofN, ofN, wrapUn]

theorem hg_sh (b : Int) (h : 0 < b) (h1 : b < 64) : IntKind.wrap .u64 (18446744073709551615 * 2 ^ min (64 - b).toNat 64) = (hg b).toNat := by
  have : ∀ k : Fin 64, 0 < k.val → IntKind.wrap .u64 (18446744073709551615 * 2 ^ min (64 - (k.val : Int)).toNat 64) = (hg (k.val : Int)).toNat := by decide
  have := this ⟨b.toNat, by omega⟩ (by simp; omega)
  simpa [Int.toNat_of_nonneg (Int.le_of_lt h)] using this
theorem hg_hi (n : Nat) (h : n ≤ 128) : hg (128 - (n : Int)) = ~~~ mh n := by
  have : ∀ k : Fin 129, hg (128 - (k.val : Int)) = ~~~ mh k.val := by decide
  exact this ⟨n, by omega⟩
theorem hg_lo (n : Nat) (h : n ≤ 128) : hg (128 - (n : Int) - 64) = ~~~ ml n := by
  have : ∀ k : Fin 129, hg (128 - (k.val : Int) - 64) = ~~~ ml k.val := by decide
  exact this ⟨n, by omega⟩
theorem hg_32 (n : Nat) (h : n ≤ 32) : 0xFFFFFFFF#64 &&& ~~~ ml n = hg (32 - (n : Int)) >>> 32 := by
  have : ∀ k : Fin 33, 0xFFFFFFFF#64 &&& ~~~ ml k.val = hg (32 - (k.val : Int)) >>> 32 := by decide
  exact this ⟨n, by omega⟩
theorem ng_32 (n : Nat) (h : n ≤ 32) : (~~~ hg (32 - (n : Int))) >>> 32 = ml n := by
  have : ∀ k : Fin 33, (~~~ hg (32 - (k.val : Int))) >>> 32 = ml k.val := by decide
  exact this ⟨n, by omega⟩
theorem mh_32 (n : Nat) (h : n ≤ 32) : mh n = 0 := by
  have : ∀ k : Fin 33, mh k.val = 0 := by decide
  exact this ⟨n, by omega⟩
theorem low32 (L : BitVec 64) (h : L.toNat < 4294967296) : L = L &&& 0xFFFFFFFF#64 := by
  apply BitVec.eq_of_toNat_eq
  rw [BitVec.toNat_and]
  have := Nat.and_two_pow_sub_one_eq_mod L.toNat 32
  simp at this ⊢
  omega
theorem msk32 (L : BitVec 64) (h : L.toNat < 4294967296) (n : Nat) (hn : n ≤ 32) : L &&& (hg (32 - (n : Int)) >>> 32) = L &&& ~~~ ml n := by
  rw [← hg_32 n hn, ← BitVec.and_assoc, ← low32 L h]
theorem shr32 (r : BitVec 64) : ((r.toNat : Int).fdiv (2 ^ 32)) = ((r >>> 32).toNat : Int) := by
  simp [BitVec.toNat_ushiftRight, Nat.shiftRight_eq_div_pow]
  rw [Int.fdiv_eq_ediv_of_nonneg _ (by decide)]
theorem ml_lt (n : Nat) (h : n ≤ 32) : (ml n).toNat < 4294967296 := by
  have : ∀ k : Fin 33, (ml k.val).toNat < 4294967296 := by decide
  exact this ⟨n, by omega⟩
theorem or_lt32 (L M : BitVec 64) (h : L.toNat < 4294967296) (h1 : M.toNat < 4294967296) : (L ||| M).toNat < 4294967296 := by
  rw [BitVec.toNat_or]
  exact Nat.or_lt_two_pow (n := 32) h h1
theorem and_lt32 (L M : BitVec 64) (h : L.toNat < 4294967296) : (L &&& M).toNat < 4294967296 := by
  rw [BitVec.toNat_and]
  exact Nat.lt_of_le_of_lt Nat.and_le_left h

theorem ml_bit (n i : Nat) : (ml n).getLsbD i = (decide (i < 64) && decide (i < n)) := by
  unfold ml
  split
  · rw [BitVec.getLsbD_allOnes]
    by_cases a : i < 64
    · simp only [a, decide_true, Bool.true_and]
      exact (decide_eq_true (by omega)).symm
    · simp only [a, decide_false, Bool.false_and]
  · rw [BitVec.getLsbD_ofNat, Nat.testBit_two_pow_sub_one]
theorem mh_bit (n i : Nat) : (mh n).getLsbD i = (decide (i < 64) && decide (i + 64 < n)) := by
  rw [mh, ml_bit]
  congr 1
  exact decide_eq_decide.mpr (by omega)

/-- cleared and filled -/
def cH (n : Nat) (H : BitVec 64) := H &&& ~~~ mh n
def cL (n : Nat) (L : BitVec 64) := L &&& ~~~ ml n
def fH (n : Nat) (H : BitVec 64) := H ||| mh n
def fL (n : Nat) (L : BitVec 64) := L ||| ml n

theorem cH_less (n : Nat) (H : BitVec 64) (h : cH (n + 1) H = H) : cH n H = H := by
  rw [← h]
  apply BitVec.eq_of_getLsbD_eq
  intro i hi
  simp only [cH, BitVec.getLsbD_and, BitVec.getLsbD_not, mh_bit, hi, decide_true, Bool.true_and]
  by_cases a : i + 64 < n + 1 <;> by_cases b : i + 64 < n <;> simp [a, b] <;> omega
theorem cL_less (n : Nat) (L : BitVec 64) (h : cL (n + 1) L = L) : cL n L = L := by
  rw [← h]
  apply BitVec.eq_of_getLsbD_eq
  intro i hi
  simp only [cL, BitVec.getLsbD_and, BitVec.getLsbD_not, ml_bit, hi, decide_true, Bool.true_and]
  by_cases a : i < n + 1 <;> by_cases b : i < n <;> simp [a, b] <;> omega
theorem cH_idem (n : Nat) (H : BitVec 64) : cH n (cH n H) = cH n H := by
  simp [cH, BitVec.and_assoc]
theorem cL_idem (n : Nat) (L : BitVec 64) : cL n (cL n L) = cL n L := by
  simp [cL, BitVec.and_assoc]
/-- the halves are two -/
theorem up_neL (n : Nat) (hn : n < 64) (L : BitVec 64) (h : cL (n + 1) L = L) : cL n (fL (n + 1) L) ≠ L := by
  intro e
  have e1 := congrArg (fun x : BitVec 64 => x.getLsbD n) e
  have e2 := congrArg (fun x : BitVec 64 => x.getLsbD n) h
  simp only [cL, fL, BitVec.getLsbD_and, BitVec.getLsbD_or, BitVec.getLsbD_not, ml_bit, hn, decide_true, Nat.lt_succ_self, Nat.lt_irrefl, decide_false, Bool.or_true, Bool.not_true, Bool.not_false, Bool.and_false, Bool.and_true] at e1 e2
  rw [← e1] at e2
  cases e2
theorem up_neH (n : Nat) (hn : n < 128) (h64 : 64 ≤ n) (H : BitVec 64) (h : cH (n + 1) H = H) : cH n (fH (n + 1) H) ≠ H := by
  intro e
  have e1 := congrArg (fun x : BitVec 64 => x.getLsbD (n - 64)) e
  have e2 := congrArg (fun x : BitVec 64 => x.getLsbD (n - 64)) h
  have hi : n - 64 < 64 := by omega
  have hj : n - 64 + 64 = n := by omega
  simp only [cH, fH, BitVec.getLsbD_and, BitVec.getLsbD_or, BitVec.getLsbD_not, mh_bit, hi, hj, decide_true, Nat.lt_succ_self, Nat.lt_irrefl, decide_false, Bool.or_true, Bool.not_true, Bool.not_false, Bool.and_false, Bool.and_true] at e1 e2
  rw [← e1] at e2
  cases e2

end Go.Proofs.YtdbcdichmmcnbaaGreat

/-
  The program's small functions on an address's bits (width, lastBits, cleared, filled), each by its plain twin; nothing old in memory turns.
-/
namespace Go.Proofs.YtdbcdichmmcnbaaGreat
open Go.RowKit

def wd (s : Bool) : Nat := if s then 128 else 32

set_option maxHeartbeats 400000 in
theorem width_any (s : Bool) (h l : Int) (w : World) :
    Calls Tryz.prog 103 #[.agg #[.bool s, .int .i64 h, .int .i64 l]] w fun e w' => e = .returned (.int .i64 (wd s)) ∧ Below w.heap.size w w' := by
  cases s <;>
  · go_enter Tryz.func103, Tryz.ntmps103
    go_wp2
    go_ret
    exact ⟨rfl, (Below.refl _ _).alloc (Nat.le_refl _) _⟩

theorem loX (n : Nat) (h : n ≤ 128) : wrap64 (IntKind.u64.wrap (IntKind.u64.wrap (2 ^ min n 64) - 1)) = (ml n).toInt := by
  have : ∀ k : Fin 129, IntKind.i64.wrap (IntKind.u64.wrap (IntKind.u64.wrap (2 ^ min k.val 64) - 1)) = (ml k.val).toInt := by decide
  rw [w64]
  exact this ⟨n, by omega⟩
theorem hiX (n : Nat) (h : n ≤ 128) (h0 : 0 ≤ (n : Int) - 64) : wrap64 (IntKind.u64.wrap (IntKind.u64.wrap (2 ^ ((n : Int) - 64).toNat) - 1)) = (mh n).toInt := by
  have : ∀ k : Fin 129, IntKind.i64.wrap (IntKind.u64.wrap (IntKind.u64.wrap (2 ^ ((k.val : Int) - 64).toNat) - 1)) = (mh k.val).toInt := by decide
  rw [w64]
  exact this ⟨n, by omega⟩
theorem hiY (n : Nat) (h0 : (n : Int) - 64 < 0) : wrap64 (IntKind.u64.wrap (IntKind.u64.wrap 1 - 1)) = (mh n).toInt := by
  have : ∀ k : Fin 64, IntKind.i64.wrap (IntKind.u64.wrap (IntKind.u64.wrap 1 - 1)) = (mh k.val).toInt := by decide
  rw [w64]
  exact this ⟨n, by omega⟩

set_option maxHeartbeats 400000 in
theorem lastBits_any (n : Nat) (hn : n ≤ 128) (w : World) :
    Calls Tryz.prog 151 #[.int .i64 n] w fun e w' => e = .returned (.tuple #[.int .i64 (mh n).toInt, .int .i64 (ml n).toInt]) ∧ Below w.heap.size w w' := by
  go_enter Tryz.func151, Tryz.ntmps151
  go_wp2
  · exact bodyPost_ret (v := .tuple #[.int .i64 (mh n).toInt, .int .i64 (ml n).toInt]) (by simp [results, Tryz.results151, go_sem, loX n hn, hiY n (by assumption)]) rfl ⟨rfl, Below.refl _ _⟩
  · exact bodyPost_ret (v := .tuple #[.int .i64 (mh n).toInt, .int .i64 (ml n).toInt]) (by simp [results, Tryz.results151, go_sem, loX n hn, hiX n hn (by assumption)]) rfl ⟨rfl, Below.refl _ _⟩

set_option maxHeartbeats 400000 in
theorem cleared_any (s : Bool) (H L : BitVec 64) (n : Nat) (hn : n ≤ 128) (w : World) :
    Calls Tryz.prog 131 #[.agg #[.bool s, .int .i64 H.toInt, .int .i64 L.toInt], .int .i64 n] w fun e w' => e = .returned (.agg #[.bool s, .int .i64 (cH n H).toInt, .int .i64 (cL n L).toInt]) ∧ Below w.heap.size w w' := by
  go_enter Tryz.func131, Tryz.ntmps131
  go_wp2_with fail
  refine (lastBits_any n hn _).mono ?_
  rintro e w1 ⟨rfl, hb⟩
  obtain ⟨hc, hf⟩ := olds (n := w.heap.size + 2) (hb.mono (by simp))
  have hz1 : w.heap.size + 1 < w1.heap.size := by have := hb.size; simp at this; omega
  have hz0 : w.heap.size < w1.heap.size := by omega
  have b1 : Below w.heap.size w w1 := (((Below.refl _ w).alloc (Nat.le_refl _) _).alloc (by simp) _).trans (hb.mono (by simp; omega))
  go_wp2
  refine bodyPost_ret (v := .agg #[.bool s, .int .i64 (cH n H).toInt, .int .i64 (cL n L).toInt]) (by simp [results, Tryz.results131, go_sem, hc, bAN, cH, cL]) rfl ⟨rfl, ?_⟩
  repeat (first | with_reducible exact b1 | (with_reducible refine Below.setCell ?_ (by first | omega | (simp; done) | (simp; omega)) _) | (with_reducible refine Below.alloc ?_ (by first | omega | (simp; done) | (simp; omega)) _))

end Go.Proofs.YtdbcdichmmcnbaaGreat

/-
  The program's methods of a span (an address and how many of its last bits are free), each by its plain twin; nothing old in memory turns.
-/
namespace Go.Proofs.YtdbcdichmmcnbaaGreat
open Go.RowKit

/-- '==' on two addresses, and on two spans. -/
theorem eqAd (a : Bool) (b c : Int) (d : Bool) (e f : Int) (w : World) : (Op.equalIn 10000 29 (.agg #[.bool a, .int .i64 b, .int .i64 c]) (.agg #[.bool d, .int .i64 e, .int .i64 f])).run Tryz.prog w = .ok (a == d && (b == e && c == f)) w := by
  have u3 := Tryz.underlying3
  have a3 := Tryz.isAgg3
  have z3 := Tryz.sizeOf3
  have u4 := Tryz.underlying4
  have a4 := Tryz.isAgg4
  have z4 := Tryz.sizeOf4
  have hS : Tryz.prog.underlying 29 = some (.struct (Tryz.prog.fieldsOf 29)) := by kernel_rfl
  have hp : Tryz.prog.stoodInHeld 29 = false := by kernel_rfl
  rw [show (10000 : Nat) = 9999 + 1 from rfl, run_equalIn_agg w 9999 29 _ _ hS hp]
  simp only [Program.fieldsOf, Tryz.underlying29]
  go_simp
  by_cases h1 : a = d <;> by_cases h2 : b = e <;> by_cases h3 : c = f <;> simp [h1, h2, h3]

theorem beqI (x y : BitVec 64) : (x.toInt == y.toInt) = (x == y) := by
  rw [Bool.eq_iff_iff, beq_iff_eq, beq_iff_eq, BitVec.toInt_inj]

/-- whether the span (s, H, L) of size n has the address (s', H', L') -/
def hasB (s : Bool) (H L : BitVec 64) (n : Nat) (s' : Bool) (H' L' : BitVec 64) : Bool := s' == s && (cH n H' == H && cL n L' == L)

theorem hasEq (s : Bool) (H L : BitVec 64) (n : Nat) (s' : Bool) (H' L' : BitVec 64) (wx : World) : (Op.equalIn 10000 29 (.agg #[.bool s', .int .i64 (cH n H').toInt, .int .i64 (cL n L').toInt]) (.agg #[.bool s, .int .i64 H.toInt, .int .i64 L.toInt])).run Tryz.prog wx = .ok (hasB s H L n s' H' L') wx := by
  rw [eqAd, beqI, beqI]; rfl

set_option maxHeartbeats 1000000 in
theorem has_any (s : Bool) (H L : BitVec 64) (n : Nat) (hn : n ≤ 128) (s' : Bool) (H' L' : BitVec 64) (w : World) :
    Calls Tryz.prog 100 #[.agg #[.bool s, .int .i64 H.toInt, .int .i64 L.toInt, .int .i64 n], .agg #[.bool s', .int .i64 H'.toInt, .int .i64 L'.toInt]] w fun e w' => e = .returned (.bool (hasB s H L n s' H' L')) ∧ Below w.heap.size w w' := by
  have hq := hasEq s H L n s' H' L'
  go_enter Tryz.func100, Tryz.ntmps100
  go_wp2_with fail
  go_region_with ((go_at_call 131; refine (cleared_any s' H' L' n hn _).mono ?_; rintro e w1 ⟨rfl, hb1⟩; have hz1 := hb1.size; (try simp at hz1); (first | (refine ltk (w.heap.size) (w1.heap.size) ?_ ?_; (focus omega); intro f10) | skip); (first | (refine ltk (w.heap.size + 1) (w1.heap.size) ?_ ?_; (focus omega); intro f11) | skip); (refine olds_k (w.heap.size + 2) hb1 ?_ ?_; (focus (first | omega | (simp; omega) | (simp; done))); intro hc1 hf1)))
  all_goals
    go_wp2_with fail
    go_ret
    refine ⟨rfl, ?_⟩
    repeat (first | with_reducible exact Below.refl _ _ | (with_reducible refine Below.drew ?_) | (with_reducible refine Below.alloc ?_ ?_ _; rotate_left; (focus (first | omega | (simp; omega) | (simp; done)))) | (with_reducible refine Below.setCell ?_ ?_ _; rotate_left; (focus (first | omega | (simp; omega) | (simp; done)))) | (with_reducible refine Below.trans ?_ (hb1.mono ?_); rotate_left; (focus (first | omega | (simp; omega) | (simp; done)))))

end Go.Proofs.YtdbcdichmmcnbaaGreat

/-
  The program's spanOf, by its plain twin; nothing old in memory turns.
-/
namespace Go.Proofs.YtdbcdichmmcnbaaGreat
open Go.RowKit

theorem wd_le' (s : Bool) : wd s ≤ 128 := by cases s <;> decide

set_option maxHeartbeats 1000000 in
theorem spanOf_bad (s : Bool) (H L : BitVec 64) (b : Int) (hok : okB s H.toInt L.toInt = false) (w : World) :
    Calls Tryz.prog 52 #[.agg #[.bool s, .int .i64 H.toInt, .int .i64 L.toInt, .int .i64 b]] w fun e w' => e = .returned (.tuple #[.agg #[.bool false, .int .i64 0, .int .i64 0, .int .i64 0], .bool false]) ∧ Below w.heap.size w w' := by
  have HK : Hid (∀ w, _) := iAddrOk_any s H.toInt L.toInt
  rw [hok] at HK
  clear hok
  go_enter Tryz.func52, Tryz.ntmps52
  go_wp2_with fail
  first | (go_region_with ((go_at_call 99; refine (HK.out _).mono ?_; rintro e w1 ⟨rfl, hb1⟩; have hz1 := hb1.size; (try simp at hz1); (first | (refine ltk (w.heap.size) (w1.heap.size) ?_ ?_; (focus omega); intro f10) | skip); (first | (refine ltk (w.heap.size + 1) (w1.heap.size) ?_ ?_; (focus omega); intro f11) | skip); (first | (refine ltk (w.heap.size + 2) (w1.heap.size) ?_ ?_; (focus omega); intro f12) | skip); (refine olds_k (w.heap.size + 3) hb1 ?_ ?_; (focus (first | omega | (simp; omega) | (simp; done))); intro hc1 hf1)))) | fail
  all_goals
    go_wp2_with fail
    refine bodyPost_ret (v := .tuple #[.agg #[.bool false, .int .i64 0, .int .i64 0, .int .i64 0], .bool false]) (by simp [results, Tryz.results52, go_sem, hc1]) rfl ⟨rfl, ?_⟩
    repeat (first | with_reducible exact Below.refl _ _ | (with_reducible refine Below.drew ?_) | (with_reducible refine Below.alloc ?_ ?_ _; rotate_left; (focus (first | omega | (simp; omega) | (simp; done)))) | (with_reducible refine Below.setCell ?_ ?_ _; rotate_left; (focus (first | omega | (simp; omega) | (simp; done)))) | (with_reducible refine Below.trans ?_ (hb1.mono ?_); rotate_left; (focus (first | omega | (simp; omega) | (simp; done)))))

set_option maxHeartbeats 1000000 in
theorem spanOf_neg (s : Bool) (H L : BitVec 64) (b : Int) (hok : okB s H.toInt L.toInt = true) (hb : b < 0) (w : World) :
    Calls Tryz.prog 52 #[.agg #[.bool s, .int .i64 H.toInt, .int .i64 L.toInt, .int .i64 b]] w fun e w' => e = .returned (.tuple #[.agg #[.bool false, .int .i64 0, .int .i64 0, .int .i64 0], .bool false]) ∧ Below w.heap.size w w' := by
  have HK : Hid (∀ w, _) := iAddrOk_any s H.toInt L.toInt
  rw [hok] at HK
  clear hok
  go_enter Tryz.func52, Tryz.ntmps52
  go_wp2_with fail
  first | (go_region_with ((go_at_call 99; refine (HK.out _).mono ?_; rintro e w1 ⟨rfl, hb1⟩; have hz1 := hb1.size; (try simp at hz1); (first | (refine ltk (w.heap.size) (w1.heap.size) ?_ ?_; (focus omega); intro f10) | skip); (first | (refine ltk (w.heap.size + 1) (w1.heap.size) ?_ ?_; (focus omega); intro f11) | skip); (first | (refine ltk (w.heap.size + 2) (w1.heap.size) ?_ ?_; (focus omega); intro f12) | skip); (refine olds_k (w.heap.size + 3) hb1 ?_ ?_; (focus (first | omega | (simp; omega) | (simp; done))); intro hc1 hf1)))) | fail
  all_goals
    go_wp2_with fail
    refine bodyPost_ret (v := .tuple #[.agg #[.bool false, .int .i64 0, .int .i64 0, .int .i64 0], .bool false]) (by simp [results, Tryz.results52, go_sem, hc1]) rfl ⟨rfl, ?_⟩
    repeat (first | with_reducible exact Below.refl _ _ | (with_reducible refine Below.drew ?_) | (with_reducible refine Below.alloc ?_ ?_ _; rotate_left; (focus (first | omega | (simp; omega) | (simp; done)))) | (with_reducible refine Below.setCell ?_ ?_ _; rotate_left; (focus (first | omega | (simp; omega) | (simp; done)))) | (with_reducible refine Below.trans ?_ (hb1.mono ?_); rotate_left; (focus (first | omega | (simp; omega) | (simp; done)))))

set_option maxHeartbeats 1000000 in
theorem spanOf_big (s : Bool) (H L : BitVec 64) (b : Int) (hok : okB s H.toInt L.toInt = true) (hb : 0 ≤ b) (hg : (wd s : Int) < b) (w : World) :
    Calls Tryz.prog 52 #[.agg #[.bool s, .int .i64 H.toInt, .int .i64 L.toInt, .int .i64 b]] w fun e w' => e = .returned (.tuple #[.agg #[.bool false, .int .i64 0, .int .i64 0, .int .i64 0], .bool false]) ∧ Below w.heap.size w w' := by
  have HK : Hid (∀ w, _) := iAddrOk_any s H.toInt L.toInt
  rw [hok] at HK
  clear hok
  go_enter Tryz.func52, Tryz.ntmps52
  go_wp2_with fail
  first | (go_region_with (first | (go_at_call 99; refine (HK.out _).mono ?_; rintro e w1 ⟨rfl, hb1⟩; have hz1 := hb1.size; (try simp at hz1); (first | (refine ltk (w.heap.size) (w1.heap.size) ?_ ?_; (focus omega); intro f10) | skip); (first | (refine ltk (w.heap.size + 1) (w1.heap.size) ?_ ?_; (focus omega); intro f11) | skip); (first | (refine ltk (w.heap.size + 2) (w1.heap.size) ?_ ?_; (focus omega); intro f12) | skip); (refine olds_k (w.heap.size + 3) hb1 ?_ ?_; (focus (first | omega | (simp; omega) | (simp; done))); intro hc1 hf1)) | (go_at_call 103; refine (width_any s H.toInt L.toInt _).mono ?_; rintro e w2 ⟨rfl, hb2⟩; have hz2 := hb2.size; (try simp at hz2); (first | (refine ltk (w.heap.size) (w2.heap.size) ?_ ?_; (focus omega); intro f20) | skip); (first | (refine ltk (w.heap.size + 1) (w2.heap.size) ?_ ?_; (focus omega); intro f21) | skip); (first | (refine ltk (w.heap.size + 2) (w2.heap.size) ?_ ?_; (focus omega); intro f22) | skip); (refine olds_k (w.heap.size + 3) hb2 ?_ ?_; (focus (first | omega | (simp; omega) | (simp; done))); intro hc2 hf2)))) | fail
  all_goals
    go_wp2_with fail
    refine bodyPost_ret (v := .tuple #[.agg #[.bool false, .int .i64 0, .int .i64 0, .int .i64 0], .bool false]) (by simp [results, Tryz.results52, go_sem, hc1, hc2]) rfl ⟨rfl, ?_⟩
    repeat (first | with_reducible exact Below.refl _ _ | (with_reducible refine Below.drew ?_) | (with_reducible refine Below.alloc ?_ ?_ _; rotate_left; (focus (first | omega | (simp; omega) | (simp; done)))) | (with_reducible refine Below.setCell ?_ ?_ _; rotate_left; (focus (first | omega | (simp; omega) | (simp; done)))) | (with_reducible refine Below.trans ?_ (hb2.mono ?_); rotate_left; (focus (first | omega | (simp; omega) | (simp; done)))) | (with_reducible refine Below.trans ?_ (hb1.mono ?_); rotate_left; (focus (first | omega | (simp; omega) | (simp; done)))))

end Go.Proofs.YtdbcdichmmcnbaaGreat
