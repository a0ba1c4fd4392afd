/-
  Both normalisers of an address (one that is not right counts as the zero one), each by its plain twin; nothing old in memory turns.
-/
import Derived.Test.YtgohffeneibhdaaAOk
import Derived.Deep.RegionHeld3
import Derived.Deep.RegionWith
import Derived.Deep.DeepCutAuto
namespace Go.Proofs.Ytgohffeneibhdaa
open Go.RowKit

/-- (S, H, L) is the address (s, h, l) where that is right, else the zero one. -/
def Nrm (s : Bool) (h l : Int) (S : Bool) (H L : Int) : Prop := (okB s h l = true ∧ S = s ∧ H = h ∧ L = l) ∨ (okB s h l = false ∧ S = false ∧ H = 0 ∧ L = 0)

theorem Nrm_ex (s : Bool) (h l : Int) (wh : -9223372036854775808 ≤ h ∧ h ≤ 9223372036854775807) (wl : -9223372036854775808 ≤ l ∧ l ≤ 9223372036854775807) :
    ∃ S H L, Nrm s h l S H L ∧ (-9223372036854775808 ≤ H ∧ H ≤ 9223372036854775807) ∧ (-9223372036854775808 ≤ L ∧ L ≤ 9223372036854775807) ∧ (S = false → H = 0 ∧ 0 ≤ L ∧ L ≤ 4294967295) := by
  cases e : okB s h l
  · exact ⟨false, 0, 0, Or.inr ⟨e, rfl, rfl, rfl⟩, by omega, by omega, fun _ => by omega⟩
  · refine ⟨s, h, l, Or.inl ⟨e, rfl, rfl, rfl⟩, wh, wl, fun hs => ?_⟩
    subst hs
    simp [okB] at e
    omega

set_option maxHeartbeats 400000 in
theorem l1Addr_any (s : Bool) (h l : Int) (S : Bool) (H L : Int) (hz : Nrm s h l S H L) (w : World) :
    Calls Try.prog 93 #[.agg #[.bool s, .int .i64 h, .int .i64 l]] w fun e w' => e = .returned (.agg #[.bool S, .int .i64 H, .int .i64 L]) ∧ Below w.heap.size w w' := by
  rcases hz with ⟨ok, rfl, rfl, rfl⟩ | ⟨ok, rfl, rfl, rfl⟩
  · have HK : Hid (okB S H L = true) := ok
    clear ok
    go_enter Try.func93, Try.ntmps93
    go_wp2_with fail
    refine (sAddrOk_any S H L _).mono ?_
    rw [HK.out]
    rintro e w1 ⟨rfl, hb⟩
    obtain ⟨hc, hf⟩ := olds (n := w.heap.size + 2) (hb.mono (by simp))
    have hz := hb.size
    simp at hz
    go_wp2
    exact bodyPost_ret (v := .agg #[.bool S, .int .i64 H, .int .i64 L]) (by simp [results, Try.results93, go_sem, hc]) rfl ⟨rfl, (((((Below.refl _ w).alloc (Nat.le_refl _) _).alloc (by simp) _).trans (hb.mono (by simp; omega))).setCell (by simp) _).setCell (by simp) _ |>.setCell (by simp) _⟩
  · have HK : Hid (okB s h l = false) := ok
    clear ok
    go_enter Try.func93, Try.ntmps93
    go_wp2_with fail
    refine (sAddrOk_any s h l _).mono ?_
    rw [HK.out]
    rintro e w1 ⟨rfl, hb⟩
    obtain ⟨hc, hf⟩ := olds (n := w.heap.size + 2) (hb.mono (by simp))
    have hz := hb.size
    simp at hz
    go_wp2
    exact bodyPost_ret (v := .agg #[.bool false, .int .i64 0, .int .i64 0]) (by simp [results, Try.results93, go_sem, hc]) rfl ⟨rfl, (((((Below.refl _ w).alloc (Nat.le_refl _) _).alloc (by simp) _).trans (hb.mono (by simp; omega))).setCell (by simp) _).setCell (by simp) _ |>.setCell (by simp) _⟩

set_option maxHeartbeats 400000 in
theorem addrOrZero_any (s : Bool) (h l : Int) (S : Bool) (H L : Int) (hz : Nrm s h l S H L) (w : World) :
    Calls Try.prog 87 #[.agg #[.bool s, .int .i64 h, .int .i64 l]] w fun e w' => e = .returned (.agg #[.bool S, .int .i64 H, .int .i64 L]) ∧ Below w.heap.size w w' := by
  rcases hz with ⟨ok, rfl, rfl, rfl⟩ | ⟨ok, rfl, rfl, rfl⟩
  · have HK : Hid (okB S H L = true) := ok
    clear ok
    go_enter Try.func87, Try.ntmps87
    go_wp2_with fail
    refine (iAddrOk_any S H L _).mono ?_
    rw [HK.out]
    rintro e w1 ⟨rfl, hb⟩
    obtain ⟨hc, hf⟩ := olds (n := w.heap.size + 2) (hb.mono (by simp))
    have hz := hb.size
    simp at hz
    go_wp2
    exact bodyPost_ret (v := .agg #[.bool S, .int .i64 H, .int .i64 L]) (by simp [results, Try.results87, go_sem, hc]) rfl ⟨rfl, (((((Below.refl _ w).alloc (Nat.le_refl _) _).alloc (by simp) _).trans (hb.mono (by simp; omega))).setCell (by simp) _).setCell (by simp) _ |>.setCell (by simp) _⟩
  · have HK : Hid (okB s h l = false) := ok
    clear ok
    go_enter Try.func87, Try.ntmps87
    go_wp2_with fail
    refine (iAddrOk_any s h l _).mono ?_
    rw [HK.out]
    rintro e w1 ⟨rfl, hb⟩
    obtain ⟨hc, hf⟩ := olds (n := w.heap.size + 2) (hb.mono (by simp))
    have hz := hb.size
    simp at hz
    go_wp2
    exact bodyPost_ret (v := .agg #[.bool false, .int .i64 0, .int .i64 0]) (by simp [results, Try.results87, go_sem, hc]) rfl ⟨rfl, (((((Below.refl _ w).alloc (Nat.le_refl _) _).alloc (by simp) _).trans (hb.mono (by simp; omega))).setCell (by simp) _).setCell (by simp) _ |>.setCell (by simp) _⟩

end Go.Proofs.Ytgohffeneibhdaa

namespace Go.Proofs.Ytgohffeneibhdaa
open Go.RowKit

/-- Less, as numbers without a sign. -/
def ult (a b : Int) : Bool := decide (IntKind.u64.wrap a < IntKind.u64.wrap b)

theorem l1Less_any (a b : Int) (w : World) :
    Calls Try.prog 94 #[.int .i64 a, .int .i64 b] w fun e w' => e = .returned (.bool (ult a b)) ∧ w' = w := by
  go_enter Try.func94, Try.ntmps94
  go_wp2
  go_ret
  exact ⟨rfl, rfl⟩

/-- The library's comparing of two words. -/
def cmpW (a b : Int) : Int := if a < b then -1 else if b < a then 1 else 0

set_option maxHeartbeats 400000 in
theorem cmpCompare_any (a b : Int) (w : World) :
    Calls Try.prog 88 #[.int .u64 a, .int .u64 b] w fun e w' => e = .returned (.int .i64 (cmpW a b)) ∧ w' = w := by
  by_cases h1 : a < b
  · have e : cmpW a b = -1 := by simp [cmpW, h1]
    rw [e]
    go_enter Try.func88, Try.ntmps88
    go_wp2
    go_ret
    exact ⟨rfl, rfl⟩
  · by_cases h2 : b < a
    · have e : cmpW a b = 1 := by simp [cmpW, h1, h2]
      rw [e]
      go_enter Try.func88, Try.ntmps88
      go_wp2
      go_ret
      exact ⟨rfl, rfl⟩
    · have e : cmpW a b = 0 := by simp [cmpW, h1, h2]
      rw [e]
      go_enter Try.func88, Try.ntmps88
      go_wp2
      go_ret
      exact ⟨rfl, rfl⟩

end Go.Proofs.Ytgohffeneibhdaa

namespace Go.Proofs.Ytgohffeneibhdaa
open Go.RowKit

/-- The library's comparing of two rows of three words. -/
def cmp3 (a0 a1 a2 b0 b1 b2 : Int) : Int := if cmpW a0 b0 ≠ 0 then cmpW a0 b0 else if cmpW a1 b1 ≠ 0 then cmpW a1 b1 else cmpW a2 b2

theorem ret_int {k : IntKind} {a b : Int} (h : a = b) : Ending.returned (.int k a) = .returned (.int k b) := by rw [h]
theorem ret_bool {a b : Bool} (h : a = b) : Ending.returned (.bool a) = .returned (.bool b) := by rw [h]

/-- Two words that the library finds the same. -/
def Same (a b : Int) : Prop := (cmpW a b != 0) = false

theorem cmp3_0 {a0 a1 a2 b0 b1 b2 : Int} (h : (cmpW a0 b0 != 0) = true) : cmp3 a0 a1 a2 b0 b1 b2 = cmpW a0 b0 := by
  simp at h; simp [cmp3, h]
theorem cmp3_1 {a0 a1 a2 b0 b1 b2 : Int} (h0 : Same a0 b0) (h : (cmpW a1 b1 != 0) = true) : cmp3 a0 a1 a2 b0 b1 b2 = cmpW a1 b1 := by
  simp [Same] at h h0; simp [cmp3, h, h0]
theorem cmp3_2 {a0 a1 a2 b0 b1 b2 : Int} (h0 : Same a0 b0) (h1 : Same a1 b1) : cmp3 a0 a1 a2 b0 b1 b2 = cmpW a2 b2 := by
  simp [Same] at h1 h0; simp [cmp3, h1, h0]

set_option maxHeartbeats 1000000 in
theorem slCompare_any (a0 a1 a2 b0 b1 b2 : Int) (p q : Nat) (w : World)
    (x0 : w.cell? ⟨p, 0, none⟩ = some (.int .u64 a0)) (x1 : w.cell? ⟨p, 1, none⟩ = some (.int .u64 a1)) (x2 : w.cell? ⟨p, 2, none⟩ = some (.int .u64 a2))
    (y0 : w.cell? ⟨q, 0, none⟩ = some (.int .u64 b0)) (y1 : w.cell? ⟨q, 1, none⟩ = some (.int .u64 b1)) (y2 : w.cell? ⟨q, 2, none⟩ = some (.int .u64 b2)) :
    Calls Try.prog 71 #[.slice (some ⟨p, 0, none⟩) 3 3, .slice (some ⟨q, 0, none⟩) 3 3] w fun e w' => e = .returned (.int .i64 (cmp3 a0 a1 a2 b0 b1 b2)) ∧ w' = w := by
  go_enter Try.func71, Try.ntmps71
  go_wp2
  go_loop [11] (fun i => i = .int .i64 0 ∨ (i = .int .i64 1 ∧ Same a0 b0) ∨ (i = .int .i64 2 ∧ Same a0 b0 ∧ Same a1 b1) ∨ (i = .int .i64 3 ∧ Same a0 b0 ∧ Same a1 b1 ∧ Same a2 b2)) (fun i => 3 - (intOf i).toNat)
  case atStart => exact Or.inl rfl
  case round =>
    rcases hrel with rfl | ⟨rfl, k0⟩ | ⟨rfl, k0, k1⟩ | ⟨rfl, k0, k1, k2⟩
    · cases hc : (cmpW a0 b0 != 0)
      · go_wp2_with (go_at_call 88; refine (cmpCompare_any _ _ _).mono ?_; rintro e w' ⟨rfl, rfl⟩)
        go_round
        case rel => exact Or.inr (Or.inl ⟨rfl, hc⟩)
        case measure => simp [intOf]
      · go_wp2_with (go_at_call 88; refine (cmpCompare_any _ _ _).mono ?_; rintro e w' ⟨rfl, rfl⟩)
        go_ret
        exact ⟨ret_int (cmp3_0 hc).symm, rfl⟩
    · cases hc : (cmpW a1 b1 != 0)
      · go_wp2_with (go_at_call 88; refine (cmpCompare_any _ _ _).mono ?_; rintro e w' ⟨rfl, rfl⟩)
        go_round
        case rel => exact Or.inr (Or.inr (Or.inl ⟨rfl, k0, hc⟩))
        case measure => simp [intOf]
      · go_wp2_with (go_at_call 88; refine (cmpCompare_any _ _ _).mono ?_; rintro e w' ⟨rfl, rfl⟩)
        go_ret
        exact ⟨ret_int (cmp3_1 k0 hc).symm, rfl⟩
    · cases hc : (cmpW a2 b2 != 0)
      · go_wp2_with (go_at_call 88; refine (cmpCompare_any _ _ _).mono ?_; rintro e w' ⟨rfl, rfl⟩)
        go_round
        case rel => exact Or.inr (Or.inr (Or.inr ⟨rfl, k0, k1, hc⟩))
        case measure => simp [intOf]
      · go_wp2_with (go_at_call 88; refine (cmpCompare_any _ _ _).mono ?_; rintro e w' ⟨rfl, rfl⟩)
        go_ret
        exact ⟨ret_int (cmp3_2 k0 k1).symm, rfl⟩
    · have hz : cmp3 a0 a1 a2 b0 b1 b2 = 0 := by rw [cmp3_2 k0 k1]; simpa [Same] using k2
      have HZ : Hid (cmp3 a0 a1 a2 b0 b1 b2 = 0) := hz
      clear hz
      go_wp2
      go_ret
      exact ⟨ret_int HZ.out.symm, rfl⟩

/-- The three words by which the program orders an address. -/
def Rank (S : Bool) (H L r0 r1 r2 : Int) : Prop := (S = true ∧ r0 = 1 ∧ r1 = IntKind.u64.wrap H ∧ r2 = IntKind.u64.wrap L) ∨ (S = false ∧ r0 = 0 ∧ r1 = 0 ∧ r2 = IntKind.u64.wrap L)

set_option maxHeartbeats 400000 in
theorem rankOf_any (s : Bool) (h l : Int) (S : Bool) (H L r0 r1 r2 : Int) (hz : Nrm s h l S H L) (hr : Rank S H L r0 r1 r2) (w : World) :
    Calls Try.prog 70 #[.agg #[.bool s, .int .i64 h, .int .i64 l]] w fun e w' => e = .returned (.agg #[.int .u64 r0, .int .u64 r1, .int .u64 r2]) ∧ Below w.heap.size w w' := by
  rcases hr with ⟨rfl, rfl, rfl, rfl⟩ | ⟨rfl, rfl, rfl, rfl⟩
  all_goals
    go_enter Try.func70, Try.ntmps70
    go_wp2_with fail
    refine (addrOrZero_any _ _ _ _ _ _ hz _).mono ?_
    rintro e w1 ⟨rfl, hb⟩
    obtain ⟨hc, hf⟩ := olds (n := w.heap.size + 2) (hb.mono (by simp))
    have hz := hb.size
    simp at hz
    go_wp2
  · generalize IntKind.u64.wrap H = r1
    generalize IntKind.u64.wrap L = r2
    refine bodyPost_ret (v := .agg #[.int .u64 1, .int .u64 r1, .int .u64 r2]) (by simp [results, Try.results70, go_sem, hc]) rfl ⟨rfl, ?_⟩
    have b1 : Below w.heap.size w w1 := (((Below.refl _ w).alloc (Nat.le_refl _) _).alloc (by simp) _).trans (hb.mono (by simp; omega))
    exact (((((b1.setCell (by simp) _).setCell (by simp) _).setCell (by simp) _).setCell (by simp) _).setCell (by simp) _).setCell (by simp) _
  · generalize IntKind.u64.wrap L = r2
    refine bodyPost_ret (v := .agg #[.int .u64 0, .int .u64 0, .int .u64 r2]) (by simp [results, Try.results70, go_sem, hc]) rfl ⟨rfl, ?_⟩
    have b1 : Below w.heap.size w w1 := (((Below.refl _ w).alloc (Nat.le_refl _) _).alloc (by simp) _).trans (hb.mono (by simp; omega))
    exact (((((b1.setCell (by simp) _).setCell (by simp) _).setCell (by simp) _).setCell (by simp) _).setCell (by simp) _).setCell (by simp) _

end Go.Proofs.Ytgohffeneibhdaa

namespace Go.Proofs.Ytgohffeneibhdaa
open Go.RowKit

set_option maxHeartbeats 400000 in
theorem cmpInt_any (a b : Int) (w : World) :
    Calls Try.prog 41 #[.int .i64 a, .int .i64 b] w fun e w' => e = .returned (.int .i64 (cmpW a b)) ∧ w' = w := by
  by_cases h1 : a < b
  · have e : cmpW a b = -1 := by simp [cmpW, h1]
    rw [e]
    go_enter Try.func41, Try.ntmps41
    go_wp2
    go_ret
    exact ⟨rfl, rfl⟩
  · by_cases h2 : b < a
    · have e : cmpW a b = 1 := by simp [cmpW, h1, h2]
      rw [e]
      go_enter Try.func41, Try.ntmps41
      go_wp2
      go_ret
      exact ⟨rfl, rfl⟩
    · have e : cmpW a b = 0 := by simp [cmpW, h1, h2]
      rw [e]
      go_enter Try.func41, Try.ntmps41
      go_wp2
      go_ret
      exact ⟨rfl, rfl⟩

/-- the first that is not 0 -/
def orI (c d : Int) : Int := if (c != 0) = true then c else d
theorem orI_1 {c d : Int} (h : (c != 0) = true) : orI c d = c := by simp only [orI, h, if_true]
theorem orI_2 {c d : Int} (h : (c != 0) = false) : orI c d = d := by simp [orI, h]

/-- a number that is 0, said so that no walk looks in -/
def ZeroI (c : Int) : Prop := (c != 0) = false

set_option maxHeartbeats 1000000 in
theorem cmpOr_any (c d : Int) (p : Nat) (w : World) (x0 : w.cell? ⟨p, 0, none⟩ = some (.int .i64 c)) (x1 : w.cell? ⟨p, 1, none⟩ = some (.int .i64 d)) :
    Calls Try.prog 39 #[.slice (some ⟨p, 0, none⟩) 2 2] w fun e w' => e = .returned (.int .i64 (orI c d)) ∧ w' = w := by
  go_enter Try.func39, Try.ntmps39
  go_wp2
  go_loop [8] (fun i => i = .int .i64 0 ∨ (i = .int .i64 1 ∧ ZeroI c) ∨ (i = .int .i64 2 ∧ ZeroI c ∧ ZeroI d)) (fun i => 2 - (intOf i).toNat)
  case atStart => exact Or.inl rfl
  case round =>
    rcases hrel with rfl | ⟨rfl, k0⟩ | ⟨rfl, k0, k1⟩
    · cases hc : (c != 0)
      · go_wp2
        go_round
        case rel => exact Or.inr (Or.inl ⟨rfl, hc⟩)
        case measure => simp [intOf]
      · go_wp2
        go_ret
        exact ⟨ret_int (orI_1 hc).symm, rfl⟩
    · cases hc : (d != 0)
      · go_wp2
        go_round
        case rel => exact Or.inr (Or.inr ⟨rfl, k0, hc⟩)
        case measure => simp [intOf]
      · have HZ : Hid (orI c d = d) := orI_2 k0
        go_wp2
        go_ret
        exact ⟨ret_int HZ.out.symm, rfl⟩
    · have HZ : Hid (orI c d = 0) := (orI_2 k0).trans (by simpa [ZeroI] using k1)
      go_wp2
      go_ret
      exact ⟨ret_int HZ.out.symm, rfl⟩

end Go.Proofs.Ytgohffeneibhdaa

namespace Go.Proofs.Ytgohffeneibhdaa
open Go.RowKit

theorem eight_of_below' {W X : World} {n b c : Nat} {v0 v1 v2 v3 u0 u1 u2 u3 : Value} (hB : Below n W X) (hb : b < n) (hc : c < n)
    (k : W.cell? ⟨b, 0, none⟩ = some v0 ∧ W.cell? ⟨b, 1, none⟩ = some v1 ∧ W.cell? ⟨b, 2, none⟩ = some v2 ∧ W.cell? ⟨b, 3, none⟩ = some v3 ∧ W.cell? ⟨c, 0, none⟩ = some u0 ∧ W.cell? ⟨c, 1, none⟩ = some u1 ∧ W.cell? ⟨c, 2, none⟩ = some u2 ∧ W.cell? ⟨c, 3, none⟩ = some u3) :
    X.cell? ⟨b, 0, none⟩ = some v0 ∧ X.cell? ⟨b, 1, none⟩ = some v1 ∧ X.cell? ⟨b, 2, none⟩ = some v2 ∧ X.cell? ⟨b, 3, none⟩ = some v3 ∧ X.cell? ⟨c, 0, none⟩ = some u0 ∧ X.cell? ⟨c, 1, none⟩ = some u1 ∧ X.cell? ⟨c, 2, none⟩ = some u2 ∧ X.cell? ⟨c, 3, none⟩ = some u3 := by
  obtain ⟨k0, k1, k2, k3, k4, k5, k6, k7⟩ := k
  exact ⟨(hB.cell hb).trans k0, (hB.cell hb).trans k1, (hB.cell hb).trans k2, (hB.cell hb).trans k3, (hB.cell hc).trans k4, (hB.cell hc).trans k5, (hB.cell hc).trans k6, (hB.cell hc).trans k7⟩

set_option maxHeartbeats 1000000 in
theorem sCmpPrefix_any (s : Bool) (h l b : Int) (s' : Bool) (h' l' b' : Int) (c : Int) (hc : ∀ w : World, Calls Try.prog 84 #[.agg #[.bool s, .int .i64 h, .int .i64 l], .agg #[.bool s', .int .i64 h', .int .i64 l']] w fun e w' => e = .returned (.int .i64 c) ∧ Below w.heap.size w w') (w : World) :
    Calls Try.prog 65 #[.agg #[.bool s, .int .i64 h, .int .i64 l, .int .i64 b], .agg #[.bool s', .int .i64 h', .int .i64 l', .int .i64 b']] w fun e w' => e = .returned (.int .i64 (orI c (cmpW b b'))) ∧ Below w.heap.size w w' := by
  have HC : Hid (∀ w : World, _) := hc
  clear hc
  cases hz : (c != 0)
  · rw [orI_2 hz]
    by_cases h1 : b < b'
    · rw [show cmpW b b' = -1 by simp [cmpW, h1]]
      go_enter Try.func65, Try.ntmps65
      go_wp2_with fail
      refine (HC.out _).mono ?_
      rintro e w1 ⟨rfl, hb1⟩
      have hz1 := hb1.size
      try simp at hz1
      have f10 : w.heap.size < w1.heap.size := by omega
      have f11 : w.heap.size + 1 < w1.heap.size := by omega
      refine olds_k (w.heap.size + 2) hb1 ?_ ?_
      · first | omega | (simp; omega) | (simp; done)
      intro hc1 hf1
      go_wp2_with fail
      go_ret
      refine ⟨rfl, ?_⟩
      repeat (first | with_reducible exact Below.refl _ _ | (with_reducible refine Below.drew ?_) | (with_reducible refine Below.alloc ?_ ?_ _; rotate_left; (focus (first | omega | (simp; omega) | (simp; done)))) | (with_reducible refine Below.setCell ?_ ?_ _; rotate_left; (focus (first | omega | (simp; omega) | (simp; done)))) | (with_reducible refine Below.trans ?_ (hb1.mono ?_); rotate_left; (focus (first | omega | (simp; omega) | (simp; done)))))
    · by_cases h2 : b' < b
      · rw [show cmpW b b' = 1 by simp [cmpW, h1, h2]]
        go_enter Try.func65, Try.ntmps65
        go_wp2_with fail
        refine (HC.out _).mono ?_
        rintro e w1 ⟨rfl, hb1⟩
        have hz1 := hb1.size
        try simp at hz1
        have f10 : w.heap.size < w1.heap.size := by omega
        have f11 : w.heap.size + 1 < w1.heap.size := by omega
        refine olds_k (w.heap.size + 2) hb1 ?_ ?_
        · first | omega | (simp; omega) | (simp; done)
        intro hc1 hf1
        go_wp2_with fail
        go_ret
        refine ⟨rfl, ?_⟩
        repeat (first | with_reducible exact Below.refl _ _ | (with_reducible refine Below.drew ?_) | (with_reducible refine Below.alloc ?_ ?_ _; rotate_left; (focus (first | omega | (simp; omega) | (simp; done)))) | (with_reducible refine Below.setCell ?_ ?_ _; rotate_left; (focus (first | omega | (simp; omega) | (simp; done)))) | (with_reducible refine Below.trans ?_ (hb1.mono ?_); rotate_left; (focus (first | omega | (simp; omega) | (simp; done)))))
      · rw [show cmpW b b' = 0 by simp [cmpW, h1, h2]]
        go_enter Try.func65, Try.ntmps65
        go_wp2_with fail
        refine (HC.out _).mono ?_
        rintro e w1 ⟨rfl, hb1⟩
        have hz1 := hb1.size
        try simp at hz1
        have f10 : w.heap.size < w1.heap.size := by omega
        have f11 : w.heap.size + 1 < w1.heap.size := by omega
        refine olds_k (w.heap.size + 2) hb1 ?_ ?_
        · first | omega | (simp; omega) | (simp; done)
        intro hc1 hf1
        go_wp2_with fail
        go_ret
        refine ⟨rfl, ?_⟩
        repeat (first | with_reducible exact Below.refl _ _ | (with_reducible refine Below.drew ?_) | (with_reducible refine Below.alloc ?_ ?_ _; rotate_left; (focus (first | omega | (simp; omega) | (simp; done)))) | (with_reducible refine Below.setCell ?_ ?_ _; rotate_left; (focus (first | omega | (simp; omega) | (simp; done)))) | (with_reducible refine Below.trans ?_ (hb1.mono ?_); rotate_left; (focus (first | omega | (simp; omega) | (simp; done)))))
  · rw [orI_1 hz]
    go_enter Try.func65, Try.ntmps65
    go_wp2_with fail
    refine (HC.out _).mono ?_
    rintro e w1 ⟨rfl, hb1⟩
    have hz1 := hb1.size
    try simp at hz1
    have f10 : w.heap.size < w1.heap.size := by omega
    have f11 : w.heap.size + 1 < w1.heap.size := by omega
    refine olds_k (w.heap.size + 2) hb1 ?_ ?_
    · first | omega | (simp; omega) | (simp; done)
    intro hc1 hf1
    go_wp2_with fail
    go_ret
    refine ⟨rfl, ?_⟩
    repeat (first | with_reducible exact Below.refl _ _ | (with_reducible refine Below.drew ?_) | (with_reducible refine Below.alloc ?_ ?_ _; rotate_left; (focus (first | omega | (simp; omega) | (simp; done)))) | (with_reducible refine Below.setCell ?_ ?_ _; rotate_left; (focus (first | omega | (simp; omega) | (simp; done)))) | (with_reducible refine Below.trans ?_ (hb1.mono ?_); rotate_left; (focus (first | omega | (simp; omega) | (simp; done)))))

set_option maxHeartbeats 1000000 in
theorem iCmpPrefix_any (s : Bool) (h l b : Int) (s' : Bool) (h' l' b' : Int) (c : Int) (hc : ∀ w : World, Calls Try.prog 40 #[.agg #[.bool s, .int .i64 h, .int .i64 l], .agg #[.bool s', .int .i64 h', .int .i64 l']] w fun e w' => e = .returned (.int .i64 c) ∧ Below w.heap.size w w') (w : World) :
    Calls Try.prog 11 #[.agg #[.bool s, .int .i64 h, .int .i64 l, .int .i64 b], .agg #[.bool s', .int .i64 h', .int .i64 l', .int .i64 b']] w fun e w' => e = .returned (.int .i64 (orI c (cmpW b b'))) ∧ Below w.heap.size w w' := by
  have HC : Hid (∀ w : World, _) := hc
  clear hc
  go_enter Try.func11, Try.ntmps11
  go_wp2_with fail
  go_region_held3 (fun x => x.cell? ⟨w.heap.size, 0, none⟩ = some (.bool s) ∧ x.cell? ⟨w.heap.size, 1, none⟩ = some (.int .i64 h) ∧ x.cell? ⟨w.heap.size, 2, none⟩ = some (.int .i64 l) ∧ x.cell? ⟨w.heap.size, 3, none⟩ = some (.int .i64 b) ∧ x.cell? ⟨w.heap.size + 1, 0, none⟩ = some (.bool s') ∧ x.cell? ⟨w.heap.size + 1, 1, none⟩ = some (.int .i64 h') ∧ x.cell? ⟨w.heap.size + 1, 2, none⟩ = some (.int .i64 l') ∧ x.cell? ⟨w.heap.size + 1, 3, none⟩ = some (.int .i64 b')) ((refine eight_of_below' (W := (w.alloc (.cells #[.bool s, .int .i64 h, .int .i64 l, .int .i64 b] 31)).alloc (.cells #[.bool s', .int .i64 h', .int .i64 l', .int .i64 b'] 31)) (n := w.heap.size + 2) ?_ (by omega) (by omega) ⟨by simp [go_sem], by simp [go_sem], by simp [go_sem], by simp [go_sem], by simp [go_sem], by simp [go_sem], by simp [go_sem], by simp [go_sem]⟩; repeat (first | with_reducible exact Below.refl _ _ | (with_reducible refine Below.drew ?_) | (with_reducible refine Below.alloc ?_ ?_ _; rotate_left; (focus (first | omega | (simp; omega) | (simp; done)))) | (with_reducible refine Below.setCell ?_ ?_ _; rotate_left; (focus (first | omega | (simp; omega) | (simp; done)))) | (with_reducible refine Below.trans ?_ (hb1.mono ?_); rotate_left; (focus (first | omega | (simp; omega) | (simp; done))))))) (first | (go_at_call 40; refine (HC.out _).mono ?_; rintro e w1 ⟨rfl, hb1⟩; have hz1 := hb1.size; (try simp at hz1); (first | (refine ltk (w.heap.size) (w1.heap.size) ?_ ?_; (focus omega); intro f10) | skip); (first | (refine ltk (w.heap.size + 1) (w1.heap.size) ?_ ?_; (focus omega); intro f11) | skip); (refine olds_k (w.heap.size + 2) hb1 ?_ ?_; (focus (first | omega | (simp; omega) | (simp; done))); intro hc1 hf1)) | (go_at_call 41; refine (cmpInt_any b b' _).mono ?_; rintro e w2 ⟨rfl, rfl⟩) | (go_at_call 39; refine (cmpOr_any c (cmpW b b') _ _ ?_ ?_).mono ?_; (focus (simp [go_sem])); (focus (simp [go_sem])); rintro e w3 ⟨rfl, rfl⟩))
  all_goals
    go_wp2_with fail
    go_ret
    refine ⟨rfl, ?_⟩
    repeat (first | with_reducible exact Below.refl _ _ | (with_reducible refine Below.drew ?_) | (with_reducible refine Below.alloc ?_ ?_ _; rotate_left; (focus (first | omega | (simp; omega) | (simp; done)))) | (with_reducible refine Below.setCell ?_ ?_ _; rotate_left; (focus (first | omega | (simp; omega) | (simp; done)))) | (with_reducible refine Below.trans ?_ (hb1.mono ?_); rotate_left; (focus (first | omega | (simp; omega) | (simp; done)))))

end Go.Proofs.Ytgohffeneibhdaa
