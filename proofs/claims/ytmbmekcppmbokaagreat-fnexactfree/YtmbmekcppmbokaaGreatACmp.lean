/-
  The two CmpAddr (the program's and the specification's) return the same order of two addresses; nothing old in memory turns.
-/
import Derived.Test.YtmbmekcppmbokaaGreatANrm
namespace Go.Proofs.YtmbmekcppmbokaaGreat
open Go.RowKit

/-- The library's comparing of two rows of three words. -/
def cmp3 (a0 a1 a2 b0 b1 b2 : Int) : Int := if cmpW a0 b0 ≠ 0 then cmpW a0 b0 else if cmpW a1 b1 ≠ 0 then cmpW a1 b1 else cmpW a2 b2

theorem ret_int {k : IntKind} {a b : Int} (h : a = b) : Ending.returned (.int k a) = .returned (.int k b) := by rw [h]
theorem ret_bool {a b : Bool} (h : a = b) : Ending.returned (.bool a) = .returned (.bool b) := by rw [h]

/-- Two words that the library finds the same. -/
def Same (a b : Int) : Prop := (cmpW a b != 0) = false

theorem cmp3_0 {a0 a1 a2 b0 b1 b2 : Int} (h : (cmpW a0 b0 != 0) = true) : cmp3 a0 a1 a2 b0 b1 b2 = cmpW a0 b0 := by
  simp at h; simp [cmp3, h]
theorem cmp3_1 {a0 a1 a2 b0 b1 b2 : Int} (h0 : Same a0 b0) (h : (cmpW a1 b1 != 0) = true) : cmp3 a0 a1 a2 b0 b1 b2 = cmpW a1 b1 := by
  simp [Same] at h h0; simp [cmp3, h, h0]
theorem cmp3_2 {a0 a1 a2 b0 b1 b2 : Int} (h0 : Same a0 b0) (h1 : Same a1 b1) : cmp3 a0 a1 a2 b0 b1 b2 = cmpW a2 b2 := by
  simp [Same] at h1 h0; simp [cmp3, h1, h0]

set_option maxHeartbeats 1000000 in
theorem slCompare_any (a0 a1 a2 b0 b1 b2 : Int) (p q : Nat) (w : World)
    (x0 : w.cell? ⟨p, 0, none⟩ = some (.int .u64 a0)) (x1 : w.cell? ⟨p, 1, none⟩ = some (.int .u64 a1)) (x2 : w.cell? ⟨p, 2, none⟩ = some (.int .u64 a2))
    (y0 : w.cell? ⟨q, 0, none⟩ = some (.int .u64 b0)) (y1 : w.cell? ⟨q, 1, none⟩ = some (.int .u64 b1)) (y2 : w.cell? ⟨q, 2, none⟩ = some (.int .u64 b2)) :
    Calls Tryz.prog 123 #[.slice (some ⟨p, 0, none⟩) 3 3, .slice (some ⟨q, 0, none⟩) 3 3] w fun e w' => e = .returned (.int .i64 (cmp3 a0 a1 a2 b0 b1 b2)) ∧ w' = w := by
  go_enter Tryz.func123, Tryz.ntmps123
  go_wp2
  go_loop [11] (fun i => i = .int .i64 0 ∨ (i = .int .i64 1 ∧ Same a0 b0) ∨ (i = .int .i64 2 ∧ Same a0 b0 ∧ Same a1 b1) ∨ (i = .int .i64 3 ∧ Same a0 b0 ∧ Same a1 b1 ∧ Same a2 b2)) (fun i => 3 - (intOf i).toNat)
  case atStart => exact Or.inl rfl
  case round =>
    rcases hrel with rfl | ⟨rfl, k0⟩ | ⟨rfl, k0, k1⟩ | ⟨rfl, k0, k1, k2⟩
    · cases hc : (cmpW a0 b0 != 0)
      · go_wp2_with (go_at_call 132; refine (cmpCompare_any _ _ _).mono ?_; rintro e w' ⟨rfl, rfl⟩)
        go_round
        case rel => exact Or.inr (Or.inl ⟨rfl, hc⟩)
        case measure => simp [intOf]
      · go_wp2_with (go_at_call 132; refine (cmpCompare_any _ _ _).mono ?_; rintro e w' ⟨rfl, rfl⟩)
        go_ret
        exact ⟨ret_int (cmp3_0 hc).symm, rfl⟩
    · cases hc : (cmpW a1 b1 != 0)
      · go_wp2_with (go_at_call 132; refine (cmpCompare_any _ _ _).mono ?_; rintro e w' ⟨rfl, rfl⟩)
        go_round
        case rel => exact Or.inr (Or.inr (Or.inl ⟨rfl, k0, hc⟩))
        case measure => simp [intOf]
      · go_wp2_with (go_at_call 132; refine (cmpCompare_any _ _ _).mono ?_; rintro e w' ⟨rfl, rfl⟩)
        go_ret
        exact ⟨ret_int (cmp3_1 k0 hc).symm, rfl⟩
    · cases hc : (cmpW a2 b2 != 0)
      · go_wp2_with (go_at_call 132; refine (cmpCompare_any _ _ _).mono ?_; rintro e w' ⟨rfl, rfl⟩)
        go_round
        case rel => exact Or.inr (Or.inr (Or.inr ⟨rfl, k0, k1, hc⟩))
        case measure => simp [intOf]
      · go_wp2_with (go_at_call 132; refine (cmpCompare_any _ _ _).mono ?_; rintro e w' ⟨rfl, rfl⟩)
        go_ret
        exact ⟨ret_int (cmp3_2 k0 k1).symm, rfl⟩
    · have hz : cmp3 a0 a1 a2 b0 b1 b2 = 0 := by rw [cmp3_2 k0 k1]; simpa [Same] using k2
      have HZ : Hid (cmp3 a0 a1 a2 b0 b1 b2 = 0) := hz
      clear hz
      go_wp2
      go_ret
      exact ⟨ret_int HZ.out.symm, rfl⟩

/-- The three words by which the program orders an address. -/
def Rank (S : Bool) (H L r0 r1 r2 : Int) : Prop := (S = true ∧ r0 = 1 ∧ r1 = IntKind.u64.wrap H ∧ r2 = IntKind.u64.wrap L) ∨ (S = false ∧ r0 = 0 ∧ r1 = 0 ∧ r2 = IntKind.u64.wrap L)

set_option maxHeartbeats 400000 in
theorem rankOf_any (s : Bool) (h l : Int) (S : Bool) (H L r0 r1 r2 : Int) (hz : Nrm s h l S H L) (hr : Rank S H L r0 r1 r2) (w : World) :
    Calls Tryz.prog 122 #[.agg #[.bool s, .int .i64 h, .int .i64 l]] w fun e w' => e = .returned (.agg #[.int .u64 r0, .int .u64 r1, .int .u64 r2]) ∧ Below w.heap.size w w' := by
  rcases hr with ⟨rfl, rfl, rfl, rfl⟩ | ⟨rfl, rfl, rfl, rfl⟩
  all_goals
    go_enter Tryz.func122, Tryz.ntmps122
    go_wp2_with fail
    refine (addrOrZero_any _ _ _ _ _ _ hz _).mono ?_
    rintro e w1 ⟨rfl, hb⟩
    obtain ⟨hc, hf⟩ := olds (n := w.heap.size + 2) (hb.mono (by simp))
    have hz := hb.size
    simp at hz
    go_wp2
  · generalize IntKind.u64.wrap H = r1
    generalize IntKind.u64.wrap L = r2
    refine bodyPost_ret (v := .agg #[.int .u64 1, .int .u64 r1, .int .u64 r2]) (by simp [results, Tryz.results122, go_sem, hc]) rfl ⟨rfl, ?_⟩
    have b1 : Below w.heap.size w w1 := (((Below.refl _ w).alloc (Nat.le_refl _) _).alloc (by simp) _).trans (hb.mono (by simp; omega))
    exact (((((b1.setCell (by simp) _).setCell (by simp) _).setCell (by simp) _).setCell (by simp) _).setCell (by simp) _).setCell (by simp) _
  · generalize IntKind.u64.wrap L = r2
    refine bodyPost_ret (v := .agg #[.int .u64 0, .int .u64 0, .int .u64 r2]) (by simp [results, Tryz.results122, go_sem, hc]) rfl ⟨rfl, ?_⟩
    have b1 : Below w.heap.size w w1 := (((Below.refl _ w).alloc (Nat.le_refl _) _).alloc (by simp) _).trans (hb.mono (by simp; omega))
    exact (((((b1.setCell (by simp) _).setCell (by simp) _).setCell (by simp) _).setCell (by simp) _).setCell (by simp) _).setCell (by simp) _

end Go.Proofs.YtmbmekcppmbokaaGreat
