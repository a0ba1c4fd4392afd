/-
  The specification's AddTo and NthOf, told by numbers: the n-th address of a span.
-/
import Derived.Test.YtamocbkamjnonaaQMath
import Derived.Test.YtamocbkamjnonaaBSNth
import Derived.Test.YtamocbkamjnonaaBAddX
namespace Go.Proofs.Ytamocbkamjnonaa
open Go.RowKit

theorem adrN_eq (H L : BitVec 64) : adrN H L = H.toNat * 18446744073709551616 + L.toNat := by
  unfold adrN
  rw [BitVec.toNat_append, ← Nat.shiftLeft_add_eq_or_of_lt L.isLt, Nat.shiftLeft_eq]
theorem bvI {x : Int} (h : -9223372036854775808 ≤ x ∧ x ≤ 9223372036854775807) : (BitVec.ofInt 64 x).toInt = x := by
  rw [BitVec.toInt_ofInt, Int.bmod_def]
  omega
theorem toInt_N (L : BitVec 64) : L.toInt % 18446744073709551616 = (L.toNat : Int) := by
  have h := L.isLt
  rw [BitVec.toInt_eq_toNat_cond]
  split <;> omega
theorem lo_num (L : BitVec 64) (n : Nat) (_hn : n ≤ 300) : wrap64 (IntKind.u64.wrap (IntKind.u64.wrap L.toInt + IntKind.u64.wrap (n : Int))) = (L + BitVec.ofNat 64 n).toInt := by
  have e := toInt_N (L + BitVec.ofNat 64 n)
  have e2 := toInt_N L
  have h := (L + BitVec.ofNat 64 n).isLt
  rw [BitVec.toNat_add, BitVec.toNat_ofNat] at e h
  rw [IntKind.wrap_u64, IntKind.wrap_u64, IntKind.wrap_u64, e2]
  have e3 := BitVec.toInt_eq_toNat_cond (L + BitVec.ofNat 64 n)
  rw [BitVec.toNat_add, BitVec.toNat_ofNat] at e3
  have hL := L.isLt
  unfold wrap64
  split at e3 <;> omega
theorem hi_num (H : BitVec 64) : wrap64 (IntKind.u64.wrap (IntKind.u64.wrap H.toInt + 1)) = (H + 1).toInt := by
  have h := lo_num H 1 (by omega)
  rw [IntKind.wrap_u64 ((1 : Nat) : Int)] at h
  exact h

/-- AddTo by numbers. -/
theorem sAdd_num (s : Bool) (H L : BitVec 64) (hok : okB s H.toInt L.toInt = true) (n : Nat) (hn : n ≤ 300) :
    (∃ X Y : BitVec 64, adrN X Y = adrN H L + n ∧ okB s X.toInt Y.toInt = true ∧ ∀ w : World, Calls Try.prog 72 #[.agg #[.bool s, .int .i64 H.toInt, .int .i64 L.toInt], .int .i64 n] w fun e w' => e = .returned (.tuple #[.agg #[.bool s, .int .i64 X.toInt, .int .i64 Y.toInt], .bool true]) ∧ Below w.heap.size w w') ∨
    (2 ^ wd s ≤ adrN H L + n ∧ ∀ w : World, Calls Try.prog 72 #[.agg #[.bool s, .int .i64 H.toInt, .int .i64 L.toInt], .int .i64 n] w fun e w' => e = .returned (.tuple #[.agg #[.bool false, .int .i64 (0 : BitVec 64).toInt, .int .i64 (0 : BitVec 64).toInt], .bool false]) ∧ Below w.heap.size w w') := by
  have hz : Nrm s H.toInt L.toInt s H.toInt L.toInt := Or.inl ⟨hok, rfl, rfl, rfl⟩
  have hHl := H.isLt
  have hLl := L.isLt
  have ea := adrN_eq H L
  cases s
  · obtain ⟨h0, hL⟩ := okB_four H L hok
    subst h0
    have eL : L.toInt = (L.toNat : Int) := by
      have := BitVec.toInt_eq_toNat_cond L
      split at this <;> omega
    have e0 : (0 : BitVec 64).toNat = 0 := rfl
    by_cases hle : n ≤ 4294967295 - L.toNat
    · refine Or.inl ⟨0, L + BitVec.ofNat 64 n, ?_, ?_, fun w => ?_⟩
      · rw [adrN_eq, ea, BitVec.toNat_add, BitVec.toNat_ofNat, e0]; omega
      · exact okB_low _ (by rw [BitVec.toNat_add, BitVec.toNat_ofNat]; omega)
      · have h := sAddTo_four false (0 : BitVec 64).toInt L.toInt n (0 : BitVec 64).toInt L.toInt hz (by omega) (by omega) (by omega) (by omega) (by omega) w
        have e : L.toInt + (n : Int) = (L + BitVec.ofNat 64 n).toInt := by
          have h1 := BitVec.toInt_eq_toNat_cond (L + BitVec.ofNat 64 n)
          rw [BitVec.toNat_add, BitVec.toNat_ofNat] at h1
          split at h1 <;> omega
        rw [e] at h
        exact h
    · refine Or.inr ⟨by show (2 ^ 32 : Nat) ≤ _; rw [ea, e0]; omega, fun w => ?_⟩
      exact sAddTo_fourno false (0 : BitVec 64).toInt L.toInt n (0 : BitVec 64).toInt L.toInt hz (by omega) (by omega) (by omega) (by omega) (by omega) w
  · have eu : IntKind.u64.wrap L.toInt = (L.toNat : Int) := by rw [IntKind.wrap_u64]; exact toInt_N L
    have en : IntKind.u64.wrap (n : Int) = (n : Int) := by rw [IntKind.wrap_u64]; omega
    by_cases hc : L.toNat + n < 18446744073709551616
    · refine Or.inl ⟨H, L + BitVec.ofNat 64 n, ?_, okB_t _ _, fun w => ?_⟩
      · rw [adrN_eq, ea, BitVec.toNat_add, BitVec.toNat_ofNat]; omega
      · have h := sAddTo_six true H.toInt L.toInt n H.toInt L.toInt hz (by omega) (hidP (less_0 L.toInt n (by rw [eu, en]; omega))) w
        rw [lo_num L n hn] at h
        exact h
    · by_cases hH : H.toNat + 1 < 18446744073709551616
      · refine Or.inl ⟨H + 1, L + BitVec.ofNat 64 n, ?_, okB_t _ _, fun w => ?_⟩
        · rw [adrN_eq, ea, BitVec.toNat_add, BitVec.toNat_add, BitVec.toNat_ofNat]
          have : (1 : BitVec 64).toNat = 1 := rfl
          omega
        · have hg : ((wrap64 (IntKind.u64.wrap (IntKind.u64.wrap H.toInt + 1))) == 0) = false := by
            rw [hi_num, beq_eq_false_iff_ne]
            intro h
            have h1 := toInt_N (H + 1)
            rw [h, BitVec.toNat_add] at h1
            have : (1 : BitVec 64).toNat = 1 := rfl
            omega
          have h := sAddTo_sixc true H.toInt L.toInt n H.toInt L.toInt hz (by omega) (hidP (less_1 L.toInt n (by rw [eu, en]; omega))) hg w
          rw [lo_num L n hn, hi_num] at h
          exact h
      · refine Or.inr ⟨by show (2 ^ 128 : Nat) ≤ _; rw [ea]; omega, fun w => ?_⟩
        have hg : ((wrap64 (IntKind.u64.wrap (IntKind.u64.wrap H.toInt + 1))) == 0) = true := by
          rw [hi_num, beq_iff_eq]
          have h1 : H + 1 = 0 := by
            apply BitVec.eq_of_toNat_eq
            rw [BitVec.toNat_add]
            have : (1 : BitVec 64).toNat = 1 := rfl
            have : (0 : BitVec 64).toNat = 0 := rfl
            omega
          rw [h1]; rfl
        exact sAddTo_sixno true H.toInt L.toInt n H.toInt L.toInt hz (by omega) (hidP (less_1 L.toInt n (by rw [eu, en]; omega))) hg w

theorem adr_wd {x : Sp} (hx : x.ok) : x.adr < 2 ^ wd x.s := by
  have ho := hx.1
  have e := adrN_eq x.H x.L
  cases hs : x.s
  · rw [hs] at ho
    obtain ⟨h0, hL⟩ := okB_four x.H x.L ho
    show adrN x.H x.L < 2 ^ 32
    rw [e, h0]
    have : (0 : BitVec 64).toNat = 0 := rfl
    omega
  · exact adr_lt x.H x.L
theorem adr_end {x : Sp} (hx : x.ok) : x.adr + 2 ^ x.n ≤ 2 ^ wd x.s := by
  have h1 := adr_wd hx
  have hm := ok_mult hx
  have hp : 0 < 2 ^ x.n := Nat.pow_pos (by omega)
  have e : (2 : Nat) ^ wd x.s = 2 ^ (wd x.s - x.n) * 2 ^ x.n := by rw [← Nat.pow_add]; congr 1; have := hx.2.1; omega
  rw [e] at h1 ⊢
  rw [hm] at h1 ⊢
  have h2 := Nat.lt_of_mul_lt_mul_right h1
  have h3 := Nat.mul_le_mul_right (2 ^ x.n) h2
  rw [Nat.succ_mul] at h3
  exact h3

/-- Whether an address that is right is the span's. -/
theorem had_num {x : Sp} (hx : x.ok) (S : Bool) (X Y : BitVec 64) (hok : okB S X.toInt Y.toInt = true) : hadB x.s x.H x.L ((wd x.s : Int) - x.n) S X Y = decide (S = x.s ∧ x.adr ≤ adrN X Y ∧ adrN X Y < x.adr + 2 ^ x.n) := by
  have h := one_in (t := ⟨S, X, Y, 0⟩) (x := x) rfl hx
  unfold hadB
  rw [hx.pok, hok, Bool.true_and, Bool.true_and]
  have e : ((wd x.s : Int) - ((wd x.s : Int) - x.n)).toNat = x.n := by omega
  rw [e]
  have e2 : wB ⟨S, X, Y, 0⟩ x = hasB x.s x.H x.L x.n S X Y := by
    unfold wB withB
    rw [decide_eq_true (Nat.zero_le _), Bool.true_and]
  rw [← e2]
  cases hb : wB ⟨S, X, Y, 0⟩ x
  · refine (decide_eq_false fun hc => ?_).symm
    rw [h.2 hc] at hb; cases hb
  · exact (decide_eq_true (h.1 hb)).symm

theorem nth_yes {x : Sp} (hx : x.ok) (n : Nat) (hn : n < 2 ^ x.n) (h3 : n ≤ 300) : ∃ X Y : BitVec 64, adrN X Y = x.adr + n ∧ okB x.s X.toInt Y.toInt = true ∧
    ∀ w : World, Calls Try.prog 48 #[.agg #[.bool x.s, .int .i64 x.H.toInt, .int .i64 x.L.toInt, .int .i64 ((wd x.s : Int) - x.n)], .int .i64 n] w fun e w' => e = .returned (.tuple #[.agg #[.bool x.s, .int .i64 X.toInt, .int .i64 Y.toInt], .bool true]) ∧ Below w.heap.size w w' := by
  have he := adr_end hx
  rcases sAdd_num x.s x.H x.L hx.1 n h3 with ⟨X, Y, ha, hok, hc⟩ | ⟨hp, _⟩
  · refine ⟨X, Y, ha, hok, fun w => sNthOf_yes x.s x.H x.L ((wd x.s : Int) - x.n) n x.s X Y hx.pok hc ?_ w⟩
    rw [had_num hx x.s X Y hok]
    have : adrN x.H x.L = x.adr := rfl
    exact decide_eq_true ⟨rfl, by omega, by omega⟩
  · exfalso
    have : adrN x.H x.L = x.adr := rfl
    omega
theorem nth_no {x : Sp} (hx : x.ok) (n : Nat) (hn : 2 ^ x.n ≤ n) (h3 : n ≤ 300) :
    ∀ w : World, Calls Try.prog 48 #[.agg #[.bool x.s, .int .i64 x.H.toInt, .int .i64 x.L.toInt, .int .i64 ((wd x.s : Int) - x.n)], .int .i64 n] w fun e w' => e = .returned (.tuple #[.agg #[.bool false, .int .i64 0, .int .i64 0], .bool false]) ∧ Below w.heap.size w w' := by
  rcases sAdd_num x.s x.H x.L hx.1 n h3 with ⟨X, Y, ha, hok, hc⟩ | ⟨_, hc⟩
  · refine fun w => sNthOf_off x.s x.H x.L ((wd x.s : Int) - x.n) n x.s X Y hx.pok hc ?_ w
    rw [had_num hx x.s X Y hok]
    have : adrN x.H x.L = x.adr := rfl
    exact decide_eq_false (by omega)
  · exact fun w => sNthOf_past x.s x.H x.L ((wd x.s : Int) - x.n) n false 0 0 hx.pok hc w

end Go.Proofs.Ytamocbkamjnonaa
