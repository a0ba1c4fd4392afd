/-
  A number's bytes are read back: plain mathematics; with a needless byte they are none, without the last one torn.
-/
import Derived.Test.YtdcbmeiopfdkeaaCRdN
import Derived.Test.YtdcbmeiopfdkeaaCNum
namespace Go.Proofs.Ytdcbmeiopfdkeaa
open Go.RowKit

theorem or64 (x y : Nat) (hx : x < 18446744073709551616) (hy : y < 18446744073709551616) : bits .or .u64 (x : Int) (y : Int) = ((x ||| y : Nat) : Int) := by
  show IntKind.u64.wrap ((BitVec.ofInt 64 (x : Int) ||| BitVec.ofInt 64 (y : Int)).toNat : Int) = _
  have e1 : (BitVec.ofInt 64 (x : Int)).toNat = x := by rw [BitVec.ofInt_natCast, BitVec.toNat_ofNat]; omega
  have e2 : (BitVec.ofInt 64 (y : Int)).toNat = y := by rw [BitVec.ofInt_natCast, BitVec.toNat_ofNat]; omega
  rw [BitVec.toNat_or, e1, e2, IntKind.wrap_u64]
  have : x ||| y < 2 ^ 64 := Nat.or_lt_two_pow hx hy
  omega

theorem acc_add (x d k : Nat) (c : Int) (hc : c % 128 = (d : Int)) (hx : x < 2 ^ (7 * k)) (hd : x + d * 2 ^ (7 * k) < 18446744073709551616) : acc (x : Int) c k = ((x + d * 2 ^ (7 * k) : Nat) : Int) := by
  unfold acc
  rw [hc]
  have e : (d : Int) * 2 ^ (7 * k) = ((d * 2 ^ (7 * k) : Nat) : Int) := by rw [Int.natCast_mul, Int.natCast_pow]; rfl
  rw [e, IntKind.wrap_u64]
  have e2 : ((d * 2 ^ (7 * k) : Nat) : Int) % 18446744073709551616 = ((d * 2 ^ (7 * k) : Nat) : Int) := by omega
  rw [e2, or64 _ _ (by omega) (by omega)]
  congr 1
  have h := Nat.shiftLeft_add_eq_or_of_lt hx d
  rw [Nat.shiftLeft_eq] at h
  rw [Nat.or_comm, ← h]; omega

/-- A number's bytes, wherever they stand, are read back. -/
theorem rd_num (zs : List Int) (at' : Nat) : ∀ (f k x y : Nat) (pre rest : List Int), zs = pre ++ (numB y ++ rest) → pre.length = at' + k → f + k = 10 → 0 < f → x < 2 ^ (7 * k) → x + y * 2 ^ (7 * k) < 18446744073709551616 → (0 < k → 0 < y) →
    rdF zs at' f k x = .good ((x + y * 2 ^ (7 * k) : Nat) : Int) (k + (numB y).length)
  | 0, _, _, _, _, _, _, _, _, h, _, _, _ => absurd h (by omega)
  | f + 1, k, x, y, pre, rest, hz, hp, hf, _, hx, hy, hpos => by
    by_cases h : y < 128
    · have hg : zs[at' + k]? = some (y : Int) := by rw [hz, List.getElem?_append_right (by omega), numB_lo h, hp]; simp
      have hm : ((y : Int) % 128) = (y : Int) := by omega
      rw [rdF_good hg (by omega) ?_, acc_add x y k _ hm hx hy, numB_lo h]
      · rfl
      · rintro (⟨h1, h2⟩ | ⟨h1, h2⟩)
        · have := hpos h2; omega
        · subst h1
          have : 2 * 2 ^ (7 * 9) ≤ y * 2 ^ (7 * 9) := Nat.mul_le_mul_right _ (by omega)
          omega
    · have hg : zs[at' + k]? = some ((y % 128 + 128 : Nat) : Int) := by rw [hz, List.getElem?_append_right (by omega), numB_hi h, hp]; simp
      have hm : (((y % 128 + 128 : Nat) : Int) % 128) = ((y % 128 : Nat) : Int) := by omega
      have hpw : 2 ^ (7 * (k + 1)) = 128 * 2 ^ (7 * k) := by rw [show 7 * (k + 1) = 7 * k + 7 by omega, Nat.pow_add]; omega
      have hsp : y * 2 ^ (7 * k) = (y % 128) * 2 ^ (7 * k) + (y / 128) * 2 ^ (7 * (k + 1)) := by
        rw [hpw, ← Nat.mul_assoc, ← Nat.add_mul]; congr 1; omega
      have hle : (y % 128) * 2 ^ (7 * k) ≤ 127 * 2 ^ (7 * k) := Nat.mul_le_mul_right _ (by omega)
      rw [rdF_more hg (by omega), acc_add x (y % 128) k _ hm hx (by omega)]
      have hk9 : 0 < f := by
        rcases Nat.eq_zero_or_pos f with h0 | h0
        · have : k = 9 := by omega
          subst this
          have : 128 * 2 ^ (7 * 9) ≤ y * 2 ^ (7 * 9) := Nat.mul_le_mul_right _ (by omega)
          omega
        · exact h0
      have ih := rd_num zs at' f (k + 1) (x + (y % 128) * 2 ^ (7 * k)) (y / 128) (pre ++ [((y % 128 + 128 : Nat) : Int)]) rest (by rw [hz, numB_hi h]; simp) (by simp; omega) (by omega) hk9 (by rw [hpw]; omega) (by omega) (by omega)
      rw [ih, numB_hi h, List.length_cons]
      congr 1
      · congr 1; omega
      · omega

/-- Bytes of which each says that more follow are gone over. -/
theorem rd_high (zs : List Int) (at' : Nat) : ∀ (hs : List Int) (f k : Nat) (x : Int) (pre rest : List Int), zs = pre ++ (hs ++ rest) → pre.length = at' + k → (∀ z ∈ hs, 128 ≤ z) → hs.length ≤ f → ∃ x', rdF zs at' f k x = rdF zs at' (f - hs.length) (k + hs.length) x'
  | [], f, k, x, _, _, _, _, _, _ => ⟨x, rfl⟩
  | c :: hs, f, k, x, pre, rest, hz, hp, hh, hf => by
    obtain ⟨f, rfl⟩ : ∃ g, f = g + 1 := ⟨f - 1, by simp at hf; omega⟩
    have hg : zs[at' + k]? = some c := by rw [hz, List.getElem?_append_right (by omega), hp]; simp
    rw [rdF_more hg (hh c (by simp))]
    obtain ⟨x', ih⟩ := rd_high zs at' hs f (k + 1) (acc x c k) (pre ++ [c]) rest (by rw [hz]; simp) (by simp; omega) (fun z hz => hh z (by simp [hz])) (by simp at hf; omega)
    refine ⟨x', ih.trans ?_⟩
    rw [List.length_cons]
    congr 1 <;> omega

/-- A number's bytes: those that say that more follow, and the last one. -/
theorem numB_split (y : Nat) : ∃ (hs : List Int) (l : Int), numB y = hs ++ [l] ∧ (∀ z ∈ hs, 128 ≤ z) ∧ 0 ≤ l ∧ l < 128 := by
  by_cases h : y < 128
  · exact ⟨[], y, by rw [numB_lo h]; rfl, by simp, by omega, by omega⟩
  · obtain ⟨hs, l, e, hh, h0, h1⟩ := numB_split (y / 128)
    refine ⟨((y % 128 + 128 : Nat) : Int) :: hs, l, by rw [numB_hi h, e]; rfl, fun z hz => ?_, h0, h1⟩
    rcases List.mem_cons.1 hz with rfl | hz
    · omega
    · exact hh z hz
termination_by y
decreasing_by omega

theorem wrap64_u64 (n : Int) (h : -9223372036854775808 ≤ n ∧ n ≤ 9223372036854775807) : wrap64 ((u64 n : Nat) : Int) = n := by
  rw [← u64_eq, IntKind.wrap_u64]
  unfold wrap64
  omega

/-- Back at its place, whatever stands ahead and behind. -/
theorem gn_back (n : Int) (hn : -9223372036854775808 ≤ n ∧ n ≤ 9223372036854775807) (pre rest : List Int) : gnV (pre ++ (numB (u64 n) ++ rest)) (pre.length : Int) = .tuple #[.int .i64 n, .int .i64 ((pre.length : Int) + (numB (u64 n)).length), .bool true] := by
  have h := rd_num (pre ++ (numB (u64 n) ++ rest)) pre.length 10 0 0 (u64 n) pre rest rfl rfl rfl (by omega) (by simp) (by have := u64_lt n; omega) (by omega)
  have h2 : rdN (pre ++ (numB (u64 n) ++ rest)) pre.length = .good ((u64 n : Nat) : Int) (numB (u64 n)).length := by
    unfold rdN
    refine Eq.trans h ?_
    congr 1
    · simp
    · omega
  rw [gnV_good h2, wrap64_u64 n hn]

theorem gn_none {zs : List Int} (h : rdN zs 0 = .torn ∨ rdN zs 0 = .bad) : gnV zs 0 = .tuple #[.int .i64 0, .int .i64 0, .bool false] := by
  rcases h with h | h
  · exact gnV_torn (at' := 0) h
  · exact gnV_bad (at' := 0) h

/-- With a needless byte. -/
theorem gn_long (y : Nat) (hy : y < 18446744073709551616) (hs : List Int) (l : Int) (e : numB y = hs ++ [l]) (hh : ∀ z ∈ hs, 128 ≤ z) (h0 : 0 ≤ l) : gnV (hs ++ [l + 128, 0]) 0 = .tuple #[.int .i64 0, .int .i64 0, .bool false] := by
  refine gn_none (Or.inr ?_)
  have hlen := numB_ten y hy
  rw [e, List.length_append, List.length_singleton] at hlen
  obtain ⟨x', h⟩ := rd_high (hs ++ [l + 128, 0]) 0 (hs ++ [l + 128]) 10 0 0 [] [0] (by simp) rfl (fun z hz => by
    rcases List.mem_append.1 hz with hz | hz
    · exact hh z hz
    · rw [List.mem_singleton] at hz; omega) (by simp; omega)
  unfold rdN
  rw [h]
  simp only [List.length_append, List.length_singleton, Nat.zero_add]
  by_cases h10 : hs.length = 9
  · rw [h10]; rfl
  · rw [show 10 - (hs.length + 1) = (8 - hs.length) + 1 by omega]
    refine rdF_bad (c := 0) ?_ (by omega) (Or.inl ⟨rfl, by omega⟩)
    rw [Nat.zero_add, List.getElem?_append_right (by omega), show hs.length + 1 - hs.length = 1 by omega]; rfl

/-- Without the last one. -/
theorem gn_short (y : Nat) (hy : y < 18446744073709551616) (hs : List Int) (l : Int) (e : numB y = hs ++ [l]) (hh : ∀ z ∈ hs, 128 ≤ z) : gnV hs 0 = .tuple #[.int .i64 0, .int .i64 0, .bool false] := by
  refine gn_none (Or.inl ?_)
  have hlen := numB_ten y hy
  rw [e, List.length_append, List.length_singleton] at hlen
  obtain ⟨x', h⟩ := rd_high hs 0 hs 10 0 0 [] [] (by simp) rfl hh (by omega)
  unfold rdN
  rw [h, Nat.zero_add, show 10 - hs.length = (9 - hs.length) + 1 by omega]
  refine rdF_none ?_
  rw [List.getElem?_eq_none]; omega

end Go.Proofs.Ytdcbmeiopfdkeaa
