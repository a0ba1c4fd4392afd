/-
  The bytes of a number, and both writings of it (the specification's PutNum, the program's putNums of one number), by that; the row that is handed back is new, nothing old turns.
-/
import Derived.Test.YtfhlplpiojhhmaaCByt
namespace Go.Proofs.Ytfhlplpiojhhmaa
open Go.RowKit

/-- The bytes of a number without a sign: seven bits each, the lowest first, 128 more where more follow. -/
def numB (x : Nat) : List Int := if x < 128 then [(x : Int)] else ((x % 128 + 128 : Nat) : Int) :: numB (x / 128)
termination_by x
decreasing_by omega

theorem numB_lo {x : Nat} (h : x < 128) : numB x = [(x : Int)] := by rw [numB, if_pos h]
theorem numB_hi {x : Nat} (h : ¬ x < 128) : numB x = ((x % 128 + 128 : Nat) : Int) :: numB (x / 128) := by rw [numB, if_neg h]
theorem numB_len : ∀ (k x : Nat), x < 128 ^ (k + 1) → (numB x).length ≤ k + 1
  | 0, x, h => by rw [numB_lo (by simpa using h)]; simp
  | k + 1, x, h => by
      by_cases hx : x < 128
      · rw [numB_lo hx]; simp
      · rw [numB_hi hx]
        have := numB_len k (x / 128) (by rw [Nat.div_lt_iff_lt_mul (by omega)]; rw [Nat.pow_succ] at h; exact h)
        simp only [List.length_cons]; omega
theorem numB_ten (x : Nat) (h : x < 18446744073709551616) : (numB x).length ≤ 10 := numB_len 9 x (by omega)
theorem numB_pos (x : Nat) : 0 < (numB x).length := by rw [numB]; split <;> simp
theorem numB_oct (x : Nat) : Oct (numB x) := by
  intro z hz
  rw [numB] at hz
  split at hz
  · rw [List.mem_singleton] at hz; omega
  · rcases List.mem_cons.1 hz with rfl | hz
    · omega
    · exact numB_oct (x / 128) z hz
termination_by x
decreasing_by omega

/-- A number of the kind int, without its sign. -/
def u64 (n : Int) : Nat := (IntKind.u64.wrap n).toNat
theorem u64_lt (n : Int) : u64 n < 18446744073709551616 := by unfold u64; rw [IntKind.wrap_u64]; omega
theorem u64_eq (n : Int) : IntKind.u64.wrap n = (u64 n : Int) := by unfold u64; rw [IntKind.wrap_u64]; omega

theorem numB_loI {x : Int} (h0 : 0 ≤ x) (h : x < 128) : numB x.toNat = [x] := by
  rw [numB_lo (by omega), Int.toNat_of_nonneg h0]
theorem numB_hiI {x : Int} (h : ¬ x < 128) : numB x.toNat = (x % 128 + 128) :: numB (x / 128).toNat := by
  obtain ⟨k, rfl⟩ := Int.eq_ofNat_of_zero_le (show 0 ≤ x by omega)
  have e1 : ((k : Int) / 128).toNat = k / 128 := by omega
  have e2 : ((k : Int)).toNat = k := by omega
  rw [e2, e1, numB_hi (by omega)]
  congr 1

theorem or128 (X : Int) (h0 : 0 ≤ X) : bits .or .u8 (X % 256) 128 = X % 128 + 128 := by
  obtain ⟨x, rfl⟩ := Int.eq_ofNat_of_zero_le h0
  have e : ((x : Int) % 256) = ((x % 256 : Nat) : Int) := by omega
  rw [e]
  show IntKind.u8.wrap ((BitVec.ofInt 8 ((x % 256 : Nat) : Int) ||| BitVec.ofInt 8 128).toNat : Int) = _
  have h : ∀ y : Nat, y < 256 → ((BitVec.ofInt 8 (y : Int) ||| BitVec.ofInt 8 128).toNat) = y % 128 + 128 := by decide +kernel
  rw [h _ (by omega), IntKind.wrap_u8]
  omega

theorem own_snoc {w : World} {B : Nat} {v : Value} {ys : List Int} {z : Int} {n : Nat} (hn : n = ys.length + 1)
    (h : w.ownsRow B 5 1 v n (ys.map (Value.int .u8) ++ [Value.int .u8 z])) : Own w B v (ys ++ [z]) := by
  unfold Own; subst hn; simpa using h
theorem one_one (z : Int) : ∀ u ∈ [Value.int .u8 z], u.oneCell' = true := by
  intro u hu; rw [List.mem_singleton] at hu; subst hu; rfl
/-- What an append to a row of the call's own leaves below. -/
theorem below_app {w w1 w2 : World} {B : Nat} {v : Value} {zs : List Int} (hb : Below B w w1) (ho : Own w1 B v zs) (hB : B ≤ w1.heap.size) (hg : w1.grownBy w2 v.ownBlock) : Below B w w2 :=
  hb.grown hg hB (fun k hk => (World.ownsRow.lt ho k hk).1)

end Go.Proofs.Ytfhlplpiojhhmaa
