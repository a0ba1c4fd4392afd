/-
  The specification's reading of eight groups, by its plain twin; nothing old in memory turns.
-/
import Derived.Test.YtofnnpjadehgmaaDoorDStr
import Derived.Test.YtofnnpjadehgmaaDoorDNum
import Derived.RegionTactic
namespace Go.Proofs.YtofnnpjadehgmaaDoor
open Go.RowKit

def KN : Kd Int := ⟨1, fun x => [.int .i64 x], fun _ => rfl, fun x u h => by
  simp at h; subst h; rfl⟩
theorem Tryd.tyN : GTy KN (.int .i64 0) 8 Tryd.prog 48 3 := ⟨Tryd.underlying48, by kernel_rfl, rfl, by omega⟩
theorem rowN {w : World} {a : Option Addr} {ps : List Int} (h : RowG KN w a ps) (j : Nat) (hj : j < ps.length) : ∃ p o q, a = some ⟨p, o, none⟩ ∧ p < w.heap.size ∧ ps[j]? = some q ∧ w.cell? ⟨p, o + j, none⟩ = some (.int .i64 q) := by
  obtain ⟨p, o, q, ha, hp, hq, c⟩ := h j hj
  have := c 0 _ rfl
  rw [show KN.k = 1 from rfl, Nat.mul_one, Nat.add_zero] at this
  exact ⟨p, o, q, ha, hp, hq, this⟩

/-- The words when the places below a are filled. -/
def hsm (G : Nat → Int) : Nat → Int
  | 0 => 0
  | 1 => G 0 * 281474976710656
  | 2 => G 0 * 281474976710656 + G 1 * 4294967296
  | 3 => G 0 * 281474976710656 + G 1 * 4294967296 + G 2 * 65536
  | _ => G 0 * 281474976710656 + G 1 * 4294967296 + G 2 * 65536 + G 3
def lsm (G : Nat → Int) : Nat → Int
  | 5 => G 4 * 281474976710656
  | 6 => G 4 * 281474976710656 + G 5 * 4294967296
  | 7 => G 4 * 281474976710656 + G 5 * 4294967296 + G 6 * 65536
  | 8 => G 4 * 281474976710656 + G 5 * 4294967296 + G 6 * 65536 + G 7
  | _ => 0
theorem ofInt_wrap (U : Int) (h0 : 0 ≤ U) (h1 : U < 18446744073709551616) : (BitVec.ofInt 64 (IntKind.i64.wrap U)).toNat = U.toNat := by
  rw [BitVec.toNat_ofInt, IntKind.wrap_i64]; omega
/-- Words whose bits are apart. -/
theorem or_wrap (U V : Int) (k : Nat) (hU0 : 0 ≤ U) (hU1 : U < 18446744073709551616) (hV0 : 0 ≤ V) (hV1 : V < 18446744073709551616) (hm : U.toNat % 2 ^ k = 0) (hv : V.toNat < 2 ^ k) :
    bits .or .i64 (IntKind.i64.wrap U) (IntKind.i64.wrap V) = IntKind.i64.wrap (U + V) := by
  show IntKind.i64.wrap ((BitVec.ofInt 64 (IntKind.i64.wrap U) ||| BitVec.ofInt 64 (IntKind.i64.wrap V)).toNat : Int) = _
  rw [BitVec.toNat_or, ofInt_wrap U hU0 hU1, ofInt_wrap V hV0 hV1, nat_join k _ _ hm hv]
  congr 1; omega
theorem hs_or0 (G : Nat → Int) (h : 0 ≤ G 0 ∧ G 0 < 65536) : bits .or .i64 (IntKind.i64.wrap (hsm G 0)) (IntKind.i64.wrap (G 0 * 281474976710656)) = IntKind.i64.wrap (hsm G 1) := by
  rw [or_wrap (hsm G 0) _ 64 (by simp [hsm]) (by simp [hsm]) (by omega) (by omega) (by simp [hsm]) (by omega)]; simp [hsm]
theorem hs_or1 (G : Nat → Int) (h0 : 0 ≤ G 0 ∧ G 0 < 65536) (h : 0 ≤ G 1 ∧ G 1 < 65536) : bits .or .i64 (IntKind.i64.wrap (hsm G 1)) (IntKind.i64.wrap (G 1 * 4294967296)) = IntKind.i64.wrap (hsm G 2) := by
  rw [or_wrap (hsm G 1) _ 48 (by simp only [hsm]; omega) (by simp only [hsm]; omega) (by omega) (by omega) (by simp only [hsm]; omega) (by omega)]; simp only [hsm]
theorem hs_or2 (G : Nat → Int) (h0 : 0 ≤ G 0 ∧ G 0 < 65536) (h1 : 0 ≤ G 1 ∧ G 1 < 65536) (h : 0 ≤ G 2 ∧ G 2 < 65536) : bits .or .i64 (IntKind.i64.wrap (hsm G 2)) (IntKind.i64.wrap (G 2 * 65536)) = IntKind.i64.wrap (hsm G 3) := by
  rw [or_wrap (hsm G 2) _ 32 (by simp only [hsm]; omega) (by simp only [hsm]; omega) (by omega) (by omega) (by simp only [hsm]; omega) (by omega)]; simp only [hsm]
theorem hs_or3 (G : Nat → Int) (h0 : 0 ≤ G 0 ∧ G 0 < 65536) (h1 : 0 ≤ G 1 ∧ G 1 < 65536) (h2 : 0 ≤ G 2 ∧ G 2 < 65536) (h : 0 ≤ G 3 ∧ G 3 < 65536) : bits .or .i64 (IntKind.i64.wrap (hsm G 3)) (IntKind.i64.wrap (G 3)) = IntKind.i64.wrap (hsm G 4) := by
  rw [or_wrap (hsm G 3) _ 16 (by simp only [hsm]; omega) (by simp only [hsm]; omega) (by omega) (by omega) (by simp only [hsm]; omega) (by omega)]; simp only [hsm]
theorem ls_or4 (G : Nat → Int) (h : 0 ≤ G 4 ∧ G 4 < 65536) : bits .or .i64 (IntKind.i64.wrap (lsm G 4)) (IntKind.i64.wrap (G 4 * 281474976710656)) = IntKind.i64.wrap (lsm G 5) := by
  rw [or_wrap (lsm G 4) _ 64 (by simp [lsm]) (by simp [lsm]) (by omega) (by omega) (by simp [lsm]) (by omega)]; simp [lsm]
theorem ls_or5 (G : Nat → Int) (h0 : 0 ≤ G 4 ∧ G 4 < 65536) (h : 0 ≤ G 5 ∧ G 5 < 65536) : bits .or .i64 (IntKind.i64.wrap (lsm G 5)) (IntKind.i64.wrap (G 5 * 4294967296)) = IntKind.i64.wrap (lsm G 6) := by
  rw [or_wrap (lsm G 5) _ 48 (by simp only [lsm]; omega) (by simp only [lsm]; omega) (by omega) (by omega) (by simp only [lsm]; omega) (by omega)]; simp only [lsm]
theorem ls_or6 (G : Nat → Int) (h0 : 0 ≤ G 4 ∧ G 4 < 65536) (h1 : 0 ≤ G 5 ∧ G 5 < 65536) (h : 0 ≤ G 6 ∧ G 6 < 65536) : bits .or .i64 (IntKind.i64.wrap (lsm G 6)) (IntKind.i64.wrap (G 6 * 65536)) = IntKind.i64.wrap (lsm G 7) := by
  rw [or_wrap (lsm G 6) _ 32 (by simp only [lsm]; omega) (by simp only [lsm]; omega) (by omega) (by omega) (by simp only [lsm]; omega) (by omega)]; simp only [lsm]
theorem ls_or7 (G : Nat → Int) (h0 : 0 ≤ G 4 ∧ G 4 < 65536) (h1 : 0 ≤ G 5 ∧ G 5 < 65536) (h2 : 0 ≤ G 6 ∧ G 6 < 65536) (h : 0 ≤ G 7 ∧ G 7 < 65536) : bits .or .i64 (IntKind.i64.wrap (lsm G 7)) (IntKind.i64.wrap (G 7)) = IntKind.i64.wrap (lsm G 8) := by
  rw [or_wrap (lsm G 7) _ 16 (by simp only [lsm]; omega) (by simp only [lsm]; omega) (by omega) (by omega) (by simp only [lsm]; omega) (by omega)]; simp only [lsm]

/-- Where the k-th number stands. -/
def plk (m : Nat) (gap : Int) (k : Nat) : Nat := if gap < 0 ∨ (k : Int) < gap then k else 8 - m + k
/-- Between two places that follow one another there are noughts alone. -/
theorem hsm_eq (G : Nat → Int) : ∀ d a, (∀ j, a ≤ j → j < a + d → G j = 0) → a + d ≤ 8 → hsm G (a + d) = hsm G a ∧ lsm G (a + d) = lsm G a
  | 0, a, _, _ => ⟨rfl, rfl⟩
  | d + 1, a, h, h8 => by
      obtain ⟨e1, e2⟩ := hsm_eq G d a (fun j h1 h2 => h j h1 (by omega)) (by omega)
      have hz := h (a + d) (by omega) (by omega)
      rw [← Nat.add_assoc, ← e1, ← e2]
      have hlt : a + d < 8 := by omega
      clear h h8 e1 e2
      generalize a + d = b at *
      have hb : b = 0 ∨ b = 1 ∨ b = 2 ∨ b = 3 ∨ b = 4 ∨ b = 5 ∨ b = 6 ∨ b = 7 := by omega
      rcases hb with rfl | rfl | rfl | rfl | rfl | rfl | rfl | rfl <;> simp [hsm, lsm, hz]

end Go.Proofs.YtofnnpjadehgmaaDoor
