/-
  What the program answers of the halves of a right prefix, value by value.
-/
import Derived.Test.YtkmfbbcofojfaaaHAll
namespace Go.Proofs.Ytkmfbbcofojfaaa
open Go.RowKit

theorem hv_halves {s : Bool} {H L : BitVec 64} {b : Int} {k : Nat} {U V : BitVec 64} (x : Halved s H L b k U V) : ∀ w : World, Calls Try.prog 9 #[.agg #[.bool s, .int .i64 H.toInt, .int .i64 L.toInt, .int .i64 b]] w fun e w' => e = .returned (.tuple #[.agg #[.bool s, .int .i64 H.toInt, .int .i64 L.toInt, .int .i64 (b + 1)], .agg #[.bool s, .int .i64 U.toInt, .int .i64 V.toInt, .int .i64 (b + 1)], .bool true]) ∧ Below w.heap.size w w' := by
  have i := iHalves_yes s H L b k x.bd.2.1 x.pp
  rw [show (wd s : Int) - (k : Int) = b + 1 by have := x.bd; omega, ← x.hU, ← x.hV] at i
  exact i

theorem hv_shalves {s : Bool} {H L : BitVec 64} {b : Int} {k : Nat} {U V : BitVec 64} (x : Halved s H L b k U V) : ∀ w : World, Calls Try.prog 10 #[.agg #[.bool s, .int .i64 H.toInt, .int .i64 L.toInt, .int .i64 b]] w fun e w' => e = .returned (.tuple #[.agg #[.bool s, .int .i64 H.toInt, .int .i64 L.toInt, .int .i64 (b + 1)], .agg #[.bool s, .int .i64 U.toInt, .int .i64 V.toInt, .int .i64 (b + 1)], .bool true]) ∧ Below w.heap.size w w' := by
  have i := sHalves_yes s H L b k x.bd.2.1 x.ok0 x.bd.1 x.pp
  rw [← x.hU, ← x.hV] at i
  exact i

theorem hv_above_a {s : Bool} {H L : BitVec 64} {b : Int} {k : Nat} {U V : BitVec 64} (x : Halved s H L b k U V) : ∀ w : World, Calls Try.prog 13 #[.agg #[.bool s, .int .i64 H.toInt, .int .i64 L.toInt, .int .i64 (b + 1)]] w fun e w' => e = .returned (.tuple #[.agg #[.bool s, .int .i64 H.toInt, .int .i64 L.toInt, .int .i64 b], .bool true]) ∧ Below w.heap.size w w' := by
  have i := iAbove_yes s H L (b + 1) k (by have := x.bd; omega) (by have := x.bd; omega) x.pa
  rw [x.hH, x.hL, show (wd s : Int) - ((k : Int) + 1) = b by have := x.bd; omega] at i
  exact i

theorem hv_above_b {s : Bool} {H L : BitVec 64} {b : Int} {k : Nat} {U V : BitVec 64} (x : Halved s H L b k U V) : ∀ w : World, Calls Try.prog 13 #[.agg #[.bool s, .int .i64 U.toInt, .int .i64 V.toInt, .int .i64 (b + 1)]] w fun e w' => e = .returned (.tuple #[.agg #[.bool s, .int .i64 H.toInt, .int .i64 L.toInt, .int .i64 b], .bool true]) ∧ Below w.heap.size w w' := by
  have i := iAbove_yes s U V (b + 1) k (by have := x.bd; omega) (by have := x.bd; omega) x.pb
  rw [show cH (k + 1) U = H by rw [x.hU]; exact up_cH k H x.hH, show cL (k + 1) V = L by rw [x.hV]; exact up_cL k L x.hL, show (wd s : Int) - ((k : Int) + 1) = b by have := x.bd; omega] at i
  exact i

theorem hv_sib {s : Bool} {H L : BitVec 64} {b : Int} {k : Nat} {U V : BitVec 64} (x : Halved s H L b k U V) : ∀ w : World, Calls Try.prog 14 #[.agg #[.bool s, .int .i64 H.toInt, .int .i64 L.toInt, .int .i64 (b + 1)]] w fun e w' => e = .returned (.tuple #[.agg #[.bool s, .int .i64 U.toInt, .int .i64 V.toInt, .int .i64 (b + 1)], .bool true]) ∧ Below w.heap.size w w' := by
  have i := iSibling_lo s H L (b + 1) k (by have := x.bd; omega) (by have := x.bd; omega) (by rw [lowB, x.hH, x.hL]; simp) x.pa
  rw [x.hH, x.hL, ← x.hU, ← x.hV, show (wd s : Int) - (k : Int) = b + 1 by have := x.bd; omega] at i
  exact i

theorem hv_nth {s : Bool} {H L : BitVec 64} {b : Int} {k : Nat} {U V : BitVec 64} (x : Halved s H L b k U V) : ∀ w : World, Calls Try.prog 15 #[.agg #[.bool s, .int .i64 U.toInt, .int .i64 V.toInt, .int .i64 (b + 1)], .int .i64 0] w fun e w' => e = .returned (.tuple #[.agg #[.bool s, .int .i64 U.toInt, .int .i64 V.toInt], .bool true]) ∧ Below w.heap.size w w' := by
  refine iNthOf_yes s U V (b + 1) 0 s U V k (by have := x.bd; omega) x.pb (add_zero s U V x.okU) ?_
  rw [hasB, (pok_words x.pb (by have := x.bd; omega)).1, (pok_words (n := k) x.pb (by have := x.bd; omega)).2]; simp

theorem hv_last_a {s : Bool} {H L : BitVec 64} {b : Int} {k : Nat} {U V : BitVec 64} (x : Halved s H L b k U V) : ∀ w : World, Calls Try.prog 16 #[.agg #[.bool s, .int .i64 H.toInt, .int .i64 L.toInt, .int .i64 (b + 1)]] w fun e w' => e = .returned (.tuple #[.agg #[.bool s, .int .i64 (fH k H).toInt, .int .i64 (fL k L).toInt], .bool true]) ∧ Below w.heap.size w w' := by
  exact iLastOf_yes s H L (b + 1) k (by have := x.bd; omega) x.pa

theorem hv_add {s : Bool} {H L : BitVec 64} {b : Int} {k : Nat} {U V : BitVec 64} (x : Halved s H L b k U V) : ∀ w : World, Calls Try.prog 17 #[.agg #[.bool s, .int .i64 (fH k H).toInt, .int .i64 (fL k L).toInt], .int .i64 1] w fun e w' => e = .returned (.tuple #[.agg #[.bool s, .int .i64 U.toInt, .int .i64 V.toInt], .bool true]) ∧ Below w.heap.size w w' := by
  have h := add_last s H L k x.bd.2.2 x.hH x.hL (okB_fill s H L k (by have := x.bd; omega) x.ok0) (by rw [← x.hU, ← x.hV]; exact x.okU)
  rw [← x.hU, ← x.hV] at h
  exact h

theorem hv_last_p {s : Bool} {H L : BitVec 64} {b : Int} {k : Nat} {U V : BitVec 64} (x : Halved s H L b k U V) : ∀ w : World, Calls Try.prog 16 #[.agg #[.bool s, .int .i64 H.toInt, .int .i64 L.toInt, .int .i64 b]] w fun e w' => e = .returned (.tuple #[.agg #[.bool s, .int .i64 (fH (k + 1) H).toInt, .int .i64 (fL (k + 1) L).toInt], .bool true]) ∧ Below w.heap.size w w' := by
  exact iLastOf_yes s H L b (k + 1) (by have := x.bd; omega) x.pp

theorem hv_last_b {s : Bool} {H L : BitVec 64} {b : Int} {k : Nat} {U V : BitVec 64} (x : Halved s H L b k U V) : ∀ w : World, Calls Try.prog 16 #[.agg #[.bool s, .int .i64 U.toInt, .int .i64 V.toInt, .int .i64 (b + 1)]] w fun e w' => e = .returned (.tuple #[.agg #[.bool s, .int .i64 (fH (k + 1) H).toInt, .int .i64 (fL (k + 1) L).toInt], .bool true]) ∧ Below w.heap.size w w' := by
  have i := iLastOf_yes s U V (b + 1) k (by have := x.bd; omega) x.pb
  rw [show fH k U = fH (k + 1) H by rw [x.hU]; exact up_fH k H, show fL k V = fL (k + 1) L by rw [x.hV]; exact up_fL k L] at i
  exact i

theorem hv_win_ap {s : Bool} {H L : BitVec 64} {b : Int} {k : Nat} {U V : BitVec 64} (x : Halved s H L b k U V) : ∀ w : World, Calls Try.prog 18 #[.agg #[.bool s, .int .i64 H.toInt, .int .i64 L.toInt, .int .i64 (b + 1)], .agg #[.bool s, .int .i64 H.toInt, .int .i64 L.toInt, .int .i64 b]] w fun e w' => e = .returned (.bool true) ∧ Below w.heap.size w w' := by
  have i := iWithin_any s H L (b + 1) s H L b
  rw [show winB s H L (b + 1) s H L b = true by rw [winB, x.pa, x.pp, decide_eq_true (by omega), had_mk (n := k + 1) x.pp x.ok0 (by have := x.bd; omega), x.hH, x.hL]; simp] at i
  exact i

theorem hv_win_bp {s : Bool} {H L : BitVec 64} {b : Int} {k : Nat} {U V : BitVec 64} (x : Halved s H L b k U V) : ∀ w : World, Calls Try.prog 18 #[.agg #[.bool s, .int .i64 U.toInt, .int .i64 V.toInt, .int .i64 (b + 1)], .agg #[.bool s, .int .i64 H.toInt, .int .i64 L.toInt, .int .i64 b]] w fun e w' => e = .returned (.bool true) ∧ Below w.heap.size w w' := by
  have i := iWithin_any s U V (b + 1) s H L b
  rw [show winB s U V (b + 1) s H L b = true by rw [winB, x.pb, x.pp, decide_eq_true (by omega), had_mk (n := k + 1) x.pp x.okU (by have := x.bd; omega), show cH (k + 1) U = H by rw [x.hU]; exact up_cH k H x.hH, show cL (k + 1) V = L by rw [x.hV]; exact up_cL k L x.hL]; simp] at i
  exact i

theorem hv_ov_ap {s : Bool} {H L : BitVec 64} {b : Int} {k : Nat} {U V : BitVec 64} (x : Halved s H L b k U V) : ∀ w : World, Calls Try.prog 19 #[.agg #[.bool s, .int .i64 H.toInt, .int .i64 L.toInt, .int .i64 (b + 1)], .agg #[.bool s, .int .i64 H.toInt, .int .i64 L.toInt, .int .i64 b]] w fun e w' => e = .returned (.bool true) ∧ Below w.heap.size w w' := by
  have i := iOverlaps_any s H L (b + 1) s H L b
  rw [show winB s H L (b + 1) s H L b = true by rw [winB, x.pa, x.pp, decide_eq_true (by omega), had_mk (n := k + 1) x.pp x.ok0 (by have := x.bd; omega), x.hH, x.hL]; simp, Bool.true_or] at i
  exact i

theorem hv_ov_ab {s : Bool} {H L : BitVec 64} {b : Int} {k : Nat} {U V : BitVec 64} (x : Halved s H L b k U V) : ∀ w : World, Calls Try.prog 19 #[.agg #[.bool s, .int .i64 H.toInt, .int .i64 L.toInt, .int .i64 (b + 1)], .agg #[.bool s, .int .i64 U.toInt, .int .i64 V.toInt, .int .i64 (b + 1)]] w fun e w' => e = .returned (.bool false) ∧ Below w.heap.size w w' := by
  have i := iOverlaps_any s H L (b + 1) s U V (b + 1)
  have wa := pok_words (n := k) x.pa (by have := x.bd; omega)
  have wb := pok_words (n := k) x.pb (by have := x.bd; omega)
  have n1 := x.ne
  have n2 : (U == H && V == L) = false := by rw [BEq.comm (a := U), BEq.comm (a := V)]; exact n1
  rw [show winB s H L (b + 1) s U V (b + 1) = false by rw [winB, had_mk (n := k) x.pb x.ok0 (by have := x.bd; omega), wa.1, wa.2, n1]; simp,
    show winB s U V (b + 1) s H L (b + 1) = false by rw [winB, had_mk (n := k) x.pa x.okU (by have := x.bd; omega), wb.1, wb.2, n2]; simp, Bool.or_false] at i
  exact i

theorem hv_cmp {s : Bool} {H L : BitVec 64} {b : Int} {k : Nat} {U V : BitVec 64} (x : Halved s H L b k U V) : ∀ w : World, Calls Try.prog 20 #[.agg #[.bool s, .int .i64 H.toInt, .int .i64 L.toInt, .int .i64 (b + 1)], .agg #[.bool s, .int .i64 U.toInt, .int .i64 V.toInt, .int .i64 (b + 1)]] w fun e w' => e = .returned (.int .i64 (-1)) ∧ Below w.heap.size w w' := by
  have hs : 64 ≤ k → s = true := fun h => by
    cases s
    · have := x.bd.2.1; have := x.bd.1; simp [wd] at *; omega
    · rfl
  have c := cmp_halves s H L k x.bd.2.2 hs x.hH x.hL x.ok0 (by rw [← x.hU, ← x.hV]; exact x.okU)
  rw [← x.hU, ← x.hV] at c
  have i := iCmpPrefix_any s H.toInt L.toInt (b + 1) s U.toInt V.toInt (b + 1) (-1) c
  rw [orI_1 (by decide)] at i
  exact i

end Go.Proofs.Ytkmfbbcofojfaaa
