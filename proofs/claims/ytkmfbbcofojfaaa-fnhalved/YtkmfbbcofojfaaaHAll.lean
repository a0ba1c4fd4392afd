/-
  What the program (and the specification's Halves) answers of a right prefix of more than one address, of its two halves, and of their addresses.
-/
import Derived.Test.YtkmfbbcofojfaaaHAdd
import Derived.Test.YtkmfbbcofojfaaaHCmp
import Derived.Test.YtkmfbbcofojfaaaBIHalf
import Derived.Test.YtkmfbbcofojfaaaBSHalv
import Derived.Test.YtkmfbbcofojfaaaBIAbov
import Derived.Test.YtkmfbbcofojfaaaBISib
import Derived.Test.YtkmfbbcofojfaaaBINth
import Derived.Test.YtkmfbbcofojfaaaBILast
import Derived.Test.YtkmfbbcofojfaaaBIOver
import Derived.Test.YtkmfbbcofojfaaaBCPre
namespace Go.Proofs.Ytkmfbbcofojfaaa
open Go.RowKit

theorem add_zero (s : Bool) (H L : BitVec 64) (ok0 : okB s H.toInt L.toInt = true) (w : World) :
    Calls Try.prog 17 #[.agg #[.bool s, .int .i64 H.toInt, .int .i64 L.toInt], .int .i64 0] w fun e w' => e = .returned (.tuple #[.agg #[.bool s, .int .i64 H.toInt, .int .i64 L.toInt], .bool true]) ∧ Below w.heap.size w w' := by
  have hz : Nrm s H.toInt L.toInt s H.toInt L.toInt := Or.inl ⟨ok0, rfl, rfl, rfl⟩
  have u0 : IntKind.u64.wrap 0 = 0 := by decide
  have a1 := add64 (IntKind.u64.wrap L.toInt) (IntKind.u64.wrap 0) 0 (Word_u _) (Word_u _) Bit0
  have a2 := add64 (IntKind.u64.wrap H.toInt) 0 0 (Word_u _) Word0 Bit0
  have lt := L.isLt
  have lh := H.isLt
  have c1 : addS (IntKind.u64.wrap L.toInt) (IntKind.u64.wrap 0) 0 = (L.toNat : Int) := by rw [wrapU, u0]; unfold addS; omega
  have c2 : addC (IntKind.u64.wrap L.toInt) (IntKind.u64.wrap 0) 0 = 0 := by rw [wrapU, u0]; unfold addC; omega
  have c3 : addS (IntKind.u64.wrap H.toInt) 0 0 = (H.toNat : Int) := by rw [wrapU]; unfold addS; omega
  have c4 : addC (IntKind.u64.wrap H.toInt) 0 0 = 0 := by rw [wrapU]; unfold addC; omega
  rw [c1, c2] at a1
  rw [c3, c4] at a2
  have i := iAddTo_ok s _ _ 0 s _ _ _ 0 _ _ hz (by omega) a1 a2 rfl (by
    show okB _ _ _ = true
    rw [w64, w64, wrapI, wrapI]; exact ok0) w
  rwa [w64, w64, wrapI, wrapI] at i

/-- A right prefix has its own first address; its words have no bits behind. -/
theorem pok_words {s : Bool} {H L : BitVec 64} {b : Int} {n : Nat} (hp : pokB s H L b = true) (hn : (n : Int) = (wd s : Int) - b) : cH n H = H ∧ cL n L = L := by
  have h := (pokB_parts hp).2.2
  rw [← hn, Int.toNat_natCast, hasB] at h
  simp only [beq_self_eq_true, Bool.true_and, Bool.and_eq_true, beq_iff_eq] at h
  exact h
theorem pok_mk {s : Bool} {H L : BitVec 64} {b : Int} {n : Nat} (hok : okB s H.toInt L.toInt = true) (hb : 0 ≤ b) (hn : (n : Int) = (wd s : Int) - b) (h1 : cH n H = H) (h2 : cL n L = L) : pokB s H L b = true := by
  rw [pokB, hok, decide_eq_true (by omega), ← hn, Int.toNat_natCast, hasB, h1, h2]
  simp
theorem had_mk {s : Bool} {H L : BitVec 64} {b : Int} {n : Nat} {X Y : BitVec 64} (hp : pokB s H L b = true) (hok : okB s X.toInt Y.toInt = true) (hn : (n : Int) = (wd s : Int) - b) : hadB s H L b s X Y = (cH n X == H && cL n Y == L) := by
  rw [hadB, hp, hok, ← hn, Int.toNat_natCast, hasB]
  simp

/-- The halves' words. -/
structure Halved (s : Bool) (H L : BitVec 64) (b : Int) (k : Nat) (U V : BitVec 64) : Prop where
  pp : pokB s H L b = true
  pa : pokB s H L (b + 1) = true
  pb : pokB s U V (b + 1) = true
  ok0 : okB s H.toInt L.toInt = true
  okU : okB s U.toInt V.toInt = true
  bd : 0 ≤ b ∧ (k : Int) + 1 = (wd s : Int) - b ∧ k < 128
  hH : cH (k + 1) H = H
  hL : cL (k + 1) L = L
  hU : U = cH k (fH (k + 1) H)
  hV : V = cL k (fL (k + 1) L)
  ne : (H == U && L == V) = false

theorem halved_mk (s : Bool) (H L : BitVec 64) (b : Int) (k : Nat) (hp : pokB s H L b = true) (hk : (k : Int) + 1 = (wd s : Int) - b) : Halved s H L b k (cH k (fH (k + 1) H)) (cL k (fL (k + 1) L)) := by
  obtain ⟨hok, hb, _⟩ := pokB_parts hp
  have hw := wd_le' s
  obtain ⟨hH, hL⟩ := pok_words (n := k + 1) hp (by omega)
  have okU := okB_clr s _ _ k (okB_fill s H L (k + 1) (by omega) hok)
  have k128 : k < 128 := by omega
  refine ⟨hp, pok_mk (n := k) hok (by omega) (by omega) (cH_less k H hH) (cL_less k L hL), pok_mk (n := k) okU (by omega) (by omega) (cH_idem _ _) (cL_idem _ _), hok, okU, ⟨hb.1, hk, k128⟩, hH, hL, rfl, rfl, ?_⟩
  rcases Nat.lt_or_ge k 64 with h | h
  · have := up_neL k h L hL
    rw [show (L == cL k (fL (k + 1) L)) = false by rw [beq_eq_false_iff_ne]; exact fun e => this e.symm, Bool.and_false]
  · have := up_neH k k128 h H hH
    rw [show (H == cH k (fH (k + 1) H)) = false by rw [beq_eq_false_iff_ne]; exact fun e => this e.symm, Bool.false_and]

end Go.Proofs.Ytkmfbbcofojfaaa
