/-
  The program's spanOf as a whole: of a right prefix its span and true, else the zero one and false; nothing old in memory turns.
-/
import Derived.Test.YtdbcdichmmcnbaaGreatZK4
import Derived.Test.YtdbcdichmmcnbaaGreatZK6
import Derived.Deep.RegionWith
import Derived.Deep.DeepCutAuto
namespace Go.Proofs.YtdbcdichmmcnbaaGreat
open Go.RowKit

theorem pokB_parts {s : Bool} {H L : BitVec 64} {b : Int} (hp : pokB s H L b = true) : okB s H.toInt L.toInt = true ∧ (0 ≤ b ∧ b ≤ (wd s : Int)) ∧ hasB s H L ((wd s : Int) - b).toNat s H L = true := by
  simp only [pokB, Bool.and_eq_true, decide_eq_true_eq] at hp
  exact hp
theorem wrapSub (s : Bool) (b : Int) (h : 0 ≤ b ∧ b ≤ (wd s : Int)) : IntKind.i64.wrap ((wd s : Int) - b) = ((((wd s : Int) - b).toNat : Nat) : Int) := by
  have := wd_le' s
  rw [← w64]; unfold wrap64; omega

theorem spanOf_yes (s : Bool) (H L : BitVec 64) (b : Int) (n : Nat) (hn : (n : Int) = (wd s : Int) - b) (hp : pokB s H L b = true) (w : World) :
    Calls Tryz.prog 52 #[.agg #[.bool s, .int .i64 H.toInt, .int .i64 L.toInt, .int .i64 b]] w fun e w' => e = .returned (.tuple #[.agg #[.bool s, .int .i64 H.toInt, .int .i64 L.toInt, .int .i64 n], .bool true]) ∧ Below w.heap.size w w' := by
  obtain ⟨hok, hb, hh⟩ := pokB_parts hp
  have e : ((wd s : Int) - b).toNat = n := by omega
  rw [e] at hh
  have := wd_le' s
  have hs := wrapSub s b hb
  rw [e] at hs
  exact spanOf_ok s H L b n (by omega) hok hb.1 hb.2 hs hh w

theorem spanOf_no (s : Bool) (H L : BitVec 64) (b : Int) (hp : pokB s H L b = false) (w : World) :
    Calls Tryz.prog 52 #[.agg #[.bool s, .int .i64 H.toInt, .int .i64 L.toInt, .int .i64 b]] w fun e w' => e = .returned (.tuple #[.agg #[.bool false, .int .i64 0, .int .i64 0, .int .i64 0], .bool false]) ∧ Below w.heap.size w w' := by
  cases hok : okB s H.toInt L.toInt
  · exact spanOf_bad s H L b hok w
  · by_cases h0 : b < 0
    · exact spanOf_neg s H L b hok h0 w
    · by_cases h1 : (wd s : Int) < b
      · exact spanOf_big s H L b hok (by omega) h1 w
      · have hb : 0 ≤ b ∧ b ≤ (wd s : Int) := by omega
        have hh : hasB s H L ((wd s : Int) - b).toNat s H L = false := by
          rw [pokB, hok, decide_eq_true hb] at hp
          simpa using hp
        have := wd_le' s
        exact spanOf_off s H L b _ (by omega) hok hb.1 hb.2 (wrapSub s b hb) hh w

end Go.Proofs.YtdbcdichmmcnbaaGreat
