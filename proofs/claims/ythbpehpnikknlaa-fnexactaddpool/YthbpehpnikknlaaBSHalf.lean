/-
  The specification's l2Halves of a right prefix, by its plain twin; nothing old in memory turns.
-/
import Derived.Test.YthbpehpnikknlaaBSLa2
import Derived.Deep.RegionHeld3
import Derived.Deep.RegionWith
import Derived.Deep.DeepCutAuto
namespace Go.Proofs.Ythbpehpnikknlaa
open Go.RowKit

theorem wd_le'' (s : Bool) : wd s ≤ 128 := by cases s <;> decide
theorem okB_low (L : BitVec 64) (h : L.toNat < 4294967296) : okB false (0 : BitVec 64).toInt L.toInt = true := by
  have e := BitVec.toInt_eq_toNat_cond (x := L)
  have h1 : (0 : BitVec 64).toInt = 0 := by decide
  rw [h1]
  refine okB_yes _ ?_ ?_ <;> split at e <;> omega
theorem okB_fill (s : Bool) (H L : BitVec 64) (n : Nat) (hn : n ≤ wd s) (hok : okB s H.toInt L.toInt = true) : okB s (fH n H).toInt (fL n L).toInt = true := by
  cases s
  · obtain ⟨rfl, hL⟩ := okB_four H L hok
    have hn' : n ≤ 32 := by simpa [wd] using hn
    have z : (fH n (0 : BitVec 64)) = 0 := by simp [fH, mh_32 n hn']
    rw [z]
    exact okB_low _ (or_lt32 L _ hL (ml_lt n hn'))
  · exact okB_t _ _
theorem okB_clr (s : Bool) (H L : BitVec 64) (n : Nat) (hok : okB s H.toInt L.toInt = true) : okB s (cH n H).toInt (cL n L).toInt = true := by
  cases s
  · obtain ⟨rfl, hL⟩ := okB_four H L hok
    have z : (cH n (0 : BitVec 64)) = 0 := by simp [cH]
    rw [z]
    exact okB_low _ (and_lt32 L _ hL)
  · exact okB_t _ _

end Go.Proofs.Ythbpehpnikknlaa
