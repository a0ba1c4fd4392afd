/-
  The specification's HasAddr as a whole, by its plain twin; nothing old in memory turns.
-/
import Derived.Test.YtdbcdichmmcnbaaGreatZK9
import Derived.Deep.RegionWith
import Derived.Deep.DeepCutAuto
import Derived.Test.YtdbcdichmmcnbaaGreatZK3
import Derived.Test.YtdbcdichmmcnbaaGreatZK7
import Derived.Test.YtdbcdichmmcnbaaGreatZK5
import Derived.Deep.RegionHeld3
import Derived.Test.YtdbcdichmmcnbaaGreatZK6
namespace Go.Proofs.YtdbcdichmmcnbaaGreat
open Go.RowKit

/-- whether the prefix (s, H, L, b) has the address (s', H', L') -/
def hadB (s : Bool) (H L : BitVec 64) (b : Int) (s' : Bool) (H' L' : BitVec 64) : Bool := pokB s H L b && (okB s' H'.toInt L'.toInt && hasB s H L ((wd s : Int) - b).toNat s' H' L')

theorem sHasAddr_any (s : Bool) (H L : BitVec 64) (b : Int) (s' : Bool) (H' L' : BitVec 64) (w : World) :
    Calls Tryz.prog 128 #[.agg #[.bool s, .int .i64 H.toInt, .int .i64 L.toInt, .int .i64 b], .agg #[.bool s', .int .i64 H'.toInt, .int .i64 L'.toInt]] w fun e w' => e = .returned (.bool (hadB s H L b s' H' L')) ∧ Below w.heap.size w w' := by
  cases hp : pokB s H L b
  · rw [show hadB s H L b s' H' L' = false by simp [hadB, hp]]
    exact sHasAddr_no s H L b s' H' L' hp w
  · cases hok : okB s' H'.toInt L'.toInt
    · rw [show hadB s H L b s' H' L' = false by simp [hadB, hok]]
      exact sHasAddr_bad s H L b s' H' L' hp hok w
    · rw [show hadB s H L b s' H' L' = hasB s H L ((wd s : Int) - b).toNat s' H' L' by rw [hadB, hp, hok]; rfl]
      have hb : 0 ≤ b ∧ b ≤ (wd s : Int) := by
        simp only [pokB, Bool.and_eq_true, decide_eq_true_eq] at hp
        exact hp.2.1
      by_cases e : s' = s
      · subst e
        exact sHasAddr_same s' H L b _ H' L' hp hok (by omega) (by omega) w
      · have e1 : (s' == s) = false := by simpa using e
        rw [show hasB s H L ((wd s : Int) - b).toNat s' H' L' = false by rw [hasB, e1]; rfl]
        cases s <;> cases s'
        · cases e1
        · exact sHasAddr_ft H L b H' L' hp hok w
        · exact sHasAddr_tf H L b H' L' hp hok w
        · cases e1

end Go.Proofs.YtdbcdichmmcnbaaGreat

/-
  The specification's Within, by its plain twin; nothing old in memory turns.
-/
namespace Go.Proofs.YtdbcdichmmcnbaaGreat
open Go.RowKit

/-- whether the prefix (s, H, L, b) lies in (s', H', L', b') -/
def winB (s : Bool) (H L : BitVec 64) (b : Int) (s' : Bool) (H' L' : BitVec 64) (b' : Int) : Bool := pokB s H L b && (pokB s' H' L' b' && (decide (b' ≤ b) && hadB s' H' L' b' s H L))

set_option maxHeartbeats 1000000 in
theorem sWithin_any (s : Bool) (H L : BitVec 64) (b : Int) (s' : Bool) (H' L' : BitVec 64) (b' : Int) (w : World) :
    Calls Tryz.prog 97 #[.agg #[.bool s, .int .i64 H.toInt, .int .i64 L.toInt, .int .i64 b], .agg #[.bool s', .int .i64 H'.toInt, .int .i64 L'.toInt, .int .i64 b']] w fun e w' => e = .returned (.bool (winB s H L b s' H' L' b')) ∧ Below w.heap.size w w' := by
  have HP : Hid (∀ w, _) := sPrefixOk_any s H L b
  have HQ : Hid (∀ w, _) := sPrefixOk_any s' H' L' b'
  have HH : Hid (∀ w, _) := sHasAddr_any s' H' L' b' s H L
  rw [winB]
  generalize pokB s H L b = B1 at HP ⊢
  generalize pokB s' H' L' b' = B2 at HQ ⊢
  generalize hadB s' H' L' b' s H L = B3 at HH ⊢
  cases B1
  · rw [Bool.false_and]
    go_enter Tryz.func97, Tryz.ntmps97
    go_wp2_with fail
    refine (HP.out _).mono ?_
    rintro e w1 ⟨rfl, hb1⟩
    have hz1 := hb1.size
    try simp at hz1
    have f10 : w.heap.size < w1.heap.size := by omega
    have f11 : w.heap.size + 1 < w1.heap.size := by omega
    refine olds_k (w.heap.size + 2) hb1 ?_ ?_
    · first | omega | (simp; omega) | (simp; done)
    intro hc1 hf1
    go_wp2_with fail
    go_ret
    refine ⟨rfl, ?_⟩
    repeat (first | with_reducible exact Below.refl _ _ | (with_reducible refine Below.drew ?_) | (with_reducible refine Below.alloc ?_ ?_ _; rotate_left; (focus (first | omega | (simp; omega) | (simp; done)))) | (with_reducible refine Below.setCell ?_ ?_ _; rotate_left; (focus (first | omega | (simp; omega) | (simp; done)))) | (with_reducible refine Below.trans ?_ (hb1.mono ?_); rotate_left; (focus (first | omega | (simp; omega) | (simp; done)))))
  cases B2
  · rw [Bool.false_and, Bool.and_false]
    go_enter Tryz.func97, Tryz.ntmps97
    go_wp2_with fail
    refine (HP.out _).mono ?_
    rintro e w1 ⟨rfl, hb1⟩
    have hz1 := hb1.size
    try simp at hz1
    have f10 : w.heap.size < w1.heap.size := by omega
    have f11 : w.heap.size + 1 < w1.heap.size := by omega
    refine olds_k (w.heap.size + 2) hb1 ?_ ?_
    · first | omega | (simp; omega) | (simp; done)
    intro hc1 hf1
    go_wp2_with fail
    refine (HQ.out _).mono ?_
    rintro e w2 ⟨rfl, hb2⟩
    have hz2 := hb2.size
    try simp at hz2
    have f20 : w.heap.size < w2.heap.size := by omega
    have f21 : w.heap.size + 1 < w2.heap.size := by omega
    refine olds_k (w.heap.size + 2) hb2 ?_ ?_
    · first | omega | (simp; omega) | (simp; done)
    intro hc2 hf2
    go_wp2_with fail
    go_ret
    refine ⟨rfl, ?_⟩
    repeat (first | with_reducible exact Below.refl _ _ | (with_reducible refine Below.drew ?_) | (with_reducible refine Below.alloc ?_ ?_ _; rotate_left; (focus (first | omega | (simp; omega) | (simp; done)))) | (with_reducible refine Below.setCell ?_ ?_ _; rotate_left; (focus (first | omega | (simp; omega) | (simp; done)))) | (with_reducible refine Below.trans ?_ (hb2.mono ?_); rotate_left; (focus (first | omega | (simp; omega) | (simp; done)))) | (with_reducible refine Below.trans ?_ (hb1.mono ?_); rotate_left; (focus (first | omega | (simp; omega) | (simp; done)))))
  by_cases hle : b' ≤ b
  · rw [decide_eq_true hle, Bool.true_and, Bool.true_and, Bool.true_and]
    go_enter Tryz.func97, Tryz.ntmps97
    go_wp2_with fail
    refine (HP.out _).mono ?_
    rintro e w1 ⟨rfl, hb1⟩
    have hz1 := hb1.size
    try simp at hz1
    have f10 : w.heap.size < w1.heap.size := by omega
    have f11 : w.heap.size + 1 < w1.heap.size := by omega
    refine olds_k (w.heap.size + 2) hb1 ?_ ?_
    · first | omega | (simp; omega) | (simp; done)
    intro hc1 hf1
    go_wp2_with fail
    refine (HQ.out _).mono ?_
    rintro e w2 ⟨rfl, hb2⟩
    have hz2 := hb2.size
    try simp at hz2
    have f20 : w.heap.size < w2.heap.size := by omega
    have f21 : w.heap.size + 1 < w2.heap.size := by omega
    refine olds_k (w.heap.size + 2) hb2 ?_ ?_
    · first | omega | (simp; omega) | (simp; done)
    intro hc2 hf2
    go_wp2_with fail
    refine (HH.out _).mono ?_
    rintro e w3 ⟨rfl, hb3⟩
    have hz3 := hb3.size
    try simp at hz3
    have f30 : w.heap.size < w3.heap.size := by omega
    have f31 : w.heap.size + 1 < w3.heap.size := by omega
    refine olds_k (w.heap.size + 2) hb3 ?_ ?_
    · first | omega | (simp; omega) | (simp; done)
    intro hc3 hf3
    go_wp2_with fail
    go_ret
    refine ⟨rfl, ?_⟩
    repeat (first | with_reducible exact Below.refl _ _ | (with_reducible refine Below.drew ?_) | (with_reducible refine Below.alloc ?_ ?_ _; rotate_left; (focus (first | omega | (simp; omega) | (simp; done)))) | (with_reducible refine Below.setCell ?_ ?_ _; rotate_left; (focus (first | omega | (simp; omega) | (simp; done)))) | (with_reducible refine Below.trans ?_ (hb3.mono ?_); rotate_left; (focus (first | omega | (simp; omega) | (simp; done)))) | (with_reducible refine Below.trans ?_ (hb2.mono ?_); rotate_left; (focus (first | omega | (simp; omega) | (simp; done)))) | (with_reducible refine Below.trans ?_ (hb1.mono ?_); rotate_left; (focus (first | omega | (simp; omega) | (simp; done)))))
  · rw [decide_eq_false hle, Bool.false_and, Bool.true_and, Bool.true_and]
    go_enter Tryz.func97, Tryz.ntmps97
    go_wp2_with fail
    refine (HP.out _).mono ?_
    rintro e w1 ⟨rfl, hb1⟩
    have hz1 := hb1.size
    try simp at hz1
    have f10 : w.heap.size < w1.heap.size := by omega
    have f11 : w.heap.size + 1 < w1.heap.size := by omega
    refine olds_k (w.heap.size + 2) hb1 ?_ ?_
    · first | omega | (simp; omega) | (simp; done)
    intro hc1 hf1
    go_wp2_with fail
    refine (HQ.out _).mono ?_
    rintro e w2 ⟨rfl, hb2⟩
    have hz2 := hb2.size
    try simp at hz2
    have f20 : w.heap.size < w2.heap.size := by omega
    have f21 : w.heap.size + 1 < w2.heap.size := by omega
    refine olds_k (w.heap.size + 2) hb2 ?_ ?_
    · first | omega | (simp; omega) | (simp; done)
    intro hc2 hf2
    go_wp2_with fail
    go_ret
    refine ⟨rfl, ?_⟩
    repeat (first | with_reducible exact Below.refl _ _ | (with_reducible refine Below.drew ?_) | (with_reducible refine Below.alloc ?_ ?_ _; rotate_left; (focus (first | omega | (simp; omega) | (simp; done)))) | (with_reducible refine Below.setCell ?_ ?_ _; rotate_left; (focus (first | omega | (simp; omega) | (simp; done)))) | (with_reducible refine Below.trans ?_ (hb2.mono ?_); rotate_left; (focus (first | omega | (simp; omega) | (simp; done)))) | (with_reducible refine Below.trans ?_ (hb1.mono ?_); rotate_left; (focus (first | omega | (simp; omega) | (simp; done)))))

end Go.Proofs.YtdbcdichmmcnbaaGreat

/-
  The program's within and overlaps of spans, each by its plain twin; nothing old in memory turns.
-/
namespace Go.Proofs.YtdbcdichmmcnbaaGreat
open Go.RowKit

/-- whether the span (s, H, L, n) lies in (s', H', L', m) -/
def withB (s : Bool) (H L : BitVec 64) (n : Nat) (s' : Bool) (H' L' : BitVec 64) (m : Nat) : Bool := decide (n ≤ m) && hasB s' H' L' m s H L

set_option maxHeartbeats 1000000 in
theorem within_any (s : Bool) (H L : BitVec 64) (n : Nat) (s' : Bool) (H' L' : BitVec 64) (m : Nat) (hm : m ≤ 128) (w : World) :
    Calls Tryz.prog 53 #[.agg #[.bool s, .int .i64 H.toInt, .int .i64 L.toInt, .int .i64 n], .agg #[.bool s', .int .i64 H'.toInt, .int .i64 L'.toInt, .int .i64 m]] w fun e w' => e = .returned (.bool (withB s H L n s' H' L' m)) ∧ Below w.heap.size w w' := by
  by_cases h : n ≤ m
  · rw [withB, decide_eq_true h, Bool.true_and]
    go_enter Tryz.func53, Tryz.ntmps53
    go_wp2_with fail
    refine (has_any s' H' L' m hm s H L _).mono ?_
    rintro e w1 ⟨rfl, hb1⟩
    have hz1 := hb1.size
    try simp at hz1
    have f10 : w.heap.size < w1.heap.size := by omega
    have f11 : w.heap.size + 1 < w1.heap.size := by omega
    refine olds_k (w.heap.size + 2) hb1 ?_ ?_
    · first | omega | (simp; omega) | (simp; done)
    intro hc1 hf1
    go_wp2_with fail
    go_ret
    refine ⟨rfl, ?_⟩
    repeat (first | with_reducible exact Below.refl _ _ | (with_reducible refine Below.drew ?_) | (with_reducible refine Below.alloc ?_ ?_ _; rotate_left; (focus (first | omega | (simp; omega) | (simp; done)))) | (with_reducible refine Below.setCell ?_ ?_ _; rotate_left; (focus (first | omega | (simp; omega) | (simp; done)))) | (with_reducible refine Below.trans ?_ (hb1.mono ?_); rotate_left; (focus (first | omega | (simp; omega) | (simp; done)))))
  · rw [withB, decide_eq_false h, Bool.false_and]
    go_enter Tryz.func53, Tryz.ntmps53
    go_wp2_with fail
    go_ret
    refine ⟨rfl, ?_⟩
    repeat (first | with_reducible exact Below.refl _ _ | (with_reducible refine Below.drew ?_) | (with_reducible refine Below.alloc ?_ ?_ _; rotate_left; (focus (first | omega | (simp; omega) | (simp; done)))) | (with_reducible refine Below.setCell ?_ ?_ _; rotate_left; (focus (first | omega | (simp; omega) | (simp; done)))))

set_option maxHeartbeats 1000000 in
theorem overlaps_any (s : Bool) (H L : BitVec 64) (n : Nat) (hn : n ≤ 128) (s' : Bool) (H' L' : BitVec 64) (m : Nat) (hm : m ≤ 128) (w : World) :
    Calls Tryz.prog 106 #[.agg #[.bool s, .int .i64 H.toInt, .int .i64 L.toInt, .int .i64 n], .agg #[.bool s', .int .i64 H'.toInt, .int .i64 L'.toInt, .int .i64 m]] w fun e w' => e = .returned (.bool (withB s H L n s' H' L' m || withB s' H' L' m s H L n)) ∧ Below w.heap.size w w' := by
  have HW : Hid (∀ w, _) := within_any s H L n s' H' L' m hm
  have HX : Hid (∀ w, _) := within_any s' H' L' m s H L n hn
  generalize withB s H L n s' H' L' m = b1 at HW ⊢
  generalize withB s' H' L' m s H L n = b2 at HX ⊢
  cases b1
  · rw [Bool.false_or]
    go_enter Tryz.func106, Tryz.ntmps106
    go_wp2_with fail
    refine (HW.out _).mono ?_
    rintro e w1 ⟨rfl, hb1⟩
    have hz1 := hb1.size
    try simp at hz1
    have f10 : w.heap.size < w1.heap.size := by omega
    have f11 : w.heap.size + 1 < w1.heap.size := by omega
    refine olds_k (w.heap.size + 2) hb1 ?_ ?_
    · first | omega | (simp; omega) | (simp; done)
    intro hc1 hf1
    go_wp2_with fail
    refine (HX.out _).mono ?_
    rintro e w2 ⟨rfl, hb2⟩
    have hz2 := hb2.size
    try simp at hz2
    have f20 : w.heap.size < w2.heap.size := by omega
    have f21 : w.heap.size + 1 < w2.heap.size := by omega
    refine olds_k (w.heap.size + 2) hb2 ?_ ?_
    · first | omega | (simp; omega) | (simp; done)
    intro hc2 hf2
    go_wp2_with fail
    go_ret
    refine ⟨rfl, ?_⟩
    repeat (first | with_reducible exact Below.refl _ _ | (with_reducible refine Below.drew ?_) | (with_reducible refine Below.alloc ?_ ?_ _; rotate_left; (focus (first | omega | (simp; omega) | (simp; done)))) | (with_reducible refine Below.setCell ?_ ?_ _; rotate_left; (focus (first | omega | (simp; omega) | (simp; done)))) | (with_reducible refine Below.trans ?_ (hb2.mono ?_); rotate_left; (focus (first | omega | (simp; omega) | (simp; done)))) | (with_reducible refine Below.trans ?_ (hb1.mono ?_); rotate_left; (focus (first | omega | (simp; omega) | (simp; done)))))
  · rw [Bool.true_or]
    go_enter Tryz.func106, Tryz.ntmps106
    go_wp2_with fail
    refine (HW.out _).mono ?_
    rintro e w1 ⟨rfl, hb1⟩
    have hz1 := hb1.size
    try simp at hz1
    have f10 : w.heap.size < w1.heap.size := by omega
    have f11 : w.heap.size + 1 < w1.heap.size := by omega
    refine olds_k (w.heap.size + 2) hb1 ?_ ?_
    · first | omega | (simp; omega) | (simp; done)
    intro hc1 hf1
    go_wp2_with fail
    go_ret
    refine ⟨rfl, ?_⟩
    repeat (first | with_reducible exact Below.refl _ _ | (with_reducible refine Below.drew ?_) | (with_reducible refine Below.alloc ?_ ?_ _; rotate_left; (focus (first | omega | (simp; omega) | (simp; done)))) | (with_reducible refine Below.setCell ?_ ?_ _; rotate_left; (focus (first | omega | (simp; omega) | (simp; done)))) | (with_reducible refine Below.trans ?_ (hb1.mono ?_); rotate_left; (focus (first | omega | (simp; omega) | (simp; done)))))

end Go.Proofs.YtdbcdichmmcnbaaGreat

/-
  The program's Within, by its plain twin; nothing old in memory turns.
-/
namespace Go.Proofs.YtdbcdichmmcnbaaGreat
open Go.RowKit

theorem win_with {s : Bool} {H L : BitVec 64} {b : Int} {s' : Bool} {H' L' : BitVec 64} {b' : Int} {n m : Nat} (hp : pokB s H L b = true) (hq : pokB s' H' L' b' = true) (hn : (n : Int) = (wd s : Int) - b) (hm : (m : Int) = (wd s' : Int) - b') :
    winB s H L b s' H' L' b' = withB s H L n s' H' L' m := by
  have ho := (pokB_parts hp).1
  rw [winB, hp, hq, withB, hadB, hq, ho, ← hm]
  simp only [Bool.true_and, Int.toNat_natCast]
  by_cases e : s = s'
  · subst e
    rw [show decide (b' ≤ b) = decide (n ≤ m) from decide_eq_decide.mpr (by omega)]
  · have : hasB s' H' L' m s H L = false := by
      rw [hasB, show (s == s') = false by simpa using e]; rfl
    rw [this, Bool.and_false, Bool.and_false]
theorem win_no1 {s : Bool} {H L : BitVec 64} {b : Int} {s' : Bool} {H' L' : BitVec 64} {b' : Int} (hp : pokB s H L b = false) : winB s H L b s' H' L' b' = false := by rw [winB, hp]; rfl
theorem win_no2 {s : Bool} {H L : BitVec 64} {b : Int} {s' : Bool} {H' L' : BitVec 64} {b' : Int} (hq : pokB s' H' L' b' = false) : winB s H L b s' H' L' b' = false := by rw [winB, hq]; simp

set_option maxHeartbeats 1000000 in
theorem iWithin_any (s : Bool) (H L : BitVec 64) (b : Int) (s' : Bool) (H' L' : BitVec 64) (b' : Int) (w : World) :
    Calls Tryz.prog 14 #[.agg #[.bool s, .int .i64 H.toInt, .int .i64 L.toInt, .int .i64 b], .agg #[.bool s', .int .i64 H'.toInt, .int .i64 L'.toInt, .int .i64 b']] w fun e w' => e = .returned (.bool (winB s H L b s' H' L' b')) ∧ Below w.heap.size w w' := by
  cases hp : pokB s H L b
  · rw [win_no1 hp]
    have HS : Hid (∀ w, _) := spanOf_no s H L b hp
    clear hp
    cases hq : pokB s' H' L' b'
    · have HT : Hid (∀ w, _) := spanOf_no s' H' L' b' hq
      clear hq
      go_enter Tryz.func14, Tryz.ntmps14
      go_wp2_with fail
      refine (HS.out _).mono ?_
      rintro e w1 ⟨rfl, hb1⟩
      have hz1 := hb1.size
      try simp at hz1
      have f10 : w.heap.size < w1.heap.size := by omega
      have f11 : w.heap.size + 1 < w1.heap.size := by omega
      refine olds_k (w.heap.size + 2) hb1 ?_ ?_
      · first | omega | (simp; omega) | (simp; done)
      intro hc1 hf1
      go_wp2_with fail
      refine (HT.out _).mono ?_
      rintro e w2 ⟨rfl, hb2⟩
      have hz2 := hb2.size
      try simp at hz2
      have f2x0 : w.heap.size < w2.heap.size := by omega
      have f2x1 : w.heap.size + 1 < w2.heap.size := by omega
      have f2x2 : w1.heap.size < w2.heap.size := by omega
      have f2x3 : w.heap.size + 1 < w1.heap.size + 1 := by omega
      refine olds_k (w1.heap.size + 1) hb2 ?_ ?_
      · first | omega | (simp; omega) | (simp; done)
      intro hc2 hf2
      go_wp2_with fail
      go_ret
      refine ⟨rfl, ?_⟩
      repeat (first | with_reducible exact Below.refl _ _ | (with_reducible refine Below.drew ?_) | (with_reducible refine Below.alloc ?_ ?_ _; rotate_left; (focus (first | omega | (simp; omega) | (simp; done)))) | (with_reducible refine Below.setCell ?_ ?_ _; rotate_left; (focus (first | omega | (simp; omega) | (simp; done)))) | (with_reducible refine Below.trans ?_ (hb2.mono ?_); rotate_left; (focus (first | omega | (simp; omega) | (simp; done)))) | (with_reducible refine Below.trans ?_ (hb1.mono ?_); rotate_left; (focus (first | omega | (simp; omega) | (simp; done)))))
    · obtain ⟨m, hm⟩ : ∃ m : Nat, (m : Int) = (wd s' : Int) - b' := ⟨((wd s' : Int) - b').toNat, by have := (pokB_parts hq).2.1; omega⟩
      have HT : Hid (∀ w, _) := spanOf_yes s' H' L' b' m hm hq
      clear hq hm
      go_enter Tryz.func14, Tryz.ntmps14
      go_wp2_with fail
      refine (HS.out _).mono ?_
      rintro e w1 ⟨rfl, hb1⟩
      have hz1 := hb1.size
      try simp at hz1
      have f10 : w.heap.size < w1.heap.size := by omega
      have f11 : w.heap.size + 1 < w1.heap.size := by omega
      refine olds_k (w.heap.size + 2) hb1 ?_ ?_
      · first | omega | (simp; omega) | (simp; done)
      intro hc1 hf1
      go_wp2_with fail
      refine (HT.out _).mono ?_
      rintro e w2 ⟨rfl, hb2⟩
      have hz2 := hb2.size
      try simp at hz2
      have f2x0 : w.heap.size < w2.heap.size := by omega
      have f2x1 : w.heap.size + 1 < w2.heap.size := by omega
      have f2x2 : w1.heap.size < w2.heap.size := by omega
      have f2x3 : w.heap.size + 1 < w1.heap.size + 1 := by omega
      refine olds_k (w1.heap.size + 1) hb2 ?_ ?_
      · first | omega | (simp; omega) | (simp; done)
      intro hc2 hf2
      go_wp2_with fail
      go_ret
      refine ⟨rfl, ?_⟩
      repeat (first | with_reducible exact Below.refl _ _ | (with_reducible refine Below.drew ?_) | (with_reducible refine Below.alloc ?_ ?_ _; rotate_left; (focus (first | omega | (simp; omega) | (simp; done)))) | (with_reducible refine Below.setCell ?_ ?_ _; rotate_left; (focus (first | omega | (simp; omega) | (simp; done)))) | (with_reducible refine Below.trans ?_ (hb2.mono ?_); rotate_left; (focus (first | omega | (simp; omega) | (simp; done)))) | (with_reducible refine Below.trans ?_ (hb1.mono ?_); rotate_left; (focus (first | omega | (simp; omega) | (simp; done)))))
  · obtain ⟨n, hn⟩ : ∃ n : Nat, (n : Int) = (wd s : Int) - b := ⟨((wd s : Int) - b).toNat, by have := (pokB_parts hp).2.1; omega⟩
    have HS : Hid (∀ w, _) := spanOf_yes s H L b n hn hp
    cases hq : pokB s' H' L' b'
    · rw [win_no2 hq]
      have HT : Hid (∀ w, _) := spanOf_no s' H' L' b' hq
      clear hq hp hn
      go_enter Tryz.func14, Tryz.ntmps14
      go_wp2_with fail
      refine (HS.out _).mono ?_
      rintro e w1 ⟨rfl, hb1⟩
      have hz1 := hb1.size
      try simp at hz1
      have f10 : w.heap.size < w1.heap.size := by omega
      have f11 : w.heap.size + 1 < w1.heap.size := by omega
      refine olds_k (w.heap.size + 2) hb1 ?_ ?_
      · first | omega | (simp; omega) | (simp; done)
      intro hc1 hf1
      go_wp2_with fail
      refine (HT.out _).mono ?_
      rintro e w2 ⟨rfl, hb2⟩
      have hz2 := hb2.size
      try simp at hz2
      have f2x0 : w.heap.size < w2.heap.size := by omega
      have f2x1 : w.heap.size + 1 < w2.heap.size := by omega
      have f2x2 : w1.heap.size < w2.heap.size := by omega
      have f2x3 : w.heap.size + 1 < w1.heap.size + 1 := by omega
      refine olds_k (w1.heap.size + 1) hb2 ?_ ?_
      · first | omega | (simp; omega) | (simp; done)
      intro hc2 hf2
      go_wp2_with fail
      go_ret
      refine ⟨rfl, ?_⟩
      repeat (first | with_reducible exact Below.refl _ _ | (with_reducible refine Below.drew ?_) | (with_reducible refine Below.alloc ?_ ?_ _; rotate_left; (focus (first | omega | (simp; omega) | (simp; done)))) | (with_reducible refine Below.setCell ?_ ?_ _; rotate_left; (focus (first | omega | (simp; omega) | (simp; done)))) | (with_reducible refine Below.trans ?_ (hb2.mono ?_); rotate_left; (focus (first | omega | (simp; omega) | (simp; done)))) | (with_reducible refine Below.trans ?_ (hb1.mono ?_); rotate_left; (focus (first | omega | (simp; omega) | (simp; done)))))
    · obtain ⟨m, hm⟩ : ∃ m : Nat, (m : Int) = (wd s' : Int) - b' := ⟨((wd s' : Int) - b').toNat, by have := (pokB_parts hq).2.1; omega⟩
      rw [win_with hp hq hn hm]
      have hn1 : n ≤ 128 := by have := wd_le' s; have := (pokB_parts hp).2.1; omega
      have hm1 : m ≤ 128 := by have := wd_le' s'; have := (pokB_parts hq).2.1; omega
      have HT : Hid (∀ w, _) := spanOf_yes s' H' L' b' m hm hq
      have HW : Hid (∀ w, _) := within_any s H L n s' H' L' m hm1
      clear hn1
      generalize withB s H L n s' H' L' m = B1 at HW ⊢
      clear hq hm hp hn
      go_enter Tryz.func14, Tryz.ntmps14
      go_wp2_with fail
      refine (HS.out _).mono ?_
      rintro e w1 ⟨rfl, hb1⟩
      have hz1 := hb1.size
      try simp at hz1
      have f10 : w.heap.size < w1.heap.size := by omega
      have f11 : w.heap.size + 1 < w1.heap.size := by omega
      refine olds_k (w.heap.size + 2) hb1 ?_ ?_
      · first | omega | (simp; omega) | (simp; done)
      intro hc1 hf1
      go_wp2_with fail
      refine (HT.out _).mono ?_
      rintro e w2 ⟨rfl, hb2⟩
      have hz2 := hb2.size
      try simp at hz2
      have f2x0 : w.heap.size < w2.heap.size := by omega
      have f2x1 : w.heap.size + 1 < w2.heap.size := by omega
      have f2x2 : w1.heap.size < w2.heap.size := by omega
      have f2x3 : w.heap.size + 1 < w1.heap.size + 1 := by omega
      refine olds_k (w1.heap.size + 1) hb2 ?_ ?_
      · first | omega | (simp; omega) | (simp; done)
      intro hc2 hf2
      go_wp2_with fail
      refine (HW.out _).mono ?_
      rintro e w3 ⟨rfl, hb3⟩
      have hz3 := hb3.size
      try simp at hz3
      have f30 : w.heap.size < w3.heap.size := by omega
      have f31 : w.heap.size + 1 < w3.heap.size := by omega
      refine olds_k (w.heap.size + 2) hb3 ?_ ?_
      · first | omega | (simp; omega) | (simp; done)
      intro hc3 hf3
      go_wp2_with fail
      go_ret
      refine ⟨rfl, ?_⟩
      repeat (first | with_reducible exact Below.refl _ _ | (with_reducible refine Below.drew ?_) | (with_reducible refine Below.alloc ?_ ?_ _; rotate_left; (focus (first | omega | (simp; omega) | (simp; done)))) | (with_reducible refine Below.setCell ?_ ?_ _; rotate_left; (focus (first | omega | (simp; omega) | (simp; done)))) | (with_reducible refine Below.trans ?_ (hb3.mono ?_); rotate_left; (focus (first | omega | (simp; omega) | (simp; done)))) | (with_reducible refine Below.trans ?_ (hb2.mono ?_); rotate_left; (focus (first | omega | (simp; omega) | (simp; done)))) | (with_reducible refine Below.trans ?_ (hb1.mono ?_); rotate_left; (focus (first | omega | (simp; omega) | (simp; done)))))

end Go.Proofs.YtdbcdichmmcnbaaGreat

/-
  The specification's l2Last of a right prefix, by its plain twin; nothing old in memory turns.
-/
namespace Go.Proofs.YtdbcdichmmcnbaaGreat
open Go.RowKit

theorem bNotU (M : BitVec 64) : bits .xor .u64 IntKind.u64.max (M.toNat : Int) = ((~~~ M).toNat : Int) := by
  show IntKind.u64.wrap ((BitVec.ofInt 64 IntKind.u64.max ^^^ BitVec.ofInt 64 M.toNat).toNat : Int) = _
  rw [ofN, show BitVec.ofInt 64 IntKind.u64.max = BitVec.allOnes 64 by decide, BitVec.allOnes_xor, wrapUn]

set_option maxHeartbeats 1000000 in
theorem l2Last_six (H L : BitVec 64) (n : Nat) (b : Int) (hn : n ≤ 128) (hb : b = 128 - (n : Int)) (w : World) :
    Calls Tryz.prog 150 #[.agg #[.bool true, .int .i64 H.toInt, .int .i64 L.toInt, .int .i64 b]] w fun e w' => e = .returned (.agg #[.bool true, .int .i64 (fH n H).toInt, .int .i64 (fL n L).toInt]) ∧ Below w.heap.size w w' := by
  have a1 := l2High_any b (by omega) (by omega)
  have a2 := l2High_any (b - 64) (by omega) (by omega)
  rw [show hg b = ~~~ mh n by rw [hb]; exact hg_hi n hn] at a1
  rw [show hg (b - 64) = ~~~ ml n by rw [hb]; exact hg_lo n hn] at a2
  have H1 : Hid (∀ w, _) := a1
  have H2 : Hid (∀ w, _) := a2
  clear a1 a2
  have hb1 : -64 ≤ b - 64 := by omega
  have hb2 : b ≤ 128 := by omega
  have hw1 : wrap64 (b - 64) = b - 64 := by unfold wrap64; omega
  have hw2 : IntKind.i64.wrap (b - 64) = b - 64 := by rw [← w64]; exact hw1
  have k1 : IntKind.i64.wrap (bits .or .u64 (IntKind.u64.wrap H.toInt) (bits .xor .u64 IntKind.u64.max ((~~~ mh n).toNat : Int))) = (fH n H).toInt := by rw [bNotU, wrapU, bOrU, wrapI, BitVec.not_not]; rfl
  have k2 : IntKind.i64.wrap (bits .or .u64 (IntKind.u64.wrap L.toInt) (bits .xor .u64 IntKind.u64.max ((~~~ ml n).toNat : Int))) = (fL n L).toInt := by rw [bNotU, wrapU, bOrU, wrapI, BitVec.not_not]; rfl
  generalize ~~~ mh n = M1 at H1 k1
  generalize ~~~ ml n = M2 at H2 k2
  generalize fH n H = X1 at k1 ⊢
  generalize fL n L = X2 at k2 ⊢
  clear hb hn
  go_enter Tryz.func150, Tryz.ntmps150
  go_wp2_with fail
  go_region_held3 (fun x => x.cell? ⟨w.heap.size, 0, none⟩ = some (.bool true) ∧ x.cell? ⟨w.heap.size, 1, none⟩ = some (.int .i64 H.toInt) ∧ x.cell? ⟨w.heap.size, 2, none⟩ = some (.int .i64 L.toInt) ∧ x.cell? ⟨w.heap.size, 3, none⟩ = some (.int .i64 b)) ((go_simp)) (first | (go_at_call_of 125 (Value.int .i64 b); refine (H1.out _).mono ?_; rintro e w1 ⟨rfl, rfl⟩) | (go_at_call 125; refine (H2.out _).mono ?_; rintro e w1 ⟨rfl, rfl⟩))
  all_goals
    go_wp2_with fail
    refine bodyPost_ret (v := .agg #[.bool true, .int .i64 X1.toInt, .int .i64 X2.toInt]) (by simp [results, Tryz.results150, go_sem]) rfl ⟨rfl, ?_⟩
    repeat (first | with_reducible exact Below.refl _ _ | (with_reducible refine Below.drew ?_) | (with_reducible refine Below.alloc ?_ ?_ _; rotate_left; (focus (first | omega | (simp; omega) | (simp; done)))) | (with_reducible refine Below.setCell ?_ ?_ _; rotate_left; (focus (first | omega | (simp; omega) | (simp; done)))))

set_option maxHeartbeats 1000000 in
theorem l2Last_four (L : BitVec 64) (n : Nat) (b : Int) (hn : n ≤ 32) (hb : b = 32 - (n : Int)) (w : World) :
    Calls Tryz.prog 150 #[.agg #[.bool false, .int .i64 0, .int .i64 L.toInt, .int .i64 b]] w fun e w' => e = .returned (.agg #[.bool false, .int .i64 0, .int .i64 (fL n L).toInt]) ∧ Below w.heap.size w w' := by
  have a1 := l2High_any b (by omega) (by omega)
  have H1 : Hid (∀ w, _) := a1
  clear a1
  have k1 : bits .or .i64 L.toInt (IntKind.i64.wrap (bits .xor .u64 IntKind.u64.max ((hg b).toNat : Int) / (4294967296 : Int))) = (fL n L).toInt := by
    rw [bNotU, shr32', wrapI, bOr, hb, ng_32 n hn]; rfl
  generalize hg b = M1 at k1 H1
  generalize fL n L = X2 at k1 ⊢
  clear hb hn
  go_enter Tryz.func150, Tryz.ntmps150
  go_wp2_with fail
  go_region_held3 (fun x => x.cell? ⟨w.heap.size, 0, none⟩ = some (.bool false) ∧ x.cell? ⟨w.heap.size, 1, none⟩ = some (.int .i64 0) ∧ x.cell? ⟨w.heap.size, 2, none⟩ = some (.int .i64 L.toInt) ∧ x.cell? ⟨w.heap.size, 3, none⟩ = some (.int .i64 b)) ((go_simp)) ((go_at_call 125; refine (H1.out _).mono ?_; rintro e w1 ⟨rfl, rfl⟩))
  all_goals
    go_wp2_with fail
    refine bodyPost_ret (v := .agg #[.bool false, .int .i64 0, .int .i64 X2.toInt]) (by simp [results, Tryz.results150, go_sem]) rfl ⟨rfl, ?_⟩
    repeat (first | with_reducible exact Below.refl _ _ | (with_reducible refine Below.drew ?_) | (with_reducible refine Below.alloc ?_ ?_ _; rotate_left; (focus (first | omega | (simp; omega) | (simp; done)))) | (with_reducible refine Below.setCell ?_ ?_ _; rotate_left; (focus (first | omega | (simp; omega) | (simp; done)))))

end Go.Proofs.YtdbcdichmmcnbaaGreat

/-
  The specification's LastOf, by its plain twin; nothing old in memory turns.
-/
namespace Go.Proofs.YtdbcdichmmcnbaaGreat
open Go.RowKit

theorem l2Last_any (s : Bool) (H L : BitVec 64) (n : Nat) (b : Int) (hok : okB s H.toInt L.toInt = true) (hn : n ≤ wd s) (hb : b = (wd s : Int) - (n : Int)) (w : World) :
    Calls Tryz.prog 150 #[.agg #[.bool s, .int .i64 H.toInt, .int .i64 L.toInt, .int .i64 b]] w fun e w' => e = .returned (.agg #[.bool s, .int .i64 (fH n H).toInt, .int .i64 (fL n L).toInt]) ∧ Below w.heap.size w w' := by
  cases s
  · obtain ⟨rfl, hL⟩ := okB_four H L hok
    have hn' : n ≤ 32 := by simpa [wd] using hn
    have := l2Last_four L n b hn' (by simpa [wd] using hb) w
    have z : (fH n (0 : BitVec 64)) = 0 := by simp [fH, mh_32 n hn']
    rw [z]
    simpa using this
  · exact l2Last_six H L n b (by simpa [wd] using hn) (by simpa [wd] using hb) w

end Go.Proofs.YtdbcdichmmcnbaaGreat

/-
  The specification's l2Halves of a right prefix, by its plain twin; nothing old in memory turns.
-/
namespace Go.Proofs.YtdbcdichmmcnbaaGreat
open Go.RowKit

theorem wd_le'' (s : Bool) : wd s ≤ 128 := by cases s <;> decide
theorem okB_low (L : BitVec 64) (h : L.toNat < 4294967296) : okB false (0 : BitVec 64).toInt L.toInt = true := by
  have e := BitVec.toInt_eq_toNat_cond (x := L)
  have h1 : (0 : BitVec 64).toInt = 0 := by decide
  rw [h1]
  refine okB_yes _ ?_ ?_ <;> split at e <;> omega
theorem okB_fill (s : Bool) (H L : BitVec 64) (n : Nat) (hn : n ≤ wd s) (hok : okB s H.toInt L.toInt = true) : okB s (fH n H).toInt (fL n L).toInt = true := by
  cases s
  · obtain ⟨rfl, hL⟩ := okB_four H L hok
    have hn' : n ≤ 32 := by simpa [wd] using hn
    have z : (fH n (0 : BitVec 64)) = 0 := by simp [fH, mh_32 n hn']
    rw [z]
    exact okB_low _ (or_lt32 L _ hL (ml_lt n hn'))
  · exact okB_t _ _
theorem okB_clr (s : Bool) (H L : BitVec 64) (n : Nat) (hok : okB s H.toInt L.toInt = true) : okB s (cH n H).toInt (cL n L).toInt = true := by
  cases s
  · obtain ⟨rfl, hL⟩ := okB_four H L hok
    have z : (cH n (0 : BitVec 64)) = 0 := by simp [cH]
    rw [z]
    exact okB_low _ (and_lt32 L _ hL)
  · exact okB_t _ _

set_option maxHeartbeats 1000000 in
theorem l2Halves_any (s : Bool) (H L : BitVec 64) (b : Int) (k : Nat) (hn : (k : Int) + 1 = (wd s : Int) - b) (hok : okB s H.toInt L.toInt = true) (hb : 0 ≤ b) (w : World) :
    Calls Tryz.prog 127 #[.agg #[.bool s, .int .i64 H.toInt, .int .i64 L.toInt, .int .i64 b]] w fun e w' => e = .returned (.tuple #[.agg #[.bool s, .int .i64 H.toInt, .int .i64 L.toInt, .int .i64 (b + 1)], .agg #[.bool s, .int .i64 (cH k (fH (k + 1) H)).toInt, .int .i64 (cL k (fL (k + 1) L)).toInt, .int .i64 (b + 1)]]) ∧ Below w.heap.size w w' := by
  have hw := wd_le'' s
  have HL : Hid (∀ w, _) := l2Last_any s H L (k + 1) b hok (by omega) (by omega)
  have HM : Hid (∀ w, _) := l2Mask_any s (fH (k + 1) H) (fL (k + 1) L) k (b + 1) (okB_fill s H L (k + 1) (by omega) hok) (by omega) (by omega)
  have hw1 : wrap64 (b + 1) = b + 1 := by unfold wrap64; omega
  have hw2 : IntKind.i64.wrap (b + 1) = b + 1 := by rw [← w64]; exact hw1
  generalize cH k (fH (k + 1) H) = X1 at HM ⊢
  generalize cL k (fL (k + 1) L) = X2 at HM ⊢
  generalize fH (k + 1) H = F1 at HM HL
  generalize fL (k + 1) L = F2 at HM HL
  clear hn hok hw
  go_enter Tryz.func127, Tryz.ntmps127
  go_upto_region 2 with fail
  go_cut [5] (fun t5 X => ∃ r N : Nat, t5 = .pointer (some ⟨r, 0, none⟩) ∧ (X.cell? ⟨w.heap.size, 0, none⟩ = some (.bool s) ∧ X.cell? ⟨w.heap.size, 1, none⟩ = some (.int .i64 H.toInt) ∧ X.cell? ⟨w.heap.size, 2, none⟩ = some (.int .i64 L.toInt) ∧ X.cell? ⟨w.heap.size, 3, none⟩ = some (.int .i64 b)) ∧ (X.cell? ⟨w.heap.size + 3, 0, none⟩ = some (.bool s) ∧ X.cell? ⟨w.heap.size + 3, 1, none⟩ = some (.int .i64 H.toInt) ∧ X.cell? ⟨w.heap.size + 3, 2, none⟩ = some (.int .i64 L.toInt) ∧ X.cell? ⟨w.heap.size + 3, 3, none⟩ = some (.int .i64 (b + 1))) ∧ (X.cell? ⟨r, 0, none⟩ = some (.bool s) ∧ X.cell? ⟨r, 1, none⟩ = some (.int .i64 F1.toInt) ∧ X.cell? ⟨r, 2, none⟩ = some (.int .i64 F2.toInt)) ∧ (X.cell? ⟨w.heap.size + 1, 0, none⟩ = some (.bool false) ∧ X.cell? ⟨w.heap.size + 1, 1, none⟩ = some (.int .i64 0) ∧ X.cell? ⟨w.heap.size + 1, 2, none⟩ = some (.int .i64 0) ∧ X.cell? ⟨w.heap.size + 1, 3, none⟩ = some (.int .i64 0)) ∧ (X.cell? ⟨w.heap.size + 2, 0, none⟩ = some (.bool false) ∧ X.cell? ⟨w.heap.size + 2, 1, none⟩ = some (.int .i64 0) ∧ X.cell? ⟨w.heap.size + 2, 2, none⟩ = some (.int .i64 0) ∧ X.cell? ⟨w.heap.size + 2, 3, none⟩ = some (.int .i64 0)) ∧ (X.frozen? ⟨w.heap.size + 1, 0, none⟩ = false ∧ X.frozen? ⟨w.heap.size + 1, 1, none⟩ = false ∧ X.frozen? ⟨w.heap.size + 1, 2, none⟩ = false ∧ X.frozen? ⟨w.heap.size + 1, 3, none⟩ = false) ∧ (X.frozen? ⟨w.heap.size + 2, 0, none⟩ = false ∧ X.frozen? ⟨w.heap.size + 2, 1, none⟩ = false ∧ X.frozen? ⟨w.heap.size + 2, 2, none⟩ = false ∧ X.frozen? ⟨w.heap.size + 2, 3, none⟩ = false) ∧ w.heap.size + 3 < r ∧ X.heap.size = N ∧ r < N ∧ Below w.heap.size w X)
  case first =>
    go_wp2_with fail
    refine (HL.out _).mono ?_
    rintro e w1 ⟨rfl, hb1⟩
    have hz1 := hb1.size
    try simp at hz1
    have f10 : w.heap.size < w1.heap.size := by omega
    have f11 : w.heap.size + 1 < w1.heap.size := by omega
    have f12 : w.heap.size + 2 < w1.heap.size := by omega
    have f13 : w.heap.size + 3 < w1.heap.size := by omega
    refine olds_k (w.heap.size + 4) hb1 ?_ ?_
    · first | omega | (simp; omega) | (simp; done)
    intro hc1 hf1
    go_wp2_with fail
    go_meet
    refine ⟨_, _, rfl, ⟨?_, ?_, ?_, ?_⟩, ⟨?_, ?_, ?_, ?_⟩, ⟨?_, ?_, ?_⟩, ⟨?_, ?_, ?_, ?_⟩, ⟨?_, ?_, ?_, ?_⟩, ⟨?_, ?_, ?_, ?_⟩, ⟨?_, ?_, ?_, ?_⟩, ?_, rfl, ?_, ?_⟩
    all_goals try (go_simp; done)
    all_goals try omega
    all_goals try (simp; omega)
    repeat (first | with_reducible exact Below.refl _ _ | (with_reducible refine Below.drew ?_) | (with_reducible refine Below.alloc ?_ ?_ _; rotate_left; (focus (first | omega | (simp; omega) | (simp; done)))) | (with_reducible refine Below.setCell ?_ ?_ _; rotate_left; (focus (first | omega | (simp; omega) | (simp; done)))) | (with_reducible refine Below.trans ?_ (hb1.mono ?_); rotate_left; (focus (first | omega | (simp; omega) | (simp; done)))))
  case rest =>
    obtain ⟨r, N, rfl, ⟨a0, a1, a2, a3⟩, ⟨b0, b1, b2, b3⟩, ⟨r0, r1, r2⟩, ⟨c0, c1, c2, c3⟩, ⟨d0, d1, d2, d3⟩, ⟨g0, g1, g2, g3⟩, ⟨h0, h1, h2, h3⟩, m1, hN, m3, hX⟩ := hcut
    go_wp2_with fail
    have np1 : w.heap.size + 1 ≠ r := by omega
    have np2 : w.heap.size + 2 ≠ r := by omega
    have e0 : w.heap.size < N := by omega
    have e1 : w.heap.size + 1 < N := by omega
    have e2 : w.heap.size + 2 < N := by omega
    have e3 : w.heap.size + 3 < N := by omega
    go_region_held3 (fun x => x.cell? ⟨w.heap.size, 0, none⟩ = some (.bool s) ∧ x.cell? ⟨w.heap.size, 1, none⟩ = some (.int .i64 H.toInt) ∧ x.cell? ⟨w.heap.size, 2, none⟩ = some (.int .i64 L.toInt) ∧ x.cell? ⟨w.heap.size, 3, none⟩ = some (.int .i64 b) ∧ x.cell? ⟨w.heap.size + 3, 0, none⟩ = some (.bool s) ∧ x.cell? ⟨w.heap.size + 3, 1, none⟩ = some (.int .i64 H.toInt) ∧ x.cell? ⟨w.heap.size + 3, 2, none⟩ = some (.int .i64 L.toInt) ∧ x.cell? ⟨w.heap.size + 3, 3, none⟩ = some (.int .i64 (b + 1)) ∧ x.cell? ⟨r, 0, none⟩ = some (.bool s) ∧ x.cell? ⟨r, 1, none⟩ = some (.int .i64 F1.toInt) ∧ x.cell? ⟨r, 2, none⟩ = some (.int .i64 F2.toInt)) ((repeat' apply And.intro) <;> (first | (go_simp; done) | (go_keep; done))) ((go_at_call 94; refine (HM.out _).mono ?_; rintro e w2 ⟨rfl, hb2⟩; have hz2 := hb2.size; (try simp at hz2); (refine ltk (w.heap.size + 1) (w2.heap.size) ?_ ?_; (focus omega); intro f21); (refine ltk (w.heap.size + 2) (w2.heap.size) ?_ ?_; (focus omega); intro f22); (refine olds_k N hb2 ?_ ?_; (focus (first | omega | (simp; omega) | (simp; done))); intro hc2 hf2)))
    all_goals
      go_wp2_with fail
      refine bodyPost_ret (v := .tuple #[.agg #[.bool s, .int .i64 H.toInt, .int .i64 L.toInt, .int .i64 (b + 1)], .agg #[.bool s, .int .i64 X1.toInt, .int .i64 X2.toInt, .int .i64 (b + 1)]]) (by simp [results, Tryz.results127, go_sem, hc2, c0, c1, c2, c3, d0, d1, d2, d3, e1, e2]) rfl ⟨rfl, ?_⟩
      repeat (first | with_reducible exact hX | (with_reducible refine Below.drew ?_) | (with_reducible refine Below.alloc ?_ ?_ _; rotate_left; (focus (first | omega | (simp; omega) | (simp; done)))) | (with_reducible refine Below.setCell ?_ ?_ _; rotate_left; (focus (first | omega | (simp; omega) | (simp; done)))) | (with_reducible refine Below.trans ?_ (hb2.mono ?_); rotate_left; (focus (first | omega | (simp; omega) | (simp; done)))))

end Go.Proofs.YtdbcdichmmcnbaaGreat
