/-
  The program's Overlaps, by its plain twin; nothing old in memory turns.
-/
import Derived.Test.YtmbmekcppmbokaaGreatBIWith
import Derived.Deep.RegionWith
import Derived.Deep.DeepCutAuto
namespace Go.Proofs.YtmbmekcppmbokaaGreat
open Go.RowKit

set_option maxHeartbeats 1000000 in
theorem iOverlaps_any (s : Bool) (H L : BitVec 64) (b : Int) (s' : Bool) (H' L' : BitVec 64) (b' : Int) (w : World) :
    Calls Tryz.prog 95 #[.agg #[.bool s, .int .i64 H.toInt, .int .i64 L.toInt, .int .i64 b], .agg #[.bool s', .int .i64 H'.toInt, .int .i64 L'.toInt, .int .i64 b']] w fun e w' => e = .returned (.bool (winB s H L b s' H' L' b' || winB s' H' L' b' s H L b)) ∧ Below w.heap.size w w' := by
  cases hp : pokB s H L b
  · rw [win_no1 hp, win_no2 hp, Bool.or_false]
    have HS : Hid (∀ w, _) := spanOf_no s H L b hp
    clear hp
    cases hq : pokB s' H' L' b'
    · have HT : Hid (∀ w, _) := spanOf_no s' H' L' b' hq
      clear hq
      go_enter Tryz.func95, Tryz.ntmps95
      go_wp2_with fail
      refine (HS.out _).mono ?_
      rintro e w1 ⟨rfl, hb1⟩
      have hz1 := hb1.size
      try simp at hz1
      have f10 : w.heap.size < w1.heap.size := by omega
      have f11 : w.heap.size + 1 < w1.heap.size := by omega
      refine olds_k (w.heap.size + 2) hb1 ?_ ?_
      · first | omega | (simp; omega) | (simp; done)
      intro hc1 hf1
      go_wp2_with fail
      refine (HT.out _).mono ?_
      rintro e w2 ⟨rfl, hb2⟩
      have hz2 := hb2.size
      try simp at hz2
      have f2x0 : w.heap.size < w2.heap.size := by omega
      have f2x1 : w.heap.size + 1 < w2.heap.size := by omega
      have f2x2 : w1.heap.size < w2.heap.size := by omega
      have f2x3 : w.heap.size + 1 < w1.heap.size + 1 := by omega
      refine olds_k (w1.heap.size + 1) hb2 ?_ ?_
      · first | omega | (simp; omega) | (simp; done)
      intro hc2 hf2
      go_wp2_with fail
      go_ret
      refine ⟨rfl, ?_⟩
      repeat (first | with_reducible exact Below.refl _ _ | (with_reducible refine Below.drew ?_) | (with_reducible refine Below.alloc ?_ ?_ _; rotate_left; (focus (first | omega | (simp; omega) | (simp; done)))) | (with_reducible refine Below.setCell ?_ ?_ _; rotate_left; (focus (first | omega | (simp; omega) | (simp; done)))) | (with_reducible refine Below.trans ?_ (hb2.mono ?_); rotate_left; (focus (first | omega | (simp; omega) | (simp; done)))) | (with_reducible refine Below.trans ?_ (hb1.mono ?_); rotate_left; (focus (first | omega | (simp; omega) | (simp; done)))))
    · obtain ⟨m, hm⟩ : ∃ m : Nat, (m : Int) = (wd s' : Int) - b' := ⟨((wd s' : Int) - b').toNat, by have := (pokB_parts hq).2.1; omega⟩
      have HT : Hid (∀ w, _) := spanOf_yes s' H' L' b' m hm hq
      clear hq hm
      go_enter Tryz.func95, Tryz.ntmps95
      go_wp2_with fail
      refine (HS.out _).mono ?_
      rintro e w1 ⟨rfl, hb1⟩
      have hz1 := hb1.size
      try simp at hz1
      have f10 : w.heap.size < w1.heap.size := by omega
      have f11 : w.heap.size + 1 < w1.heap.size := by omega
      refine olds_k (w.heap.size + 2) hb1 ?_ ?_
      · first | omega | (simp; omega) | (simp; done)
      intro hc1 hf1
      go_wp2_with fail
      refine (HT.out _).mono ?_
      rintro e w2 ⟨rfl, hb2⟩
      have hz2 := hb2.size
      try simp at hz2
      have f2x0 : w.heap.size < w2.heap.size := by omega
      have f2x1 : w.heap.size + 1 < w2.heap.size := by omega
      have f2x2 : w1.heap.size < w2.heap.size := by omega
      have f2x3 : w.heap.size + 1 < w1.heap.size + 1 := by omega
      refine olds_k (w1.heap.size + 1) hb2 ?_ ?_
      · first | omega | (simp; omega) | (simp; done)
      intro hc2 hf2
      go_wp2_with fail
      go_ret
      refine ⟨rfl, ?_⟩
      repeat (first | with_reducible exact Below.refl _ _ | (with_reducible refine Below.drew ?_) | (with_reducible refine Below.alloc ?_ ?_ _; rotate_left; (focus (first | omega | (simp; omega) | (simp; done)))) | (with_reducible refine Below.setCell ?_ ?_ _; rotate_left; (focus (first | omega | (simp; omega) | (simp; done)))) | (with_reducible refine Below.trans ?_ (hb2.mono ?_); rotate_left; (focus (first | omega | (simp; omega) | (simp; done)))) | (with_reducible refine Below.trans ?_ (hb1.mono ?_); rotate_left; (focus (first | omega | (simp; omega) | (simp; done)))))
  · obtain ⟨n, hn⟩ : ∃ n : Nat, (n : Int) = (wd s : Int) - b := ⟨((wd s : Int) - b).toNat, by have := (pokB_parts hp).2.1; omega⟩
    have HS : Hid (∀ w, _) := spanOf_yes s H L b n hn hp
    cases hq : pokB s' H' L' b'
    · rw [win_no2 hq, win_no1 hq, Bool.or_false]
      have HT : Hid (∀ w, _) := spanOf_no s' H' L' b' hq
      clear hq hp hn
      go_enter Tryz.func95, Tryz.ntmps95
      go_wp2_with fail
      refine (HS.out _).mono ?_
      rintro e w1 ⟨rfl, hb1⟩
      have hz1 := hb1.size
      try simp at hz1
      have f10 : w.heap.size < w1.heap.size := by omega
      have f11 : w.heap.size + 1 < w1.heap.size := by omega
      refine olds_k (w.heap.size + 2) hb1 ?_ ?_
      · first | omega | (simp; omega) | (simp; done)
      intro hc1 hf1
      go_wp2_with fail
      refine (HT.out _).mono ?_
      rintro e w2 ⟨rfl, hb2⟩
      have hz2 := hb2.size
      try simp at hz2
      have f2x0 : w.heap.size < w2.heap.size := by omega
      have f2x1 : w.heap.size + 1 < w2.heap.size := by omega
      have f2x2 : w1.heap.size < w2.heap.size := by omega
      have f2x3 : w.heap.size + 1 < w1.heap.size + 1 := by omega
      refine olds_k (w1.heap.size + 1) hb2 ?_ ?_
      · first | omega | (simp; omega) | (simp; done)
      intro hc2 hf2
      go_wp2_with fail
      go_ret
      refine ⟨rfl, ?_⟩
      repeat (first | with_reducible exact Below.refl _ _ | (with_reducible refine Below.drew ?_) | (with_reducible refine Below.alloc ?_ ?_ _; rotate_left; (focus (first | omega | (simp; omega) | (simp; done)))) | (with_reducible refine Below.setCell ?_ ?_ _; rotate_left; (focus (first | omega | (simp; omega) | (simp; done)))) | (with_reducible refine Below.trans ?_ (hb2.mono ?_); rotate_left; (focus (first | omega | (simp; omega) | (simp; done)))) | (with_reducible refine Below.trans ?_ (hb1.mono ?_); rotate_left; (focus (first | omega | (simp; omega) | (simp; done)))))
    · obtain ⟨m, hm⟩ : ∃ m : Nat, (m : Int) = (wd s' : Int) - b' := ⟨((wd s' : Int) - b').toNat, by have := (pokB_parts hq).2.1; omega⟩
      rw [win_with hp hq hn hm, win_with hq hp hm hn]
      have hn1 : n ≤ 128 := by have := wd_le' s; have := (pokB_parts hp).2.1; omega
      have hm1 : m ≤ 128 := by have := wd_le' s'; have := (pokB_parts hq).2.1; omega
      have HT : Hid (∀ w, _) := spanOf_yes s' H' L' b' m hm hq
      have HW : Hid (∀ w, _) := overlaps_any s H L n hn1 s' H' L' m hm1
      generalize (withB s H L n s' H' L' m || withB s' H' L' m s H L n) = B1 at HW ⊢
      clear hq hm hp hn
      go_enter Tryz.func95, Tryz.ntmps95
      go_wp2_with fail
      refine (HS.out _).mono ?_
      rintro e w1 ⟨rfl, hb1⟩
      have hz1 := hb1.size
      try simp at hz1
      have f10 : w.heap.size < w1.heap.size := by omega
      have f11 : w.heap.size + 1 < w1.heap.size := by omega
      refine olds_k (w.heap.size + 2) hb1 ?_ ?_
      · first | omega | (simp; omega) | (simp; done)
      intro hc1 hf1
      go_wp2_with fail
      refine (HT.out _).mono ?_
      rintro e w2 ⟨rfl, hb2⟩
      have hz2 := hb2.size
      try simp at hz2
      have f2x0 : w.heap.size < w2.heap.size := by omega
      have f2x1 : w.heap.size + 1 < w2.heap.size := by omega
      have f2x2 : w1.heap.size < w2.heap.size := by omega
      have f2x3 : w.heap.size + 1 < w1.heap.size + 1 := by omega
      refine olds_k (w1.heap.size + 1) hb2 ?_ ?_
      · first | omega | (simp; omega) | (simp; done)
      intro hc2 hf2
      go_wp2_with fail
      refine (HW.out _).mono ?_
      rintro e w3 ⟨rfl, hb3⟩
      have hz3 := hb3.size
      try simp at hz3
      have f30 : w.heap.size < w3.heap.size := by omega
      have f31 : w.heap.size + 1 < w3.heap.size := by omega
      refine olds_k (w.heap.size + 2) hb3 ?_ ?_
      · first | omega | (simp; omega) | (simp; done)
      intro hc3 hf3
      go_wp2_with fail
      go_ret
      refine ⟨rfl, ?_⟩
      repeat (first | with_reducible exact Below.refl _ _ | (with_reducible refine Below.drew ?_) | (with_reducible refine Below.alloc ?_ ?_ _; rotate_left; (focus (first | omega | (simp; omega) | (simp; done)))) | (with_reducible refine Below.setCell ?_ ?_ _; rotate_left; (focus (first | omega | (simp; omega) | (simp; done)))) | (with_reducible refine Below.trans ?_ (hb3.mono ?_); rotate_left; (focus (first | omega | (simp; omega) | (simp; done)))) | (with_reducible refine Below.trans ?_ (hb2.mono ?_); rotate_left; (focus (first | omega | (simp; omega) | (simp; done)))) | (with_reducible refine Below.trans ?_ (hb1.mono ?_); rotate_left; (focus (first | omega | (simp; omega) | (simp; done)))))

end Go.Proofs.YtmbmekcppmbokaaGreat
