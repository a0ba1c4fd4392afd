/-
  The specification's PrefixOf of a right address and bits of its width, and its Above, each by its plain twin; nothing old in memory turns.
-/
import Derived.Test.YtgohffeneibhdaaMPok
import Derived.Deep.RegionWith
import Derived.Deep.DeepCutAuto
namespace Go.Proofs.Ytgohffeneibhdaa
open Go.RowKit

set_option maxHeartbeats 1000000 in
theorem sPrefixOf_yes (s : Bool) (H L : BitVec 64) (b : Int) (n : Nat) (hok : okB s H.toInt L.toInt = true) (hb : 0 ≤ b) (hn : b = (wd s : Int) - (n : Int)) (w : World) :
    Calls Try.prog 57 #[.agg #[.bool s, .int .i64 H.toInt, .int .i64 L.toInt], .int .i64 b] w fun e w' => e = .returned (.tuple #[.agg #[.bool s, .int .i64 (cH n H).toInt, .int .i64 (cL n L).toInt, .int .i64 (b)], .bool true]) ∧ Below w.heap.size w w' := by
  have hin : decide (0 ≤ b ∧ b ≤ (wd s : Int)) = true := decide_eq_true (by omega)
  have HM : Hid (∀ w, _) := l2Mask_any s H L n b hok (by omega) hn
  generalize cH n H = C1 at HM ⊢
  generalize cL n L = C2 at HM ⊢
  have HK : Hid (∀ w, _) := sAddrOk_any s H.toInt L.toInt
  rw [hok] at HK
  clear hok
  have HI : Hid (∀ w, _) := l1In_any b 0 (wd s)
  rw [hin] at HI
  clear hin
  clear hb hn
  go_enter Try.func57, Try.ntmps57
  go_wp2_with fail
  refine (HK.out _).mono ?_
  rintro e w1 ⟨rfl, hb1⟩
  have hz1 := hb1.size
  try simp at hz1
  have f10 : w.heap.size < w1.heap.size := by omega
  have f11 : w.heap.size + 1 < w1.heap.size := by omega
  refine olds_k (w.heap.size + 2) hb1 ?_ ?_
  · first | omega | (simp; omega) | (simp; done)
  intro hc1 hf1
  go_wp2_with fail
  refine (l2Width_any s H.toInt L.toInt _).mono ?_
  rintro e w2 ⟨rfl, hb2⟩
  have hz2 := hb2.size
  try simp at hz2
  have f20 : w.heap.size < w2.heap.size := by omega
  have f21 : w.heap.size + 1 < w2.heap.size := by omega
  refine olds_k (w.heap.size + 2) hb2 ?_ ?_
  · first | omega | (simp; omega) | (simp; done)
  intro hc2 hf2
  go_wp2_with fail
  refine (HI.out _).mono ?_
  rintro e w3 ⟨rfl, rfl⟩
  go_wp2_with fail
  refine (HM.out _).mono ?_
  rintro e w4 ⟨rfl, hb4⟩
  have hz4 := hb4.size
  try simp at hz4
  have f40 : w.heap.size < w4.heap.size := by omega
  have f41 : w.heap.size + 1 < w4.heap.size := by omega
  refine olds_k (w.heap.size + 2) hb4 ?_ ?_
  · first | omega | (simp; omega) | (simp; done)
  intro hc4 hf4
  go_wp2_with fail
  refine bodyPost_ret (v := .tuple #[.agg #[.bool s, .int .i64 C1.toInt, .int .i64 C2.toInt, .int .i64 (b)], .bool true]) (by simp [results, Try.results57, go_sem, hc1, hc2, hc4]) rfl ⟨rfl, ?_⟩
  repeat (first | with_reducible exact Below.refl _ _ | (with_reducible refine Below.drew ?_) | (with_reducible refine Below.alloc ?_ ?_ _; rotate_left; (focus (first | omega | (simp; omega) | (simp; done)))) | (with_reducible refine Below.setCell ?_ ?_ _; rotate_left; (focus (first | omega | (simp; omega) | (simp; done)))) | (with_reducible refine Below.trans ?_ (hb4.mono ?_); rotate_left; (focus (first | omega | (simp; omega) | (simp; done)))) | (with_reducible refine Below.trans ?_ (hb2.mono ?_); rotate_left; (focus (first | omega | (simp; omega) | (simp; done)))) | (with_reducible refine Below.trans ?_ (hb1.mono ?_); rotate_left; (focus (first | omega | (simp; omega) | (simp; done)))))

set_option maxHeartbeats 1000000 in
theorem sAbove_no (s : Bool) (H L : BitVec 64) (b : Int) (hp : pokB s H L b = false) (w : World) :
    Calls Try.prog 36 #[.agg #[.bool s, .int .i64 H.toInt, .int .i64 L.toInt, .int .i64 b]] w fun e w' => e = .returned (.tuple #[.agg #[.bool false, .int .i64 0, .int .i64 0, .int .i64 0], .bool false]) ∧ Below w.heap.size w w' := by
  have HP : Hid (∀ w, _) := sPrefixOk_any s H L b
  rw [hp] at HP
  clear hp
  go_enter Try.func36, Try.ntmps36
  go_wp2_with fail
  refine (HP.out _).mono ?_
  rintro e w1 ⟨rfl, hb1⟩
  have hz1 := hb1.size
  try simp at hz1
  have f10 : w.heap.size < w1.heap.size := by omega
  have f11 : w.heap.size + 1 < w1.heap.size := by omega
  refine olds_k (w.heap.size + 2) hb1 ?_ ?_
  · first | omega | (simp; omega) | (simp; done)
  intro hc1 hf1
  go_wp2_with fail
  refine bodyPost_ret (v := .tuple #[.agg #[.bool false, .int .i64 0, .int .i64 0, .int .i64 0], .bool false]) (by simp [results, Try.results36, go_sem, hc1]) rfl ⟨rfl, ?_⟩
  repeat (first | with_reducible exact Below.refl _ _ | (with_reducible refine Below.drew ?_) | (with_reducible refine Below.alloc ?_ ?_ _; rotate_left; (focus (first | omega | (simp; omega) | (simp; done)))) | (with_reducible refine Below.setCell ?_ ?_ _; rotate_left; (focus (first | omega | (simp; omega) | (simp; done)))) | (with_reducible refine Below.trans ?_ (hb1.mono ?_); rotate_left; (focus (first | omega | (simp; omega) | (simp; done)))))

set_option maxHeartbeats 1000000 in
theorem sAbove_all (s : Bool) (H L : BitVec 64) (hp : pokB s H L 0 = true) (w : World) :
    Calls Try.prog 36 #[.agg #[.bool s, .int .i64 H.toInt, .int .i64 L.toInt, .int .i64 0]] w fun e w' => e = .returned (.tuple #[.agg #[.bool false, .int .i64 0, .int .i64 0, .int .i64 0], .bool false]) ∧ Below w.heap.size w w' := by
  have HP : Hid (∀ w, _) := sPrefixOk_any s H L 0
  rw [hp] at HP
  clear hp
  go_enter Try.func36, Try.ntmps36
  go_wp2_with fail
  refine (HP.out _).mono ?_
  rintro e w1 ⟨rfl, hb1⟩
  have hz1 := hb1.size
  try simp at hz1
  have f10 : w.heap.size < w1.heap.size := by omega
  have f11 : w.heap.size + 1 < w1.heap.size := by omega
  refine olds_k (w.heap.size + 2) hb1 ?_ ?_
  · first | omega | (simp; omega) | (simp; done)
  intro hc1 hf1
  go_wp2_with fail
  refine bodyPost_ret (v := .tuple #[.agg #[.bool false, .int .i64 0, .int .i64 0, .int .i64 0], .bool false]) (by simp [results, Try.results36, go_sem, hc1]) rfl ⟨rfl, ?_⟩
  repeat (first | with_reducible exact Below.refl _ _ | (with_reducible refine Below.drew ?_) | (with_reducible refine Below.alloc ?_ ?_ _; rotate_left; (focus (first | omega | (simp; omega) | (simp; done)))) | (with_reducible refine Below.setCell ?_ ?_ _; rotate_left; (focus (first | omega | (simp; omega) | (simp; done)))) | (with_reducible refine Below.trans ?_ (hb1.mono ?_); rotate_left; (focus (first | omega | (simp; omega) | (simp; done)))))

set_option maxHeartbeats 1000000 in
theorem sAbove_yes (s : Bool) (H L : BitVec 64) (b : Int) (n : Nat) (hok : okB s H.toInt L.toInt = true) (hb : 0 < b) (hb1 : b ≤ 128) (hn : b - 1 = (wd s : Int) - ((n + 1 : Nat) : Int)) (hp : pokB s H L b = true) (w : World) :
    Calls Try.prog 36 #[.agg #[.bool s, .int .i64 H.toInt, .int .i64 L.toInt, .int .i64 b]] w fun e w' => e = .returned (.tuple #[.agg #[.bool s, .int .i64 (cH (n + 1) H).toInt, .int .i64 (cL (n + 1) L).toInt, .int .i64 (b - 1)], .bool true]) ∧ Below w.heap.size w w' := by
  have HF : Hid (∀ w, _) := sPrefixOf_yes s H L (b - 1) (n + 1) hok (by omega) hn
  have he : (b == 0) = false := by rw [beq_eq_false_iff_ne]; omega
  have hw1 : wrap64 (b - 1) = b - 1 := by unfold wrap64; omega
  have hw2 : IntKind.i64.wrap (b - 1) = b - 1 := by rw [← w64]; exact hw1
  generalize cH (n + 1) H = C1 at HF ⊢
  generalize cL (n + 1) L = C2 at HF ⊢
  have HP : Hid (∀ w, _) := sPrefixOk_any s H L b
  rw [hp] at HP
  clear hp
  clear hok hn
  go_enter Try.func36, Try.ntmps36
  go_wp2_with fail
  refine (HP.out _).mono ?_
  rintro e w1 ⟨rfl, hb1⟩
  have hz1 := hb1.size
  try simp at hz1
  have f10 : w.heap.size < w1.heap.size := by omega
  have f11 : w.heap.size + 1 < w1.heap.size := by omega
  refine olds_k (w.heap.size + 2) hb1 ?_ ?_
  · first | omega | (simp; omega) | (simp; done)
  intro hc1 hf1
  go_wp2_with fail
  refine (HF.out _).mono ?_
  rintro e w2 ⟨rfl, hb2⟩
  have hz2 := hb2.size
  try simp at hz2
  have f20 : w.heap.size < w2.heap.size := by omega
  have f21 : w.heap.size + 1 < w2.heap.size := by omega
  refine olds_k (w.heap.size + 2) hb2 ?_ ?_
  · first | omega | (simp; omega) | (simp; done)
  intro hc2 hf2
  go_wp2_with fail
  refine bodyPost_ret (v := .tuple #[.agg #[.bool s, .int .i64 C1.toInt, .int .i64 C2.toInt, .int .i64 (b - 1)], .bool true]) (by simp [results, Try.results36, go_sem, hc1, hc2]) rfl ⟨rfl, ?_⟩
  repeat (first | with_reducible exact Below.refl _ _ | (with_reducible refine Below.drew ?_) | (with_reducible refine Below.alloc ?_ ?_ _; rotate_left; (focus (first | omega | (simp; omega) | (simp; done)))) | (with_reducible refine Below.setCell ?_ ?_ _; rotate_left; (focus (first | omega | (simp; omega) | (simp; done)))) | (with_reducible refine Below.trans ?_ (hb2.mono ?_); rotate_left; (focus (first | omega | (simp; omega) | (simp; done)))) | (with_reducible refine Below.trans ?_ (hb1.mono ?_); rotate_left; (focus (first | omega | (simp; omega) | (simp; done)))))

end Go.Proofs.Ytgohffeneibhdaa
