/-
  What firstD_holds needs, part 2.
-/
import Derived.Test.YtnlnigelecmobaaZV1
import Derived.Deep.RegionWith
import Derived.Deep.DeepCutAuto
import Derived.Deep.RegionHeld3
import Derived.Deep.QuietTactic
import Derived.BigQuiet
import Derived.ProofKit
import Derived.Lib.SmallJoins
import Derived.RangeFuncNested
import Derived.RangeFuncBound
import Derived.RangeFuncCalls
import Derived.RangeFuncLeaves
import Derived.Shelf.Abstract
import Derived.Shelf.RegionOpen
import Derived.WalkKit
import Derived.OwnWalkIn
import Derived.TacticsInMore
import Derived.LoopNIn
import Derived.LoopIn
namespace Go.Proofs.Ytnlnigelecmobaa
open Go.RowKit

set_option maxHeartbeats 1000000 in
theorem sHasAddr_ft (H L : BitVec 64) (b : Int) (H' L' : BitVec 64) (hp : pokB false H L b = true) (hok : okB true H'.toInt L'.toInt = true) (w : World) :
    Calls Try.prog 53 #[.agg #[.bool false, .int .i64 H.toInt, .int .i64 L.toInt, .int .i64 b], .agg #[.bool true, .int .i64 H'.toInt, .int .i64 L'.toInt]] w fun e w' => e = .returned (.bool false) ∧ Below w.heap.size w w' := by
  have HP : Hid (∀ w, _) := sPrefixOk_any false H L b
  rw [hp] at HP
  clear hp
  have HK : Hid (∀ w, _) := sAddrOk_any true H'.toInt L'.toInt
  rw [hok] at HK
  clear hok
  go_enter Try.func53, Try.ntmps53
  go_wp2_with fail
  refine wp_region_held_drew (S := (fun x => x.cell? ⟨w.heap.size, 0, none⟩ = some (.bool false) ∧ x.cell? ⟨w.heap.size, 1, none⟩ = some (.int .i64 H.toInt) ∧ x.cell? ⟨w.heap.size, 2, none⟩ = some (.int .i64 L.toInt) ∧ x.cell? ⟨w.heap.size, 3, none⟩ = some (.int .i64 b) ∧ x.cell? ⟨w.heap.size + 1, 0, none⟩ = some (.bool true) ∧ x.cell? ⟨w.heap.size + 1, 1, none⟩ = some (.int .i64 H'.toInt) ∧ x.cell? ⟨w.heap.size + 1, 2, none⟩ = some (.int .i64 L'.toInt))) (by kernel_rfl) ?_ (fun hHeld => ?_)
  · try dsimp only
    (refine seven_of_below (W := (w.alloc (.cells #[.bool false, .int .i64 H.toInt, .int .i64 L.toInt, .int .i64 b] 27)).alloc (.cells #[.bool true, .int .i64 H'.toInt, .int .i64 L'.toInt] 25)) (n := w.heap.size + 2) ?_ (by omega) (by omega) ⟨by simp [go_sem], by simp [go_sem], by simp [go_sem], by simp [go_sem], by simp [go_sem], by simp [go_sem], by simp [go_sem]⟩; repeat (first | with_reducible exact Below.refl _ _ | (with_reducible refine Below.drew ?_) | (with_reducible refine Below.alloc ?_ ?_ _; rotate_left; (focus (first | omega | (simp; omega) | (simp; done)))) | (with_reducible refine Below.setCell ?_ ?_ _; rotate_left; (focus (first | omega | (simp; omega) | (simp; done))))))
  refine tk 0 5 rfl ?_; simp only [pa]
  refine wpAnyH_ready (rs := [1]) (by kernel_rfl) (by simp) ?_
  refine AllReadyH.cons rfl (fun K hK => ?_) AllReadyH.nil
  go_simp
  go_wp2_with ((go_at_call 33; refine (HP.out _).mono ?_; rintro e w1 ⟨rfl, hb1⟩; have hz1 := hb1.size; (try simp at hz1); (first | (refine ltk (w.heap.size) (w1.heap.size) ?_ ?_; (focus omega); intro f10) | skip); (first | (refine ltk (w.heap.size + 1) (w1.heap.size) ?_ ?_; (focus omega); intro f11) | skip); (refine olds_k (w.heap.size + 2) hb1 ?_ ?_; (focus (first | omega | (simp; omega) | (simp; done))); intro hc1 hf1)))
  refine hK.out _ _ ?_ (fun hHeld => ?_)
  · try dsimp only
    (refine seven_of_below (W := (w.alloc (.cells #[.bool false, .int .i64 H.toInt, .int .i64 L.toInt, .int .i64 b] 27)).alloc (.cells #[.bool true, .int .i64 H'.toInt, .int .i64 L'.toInt] 25)) (n := w.heap.size + 2) ?_ (by omega) (by omega) ⟨by simp [go_sem], by simp [go_sem], by simp [go_sem], by simp [go_sem], by simp [go_sem], by simp [go_sem], by simp [go_sem]⟩; repeat (first | with_reducible exact Below.refl _ _ | (with_reducible refine Below.drew ?_) | (with_reducible refine Below.alloc ?_ ?_ _; rotate_left; (focus (first | omega | (simp; omega) | (simp; done)))) | (with_reducible refine Below.setCell ?_ ?_ _; rotate_left; (focus (first | omega | (simp; omega) | (simp; done)))) | (with_reducible refine Below.trans ?_ (hb1.mono ?_); rotate_left; (focus (first | omega | (simp; omega) | (simp; done))))))
  clear hK K
  refine tk 2 7 rfl ?_; simp only [pa]
  refine tk 3 8 rfl ?_; simp only [pa]
  refine wpAnyH_ready (rs := [4]) (by kernel_rfl) (by simp) ?_
  refine AllReadyH.cons rfl (fun K hK => ?_) AllReadyH.nil
  go_simp
  go_wp2_with ((go_at_call 51; refine (HK.out _).mono ?_; rintro e w2 ⟨rfl, hb2⟩; have hz2 := hb2.size; (try simp at hz2); (first | (refine ltk (w.heap.size) (w2.heap.size) ?_ ?_; (focus omega); intro f20) | skip); (first | (refine ltk (w.heap.size + 1) (w2.heap.size) ?_ ?_; (focus omega); intro f21) | skip); (refine olds_k (w.heap.size + 2) hb2 ?_ ?_; (focus (first | omega | (simp; omega) | (simp; done))); intro hc2 hf2)))
  refine hK.out _ _ ?_ (fun hHeld => ?_)
  · try dsimp only
    (refine seven_of_below (W := (w.alloc (.cells #[.bool false, .int .i64 H.toInt, .int .i64 L.toInt, .int .i64 b] 27)).alloc (.cells #[.bool true, .int .i64 H'.toInt, .int .i64 L'.toInt] 25)) (n := w.heap.size + 2) ?_ (by omega) (by omega) ⟨by simp [go_sem], by simp [go_sem], by simp [go_sem], by simp [go_sem], by simp [go_sem], by simp [go_sem], by simp [go_sem]⟩; repeat (first | with_reducible exact Below.refl _ _ | (with_reducible refine Below.drew ?_) | (with_reducible refine Below.alloc ?_ ?_ _; rotate_left; (focus (first | omega | (simp; omega) | (simp; done)))) | (with_reducible refine Below.setCell ?_ ?_ _; rotate_left; (focus (first | omega | (simp; omega) | (simp; done)))) | (with_reducible refine Below.trans ?_ (hb2.mono ?_); rotate_left; (focus (first | omega | (simp; omega) | (simp; done)))) | (with_reducible refine Below.trans ?_ (hb1.mono ?_); rotate_left; (focus (first | omega | (simp; omega) | (simp; done))))))
  clear hK K
  refine tk 5 10 rfl ?_; simp only [pa]
  refine tk 6 11 rfl ?_; simp only [pa]
  refine tk 7 12 rfl ?_; simp only [pa]
  refine tk 8 13 rfl ?_; simp only [pa]
  refine tk 9 14 rfl ?_; simp only [pa]
  refine tk 10 15 rfl ?_; simp only [pa]
  refine tk 11 16 rfl ?_; simp only [pa]
  refine tk 12 17 rfl ?_; simp only [pa]
  refine tk 13 18 rfl ?_; simp only [pa]
  refine tk 14 19 rfl ?_; simp only [pa]
  refine sk 15 20 rfl ?_; simp only [pa]
  refine sk 16 21 rfl ?_; simp only [pa]
  refine sk 17 22 rfl ?_; simp only [pa]
  refine sk 19 24 rfl ?_; simp only [pa]
  refine sk 20 25 rfl ?_; simp only [pa]
  refine wpAnyH_ready (rs := [18]) (by kernel_rfl) (by simp) ?_
  refine AllReadyH.cons rfl (fun K hK => ?_) AllReadyH.nil
  go_simp
  refine hK.out _ _ ?_ (fun hHeld => ?_)
  · try dsimp only
    (refine seven_of_below (W := (w.alloc (.cells #[.bool false, .int .i64 H.toInt, .int .i64 L.toInt, .int .i64 b] 27)).alloc (.cells #[.bool true, .int .i64 H'.toInt, .int .i64 L'.toInt] 25)) (n := w.heap.size + 2) ?_ (by omega) (by omega) ⟨by simp [go_sem], by simp [go_sem], by simp [go_sem], by simp [go_sem], by simp [go_sem], by simp [go_sem], by simp [go_sem]⟩; repeat (first | with_reducible exact Below.refl _ _ | (with_reducible refine Below.drew ?_) | (with_reducible refine Below.alloc ?_ ?_ _; rotate_left; (focus (first | omega | (simp; omega) | (simp; done)))) | (with_reducible refine Below.setCell ?_ ?_ _; rotate_left; (focus (first | omega | (simp; omega) | (simp; done)))) | (with_reducible refine Below.trans ?_ (hb2.mono ?_); rotate_left; (focus (first | omega | (simp; omega) | (simp; done)))) | (with_reducible refine Below.trans ?_ (hb1.mono ?_); rotate_left; (focus (first | omega | (simp; omega) | (simp; done))))))
  clear hK K
  refine sk 21 26 rfl ?_; simp only [pa]
  refine tk 22 27 rfl ?_; simp only [pa]
  refine tk 23 4 rfl ?_; simp only [pa]
  refine wpAnyH_done (by kernel_rfl) ?_ _
  go_wp2_with fail
  go_ret
  refine ⟨rfl, ?_⟩
  repeat (first | with_reducible exact Below.refl _ _ | (with_reducible refine Below.drew ?_) | (with_reducible refine Below.alloc ?_ ?_ _; rotate_left; (focus (first | omega | (simp; omega) | (simp; done)))) | (with_reducible refine Below.setCell ?_ ?_ _; rotate_left; (focus (first | omega | (simp; omega) | (simp; done)))) | (with_reducible refine Below.trans ?_ (hb2.mono ?_); rotate_left; (focus (first | omega | (simp; omega) | (simp; done)))) | (with_reducible refine Below.trans ?_ (hb1.mono ?_); rotate_left; (focus (first | omega | (simp; omega) | (simp; done)))))

set_option maxHeartbeats 1000000 in
theorem sHasAddr_tf (H L : BitVec 64) (b : Int) (H' L' : BitVec 64) (hp : pokB true H L b = true) (hok : okB false H'.toInt L'.toInt = true) (w : World) :
    Calls Try.prog 53 #[.agg #[.bool true, .int .i64 H.toInt, .int .i64 L.toInt, .int .i64 b], .agg #[.bool false, .int .i64 H'.toInt, .int .i64 L'.toInt]] w fun e w' => e = .returned (.bool false) ∧ Below w.heap.size w w' := by
  have HP : Hid (∀ w, _) := sPrefixOk_any true H L b
  rw [hp] at HP
  clear hp
  have HK : Hid (∀ w, _) := sAddrOk_any false H'.toInt L'.toInt
  rw [hok] at HK
  clear hok
  go_enter Try.func53, Try.ntmps53
  go_wp2_with fail
  refine wp_region_held_drew (S := (fun x => x.cell? ⟨w.heap.size, 0, none⟩ = some (.bool true) ∧ x.cell? ⟨w.heap.size, 1, none⟩ = some (.int .i64 H.toInt) ∧ x.cell? ⟨w.heap.size, 2, none⟩ = some (.int .i64 L.toInt) ∧ x.cell? ⟨w.heap.size, 3, none⟩ = some (.int .i64 b) ∧ x.cell? ⟨w.heap.size + 1, 0, none⟩ = some (.bool false) ∧ x.cell? ⟨w.heap.size + 1, 1, none⟩ = some (.int .i64 H'.toInt) ∧ x.cell? ⟨w.heap.size + 1, 2, none⟩ = some (.int .i64 L'.toInt))) (by kernel_rfl) ?_ (fun hHeld => ?_)
  · try dsimp only
    (refine seven_of_below (W := (w.alloc (.cells #[.bool true, .int .i64 H.toInt, .int .i64 L.toInt, .int .i64 b] 27)).alloc (.cells #[.bool false, .int .i64 H'.toInt, .int .i64 L'.toInt] 25)) (n := w.heap.size + 2) ?_ (by omega) (by omega) ⟨by simp [go_sem], by simp [go_sem], by simp [go_sem], by simp [go_sem], by simp [go_sem], by simp [go_sem], by simp [go_sem]⟩; repeat (first | with_reducible exact Below.refl _ _ | (with_reducible refine Below.drew ?_) | (with_reducible refine Below.alloc ?_ ?_ _; rotate_left; (focus (first | omega | (simp; omega) | (simp; done)))) | (with_reducible refine Below.setCell ?_ ?_ _; rotate_left; (focus (first | omega | (simp; omega) | (simp; done))))))
  refine tk 0 5 rfl ?_; simp only [pa]
  refine wpAnyH_ready (rs := [1]) (by kernel_rfl) (by simp) ?_
  refine AllReadyH.cons rfl (fun K hK => ?_) AllReadyH.nil
  go_simp
  go_wp2_with ((go_at_call 33; refine (HP.out _).mono ?_; rintro e w1 ⟨rfl, hb1⟩; have hz1 := hb1.size; (try simp at hz1); (first | (refine ltk (w.heap.size) (w1.heap.size) ?_ ?_; (focus omega); intro f10) | skip); (first | (refine ltk (w.heap.size + 1) (w1.heap.size) ?_ ?_; (focus omega); intro f11) | skip); (refine olds_k (w.heap.size + 2) hb1 ?_ ?_; (focus (first | omega | (simp; omega) | (simp; done))); intro hc1 hf1)))
  refine hK.out _ _ ?_ (fun hHeld => ?_)
  · try dsimp only
    (refine seven_of_below (W := (w.alloc (.cells #[.bool true, .int .i64 H.toInt, .int .i64 L.toInt, .int .i64 b] 27)).alloc (.cells #[.bool false, .int .i64 H'.toInt, .int .i64 L'.toInt] 25)) (n := w.heap.size + 2) ?_ (by omega) (by omega) ⟨by simp [go_sem], by simp [go_sem], by simp [go_sem], by simp [go_sem], by simp [go_sem], by simp [go_sem], by simp [go_sem]⟩; repeat (first | with_reducible exact Below.refl _ _ | (with_reducible refine Below.drew ?_) | (with_reducible refine Below.alloc ?_ ?_ _; rotate_left; (focus (first | omega | (simp; omega) | (simp; done)))) | (with_reducible refine Below.setCell ?_ ?_ _; rotate_left; (focus (first | omega | (simp; omega) | (simp; done)))) | (with_reducible refine Below.trans ?_ (hb1.mono ?_); rotate_left; (focus (first | omega | (simp; omega) | (simp; done))))))
  clear hK K
  refine tk 2 7 rfl ?_; simp only [pa]
  refine tk 3 8 rfl ?_; simp only [pa]
  refine wpAnyH_ready (rs := [4]) (by kernel_rfl) (by simp) ?_
  refine AllReadyH.cons rfl (fun K hK => ?_) AllReadyH.nil
  go_simp
  go_wp2_with ((go_at_call 51; refine (HK.out _).mono ?_; rintro e w2 ⟨rfl, hb2⟩; have hz2 := hb2.size; (try simp at hz2); (first | (refine ltk (w.heap.size) (w2.heap.size) ?_ ?_; (focus omega); intro f20) | skip); (first | (refine ltk (w.heap.size + 1) (w2.heap.size) ?_ ?_; (focus omega); intro f21) | skip); (refine olds_k (w.heap.size + 2) hb2 ?_ ?_; (focus (first | omega | (simp; omega) | (simp; done))); intro hc2 hf2)))
  refine hK.out _ _ ?_ (fun hHeld => ?_)
  · try dsimp only
    (refine seven_of_below (W := (w.alloc (.cells #[.bool true, .int .i64 H.toInt, .int .i64 L.toInt, .int .i64 b] 27)).alloc (.cells #[.bool false, .int .i64 H'.toInt, .int .i64 L'.toInt] 25)) (n := w.heap.size + 2) ?_ (by omega) (by omega) ⟨by simp [go_sem], by simp [go_sem], by simp [go_sem], by simp [go_sem], by simp [go_sem], by simp [go_sem], by simp [go_sem]⟩; repeat (first | with_reducible exact Below.refl _ _ | (with_reducible refine Below.drew ?_) | (with_reducible refine Below.alloc ?_ ?_ _; rotate_left; (focus (first | omega | (simp; omega) | (simp; done)))) | (with_reducible refine Below.setCell ?_ ?_ _; rotate_left; (focus (first | omega | (simp; omega) | (simp; done)))) | (with_reducible refine Below.trans ?_ (hb2.mono ?_); rotate_left; (focus (first | omega | (simp; omega) | (simp; done)))) | (with_reducible refine Below.trans ?_ (hb1.mono ?_); rotate_left; (focus (first | omega | (simp; omega) | (simp; done))))))
  clear hK K
  refine tk 5 10 rfl ?_; simp only [pa]
  refine tk 6 11 rfl ?_; simp only [pa]
  refine tk 7 12 rfl ?_; simp only [pa]
  refine tk 8 13 rfl ?_; simp only [pa]
  refine tk 9 14 rfl ?_; simp only [pa]
  refine tk 10 15 rfl ?_; simp only [pa]
  refine tk 11 16 rfl ?_; simp only [pa]
  refine tk 12 17 rfl ?_; simp only [pa]
  refine tk 13 18 rfl ?_; simp only [pa]
  refine tk 14 19 rfl ?_; simp only [pa]
  refine sk 15 20 rfl ?_; simp only [pa]
  refine sk 16 21 rfl ?_; simp only [pa]
  refine sk 17 22 rfl ?_; simp only [pa]
  refine sk 19 24 rfl ?_; simp only [pa]
  refine sk 20 25 rfl ?_; simp only [pa]
  refine wpAnyH_ready (rs := [18]) (by kernel_rfl) (by simp) ?_
  refine AllReadyH.cons rfl (fun K hK => ?_) AllReadyH.nil
  go_simp
  refine hK.out _ _ ?_ (fun hHeld => ?_)
  · try dsimp only
    (refine seven_of_below (W := (w.alloc (.cells #[.bool true, .int .i64 H.toInt, .int .i64 L.toInt, .int .i64 b] 27)).alloc (.cells #[.bool false, .int .i64 H'.toInt, .int .i64 L'.toInt] 25)) (n := w.heap.size + 2) ?_ (by omega) (by omega) ⟨by simp [go_sem], by simp [go_sem], by simp [go_sem], by simp [go_sem], by simp [go_sem], by simp [go_sem], by simp [go_sem]⟩; repeat (first | with_reducible exact Below.refl _ _ | (with_reducible refine Below.drew ?_) | (with_reducible refine Below.alloc ?_ ?_ _; rotate_left; (focus (first | omega | (simp; omega) | (simp; done)))) | (with_reducible refine Below.setCell ?_ ?_ _; rotate_left; (focus (first | omega | (simp; omega) | (simp; done)))) | (with_reducible refine Below.trans ?_ (hb2.mono ?_); rotate_left; (focus (first | omega | (simp; omega) | (simp; done)))) | (with_reducible refine Below.trans ?_ (hb1.mono ?_); rotate_left; (focus (first | omega | (simp; omega) | (simp; done))))))
  clear hK K
  refine sk 21 26 rfl ?_; simp only [pa]
  refine tk 22 27 rfl ?_; simp only [pa]
  refine tk 23 4 rfl ?_; simp only [pa]
  refine wpAnyH_done (by kernel_rfl) ?_ _
  go_wp2_with fail
  go_ret
  refine ⟨rfl, ?_⟩
  repeat (first | with_reducible exact Below.refl _ _ | (with_reducible refine Below.drew ?_) | (with_reducible refine Below.alloc ?_ ?_ _; rotate_left; (focus (first | omega | (simp; omega) | (simp; done)))) | (with_reducible refine Below.setCell ?_ ?_ _; rotate_left; (focus (first | omega | (simp; omega) | (simp; done)))) | (with_reducible refine Below.trans ?_ (hb2.mono ?_); rotate_left; (focus (first | omega | (simp; omega) | (simp; done)))) | (with_reducible refine Below.trans ?_ (hb1.mono ?_); rotate_left; (focus (first | omega | (simp; omega) | (simp; done)))))

set_option maxHeartbeats 1000000 in
theorem sHasAddr_same (s : Bool) (H L : BitVec 64) (b : Int) (n : Nat) (H' L' : BitVec 64) (hp : pokB s H L b = true) (hok : okB s H'.toInt L'.toInt = true) (hn : n ≤ wd s) (hb : b = (wd s : Int) - (n : Int)) (w : World) :
    Calls Try.prog 53 #[.agg #[.bool s, .int .i64 H.toInt, .int .i64 L.toInt, .int .i64 b], .agg #[.bool s, .int .i64 H'.toInt, .int .i64 L'.toInt]] w fun e w' => e = .returned (.bool (hasB s H L n s H' L')) ∧ Below w.heap.size w w' := by
  have HM : Hid (∀ w, _) := l2Mask_any s H' L' n b hok hn hb
  have hq := hasEq s H L n s H' L'
  have HP : Hid (∀ w, _) := sPrefixOk_any s H L b
  rw [hp] at HP
  clear hp
  have HK : Hid (∀ w, _) := sAddrOk_any s H'.toInt L'.toInt
  rw [hok] at HK
  clear hok
  clear hn hb
  generalize hasB s H L n s H' L' = B at hq ⊢
  go_enter Try.func53, Try.ntmps53
  go_wp2_with fail
  go_region_held3 (fun x => x.cell? ⟨w.heap.size, 0, none⟩ = some (.bool s) ∧ x.cell? ⟨w.heap.size, 1, none⟩ = some (.int .i64 H.toInt) ∧ x.cell? ⟨w.heap.size, 2, none⟩ = some (.int .i64 L.toInt) ∧ x.cell? ⟨w.heap.size, 3, none⟩ = some (.int .i64 b) ∧ x.cell? ⟨w.heap.size + 1, 0, none⟩ = some (.bool s) ∧ x.cell? ⟨w.heap.size + 1, 1, none⟩ = some (.int .i64 H'.toInt) ∧ x.cell? ⟨w.heap.size + 1, 2, none⟩ = some (.int .i64 L'.toInt)) ((refine seven_of_below (W := (w.alloc (.cells #[.bool s, .int .i64 H.toInt, .int .i64 L.toInt, .int .i64 b] 27)).alloc (.cells #[.bool s, .int .i64 H'.toInt, .int .i64 L'.toInt] 25)) (n := w.heap.size + 2) ?_ (by omega) (by omega) ⟨by simp [go_sem], by simp [go_sem], by simp [go_sem], by simp [go_sem], by simp [go_sem], by simp [go_sem], by simp [go_sem]⟩; repeat (first | with_reducible exact Below.refl _ _ | (with_reducible refine Below.drew ?_) | (with_reducible refine Below.alloc ?_ ?_ _; rotate_left; (focus (first | omega | (simp; omega) | (simp; done)))) | (with_reducible refine Below.setCell ?_ ?_ _; rotate_left; (focus (first | omega | (simp; omega) | (simp; done)))) | (with_reducible refine Below.trans ?_ (hb3.mono ?_); rotate_left; (focus (first | omega | (simp; omega) | (simp; done)))) | (with_reducible refine Below.trans ?_ (hb2.mono ?_); rotate_left; (focus (first | omega | (simp; omega) | (simp; done)))) | (with_reducible refine Below.trans ?_ (hb1.mono ?_); rotate_left; (focus (first | omega | (simp; omega) | (simp; done))))))) (first | (go_at_call 33; refine (HP.out _).mono ?_; rintro e w1 ⟨rfl, hb1⟩; have hz1 := hb1.size; (try simp at hz1); (first | (refine ltk (w.heap.size) (w1.heap.size) ?_ ?_; (focus omega); intro f10) | skip); (first | (refine ltk (w.heap.size + 1) (w1.heap.size) ?_ ?_; (focus omega); intro f11) | skip); (refine olds_k (w.heap.size + 2) hb1 ?_ ?_; (focus (first | omega | (simp; omega) | (simp; done))); intro hc1 hf1)) | (go_at_call 51; refine (HK.out _).mono ?_; rintro e w2 ⟨rfl, hb2⟩; have hz2 := hb2.size; (try simp at hz2); (first | (refine ltk (w.heap.size) (w2.heap.size) ?_ ?_; (focus omega); intro f20) | skip); (first | (refine ltk (w.heap.size + 1) (w2.heap.size) ?_ ?_; (focus omega); intro f21) | skip); (refine olds_k (w.heap.size + 2) hb2 ?_ ?_; (focus (first | omega | (simp; omega) | (simp; done))); intro hc2 hf2)) | (go_at_call 52; refine (HM.out _).mono ?_; rintro e w3 ⟨rfl, hb3⟩; have hz3 := hb3.size; (try simp at hz3); (first | (refine ltk (w.heap.size) (w3.heap.size) ?_ ?_; (focus omega); intro f30) | skip); (first | (refine ltk (w.heap.size + 1) (w3.heap.size) ?_ ?_; (focus omega); intro f31) | skip); (refine olds_k (w.heap.size + 2) hb3 ?_ ?_; (focus (first | omega | (simp; omega) | (simp; done))); intro hc3 hf3)))
  all_goals
    go_wp2_with fail
    go_ret
    refine ⟨rfl, ?_⟩
    repeat (first | with_reducible exact Below.refl _ _ | (with_reducible refine Below.drew ?_) | (with_reducible refine Below.alloc ?_ ?_ _; rotate_left; (focus (first | omega | (simp; omega) | (simp; done)))) | (with_reducible refine Below.setCell ?_ ?_ _; rotate_left; (focus (first | omega | (simp; omega) | (simp; done)))) | (with_reducible refine Below.trans ?_ (hb3.mono ?_); rotate_left; (focus (first | omega | (simp; omega) | (simp; done)))) | (with_reducible refine Below.trans ?_ (hb2.mono ?_); rotate_left; (focus (first | omega | (simp; omega) | (simp; done)))) | (with_reducible refine Below.trans ?_ (hb1.mono ?_); rotate_left; (focus (first | omega | (simp; omega) | (simp; done)))))

end Go.Proofs.Ytnlnigelecmobaa
namespace Go.Proofs.Ytnlnigelecmobaa
open Go.RowKit

/-- whether the prefix (s, H, L, b) has the address (s', H', L') -/
def hadB (s : Bool) (H L : BitVec 64) (b : Int) (s' : Bool) (H' L' : BitVec 64) : Bool := pokB s H L b && (okB s' H'.toInt L'.toInt && hasB s H L ((wd s : Int) - b).toNat s' H' L')

theorem sHasAddr_any (s : Bool) (H L : BitVec 64) (b : Int) (s' : Bool) (H' L' : BitVec 64) (w : World) :
    Calls Try.prog 53 #[.agg #[.bool s, .int .i64 H.toInt, .int .i64 L.toInt, .int .i64 b], .agg #[.bool s', .int .i64 H'.toInt, .int .i64 L'.toInt]] w fun e w' => e = .returned (.bool (hadB s H L b s' H' L')) ∧ Below w.heap.size w w' := by
  cases hp : pokB s H L b
  · rw [show hadB s H L b s' H' L' = false by simp [hadB, hp]]
    exact sHasAddr_no s H L b s' H' L' hp w
  · cases hok : okB s' H'.toInt L'.toInt
    · rw [show hadB s H L b s' H' L' = false by simp [hadB, hok]]
      exact sHasAddr_bad s H L b s' H' L' hp hok w
    · rw [show hadB s H L b s' H' L' = hasB s H L ((wd s : Int) - b).toNat s' H' L' by rw [hadB, hp, hok]; rfl]
      have hb : 0 ≤ b ∧ b ≤ (wd s : Int) := by
        simp only [pokB, Bool.and_eq_true, decide_eq_true_eq] at hp
        exact hp.2.1
      by_cases e : s' = s
      · subst e
        exact sHasAddr_same s' H L b _ H' L' hp hok (by omega) (by omega) w
      · have e1 : (s' == s) = false := by simpa using e
        rw [show hasB s H L ((wd s : Int) - b).toNat s' H' L' = false by rw [hasB, e1]; rfl]
        cases s <;> cases s'
        · cases e1
        · exact sHasAddr_ft H L b H' L' hp hok w
        · exact sHasAddr_tf H L b H' L' hp hok w
        · cases e1

end Go.Proofs.Ytnlnigelecmobaa
namespace Go.Proofs.Ytnlnigelecmobaa
open Go.RowKit

/-- whether the prefix (s, H, L, b) lies in (s', H', L', b') -/
def winB (s : Bool) (H L : BitVec 64) (b : Int) (s' : Bool) (H' L' : BitVec 64) (b' : Int) : Bool := pokB s H L b && (pokB s' H' L' b' && (decide (b' ≤ b) && hadB s' H' L' b' s H L))

set_option maxHeartbeats 1000000 in
theorem sWithin_any (s : Bool) (H L : BitVec 64) (b : Int) (s' : Bool) (H' L' : BitVec 64) (b' : Int) (w : World) :
    Calls Try.prog 37 #[.agg #[.bool s, .int .i64 H.toInt, .int .i64 L.toInt, .int .i64 b], .agg #[.bool s', .int .i64 H'.toInt, .int .i64 L'.toInt, .int .i64 b']] w fun e w' => e = .returned (.bool (winB s H L b s' H' L' b')) ∧ Below w.heap.size w w' := by
  have HP : Hid (∀ w, _) := sPrefixOk_any s H L b
  have HQ : Hid (∀ w, _) := sPrefixOk_any s' H' L' b'
  have HH : Hid (∀ w, _) := sHasAddr_any s' H' L' b' s H L
  rw [winB]
  generalize pokB s H L b = B1 at HP ⊢
  generalize pokB s' H' L' b' = B2 at HQ ⊢
  generalize hadB s' H' L' b' s H L = B3 at HH ⊢
  cases B1
  · rw [Bool.false_and]
    go_enter Try.func37, Try.ntmps37
    go_wp2_with fail
    refine (HP.out _).mono ?_
    rintro e w1 ⟨rfl, hb1⟩
    have hz1 := hb1.size
    try simp at hz1
    have f10 : w.heap.size < w1.heap.size := by omega
    have f11 : w.heap.size + 1 < w1.heap.size := by omega
    refine olds_k (w.heap.size + 2) hb1 ?_ ?_
    · first | omega | (simp; omega) | (simp; done)
    intro hc1 hf1
    go_wp2_with fail
    go_ret
    refine ⟨rfl, ?_⟩
    repeat (first | with_reducible exact Below.refl _ _ | (with_reducible refine Below.drew ?_) | (with_reducible refine Below.alloc ?_ ?_ _; rotate_left; (focus (first | omega | (simp; omega) | (simp; done)))) | (with_reducible refine Below.setCell ?_ ?_ _; rotate_left; (focus (first | omega | (simp; omega) | (simp; done)))) | (with_reducible refine Below.trans ?_ (hb1.mono ?_); rotate_left; (focus (first | omega | (simp; omega) | (simp; done)))))
  cases B2
  · rw [Bool.false_and, Bool.and_false]
    go_enter Try.func37, Try.ntmps37
    go_wp2_with fail
    refine (HP.out _).mono ?_
    rintro e w1 ⟨rfl, hb1⟩
    have hz1 := hb1.size
    try simp at hz1
    have f10 : w.heap.size < w1.heap.size := by omega
    have f11 : w.heap.size + 1 < w1.heap.size := by omega
    refine olds_k (w.heap.size + 2) hb1 ?_ ?_
    · first | omega | (simp; omega) | (simp; done)
    intro hc1 hf1
    go_wp2_with fail
    refine (HQ.out _).mono ?_
    rintro e w2 ⟨rfl, hb2⟩
    have hz2 := hb2.size
    try simp at hz2
    have f20 : w.heap.size < w2.heap.size := by omega
    have f21 : w.heap.size + 1 < w2.heap.size := by omega
    refine olds_k (w.heap.size + 2) hb2 ?_ ?_
    · first | omega | (simp; omega) | (simp; done)
    intro hc2 hf2
    go_wp2_with fail
    go_ret
    refine ⟨rfl, ?_⟩
    repeat (first | with_reducible exact Below.refl _ _ | (with_reducible refine Below.drew ?_) | (with_reducible refine Below.alloc ?_ ?_ _; rotate_left; (focus (first | omega | (simp; omega) | (simp; done)))) | (with_reducible refine Below.setCell ?_ ?_ _; rotate_left; (focus (first | omega | (simp; omega) | (simp; done)))) | (with_reducible refine Below.trans ?_ (hb2.mono ?_); rotate_left; (focus (first | omega | (simp; omega) | (simp; done)))) | (with_reducible refine Below.trans ?_ (hb1.mono ?_); rotate_left; (focus (first | omega | (simp; omega) | (simp; done)))))
  by_cases hle : b' ≤ b
  · rw [decide_eq_true hle, Bool.true_and, Bool.true_and, Bool.true_and]
    go_enter Try.func37, Try.ntmps37
    go_wp2_with fail
    refine (HP.out _).mono ?_
    rintro e w1 ⟨rfl, hb1⟩
    have hz1 := hb1.size
    try simp at hz1
    have f10 : w.heap.size < w1.heap.size := by omega
    have f11 : w.heap.size + 1 < w1.heap.size := by omega
    refine olds_k (w.heap.size + 2) hb1 ?_ ?_
    · first | omega | (simp; omega) | (simp; done)
    intro hc1 hf1
    go_wp2_with fail
    refine (HQ.out _).mono ?_
    rintro e w2 ⟨rfl, hb2⟩
    have hz2 := hb2.size
    try simp at hz2
    have f20 : w.heap.size < w2.heap.size := by omega
    have f21 : w.heap.size + 1 < w2.heap.size := by omega
    refine olds_k (w.heap.size + 2) hb2 ?_ ?_
    · first | omega | (simp; omega) | (simp; done)
    intro hc2 hf2
    go_wp2_with fail
    refine (HH.out _).mono ?_
    rintro e w3 ⟨rfl, hb3⟩
    have hz3 := hb3.size
    try simp at hz3
    have f30 : w.heap.size < w3.heap.size := by omega
    have f31 : w.heap.size + 1 < w3.heap.size := by omega
    refine olds_k (w.heap.size + 2) hb3 ?_ ?_
    · first | omega | (simp; omega) | (simp; done)
    intro hc3 hf3
    go_wp2_with fail
    go_ret
    refine ⟨rfl, ?_⟩
    repeat (first | with_reducible exact Below.refl _ _ | (with_reducible refine Below.drew ?_) | (with_reducible refine Below.alloc ?_ ?_ _; rotate_left; (focus (first | omega | (simp; omega) | (simp; done)))) | (with_reducible refine Below.setCell ?_ ?_ _; rotate_left; (focus (first | omega | (simp; omega) | (simp; done)))) | (with_reducible refine Below.trans ?_ (hb3.mono ?_); rotate_left; (focus (first | omega | (simp; omega) | (simp; done)))) | (with_reducible refine Below.trans ?_ (hb2.mono ?_); rotate_left; (focus (first | omega | (simp; omega) | (simp; done)))) | (with_reducible refine Below.trans ?_ (hb1.mono ?_); rotate_left; (focus (first | omega | (simp; omega) | (simp; done)))))
  · rw [decide_eq_false hle, Bool.false_and, Bool.true_and, Bool.true_and]
    go_enter Try.func37, Try.ntmps37
    go_wp2_with fail
    refine (HP.out _).mono ?_
    rintro e w1 ⟨rfl, hb1⟩
    have hz1 := hb1.size
    try simp at hz1
    have f10 : w.heap.size < w1.heap.size := by omega
    have f11 : w.heap.size + 1 < w1.heap.size := by omega
    refine olds_k (w.heap.size + 2) hb1 ?_ ?_
    · first | omega | (simp; omega) | (simp; done)
    intro hc1 hf1
    go_wp2_with fail
    refine (HQ.out _).mono ?_
    rintro e w2 ⟨rfl, hb2⟩
    have hz2 := hb2.size
    try simp at hz2
    have f20 : w.heap.size < w2.heap.size := by omega
    have f21 : w.heap.size + 1 < w2.heap.size := by omega
    refine olds_k (w.heap.size + 2) hb2 ?_ ?_
    · first | omega | (simp; omega) | (simp; done)
    intro hc2 hf2
    go_wp2_with fail
    go_ret
    refine ⟨rfl, ?_⟩
    repeat (first | with_reducible exact Below.refl _ _ | (with_reducible refine Below.drew ?_) | (with_reducible refine Below.alloc ?_ ?_ _; rotate_left; (focus (first | omega | (simp; omega) | (simp; done)))) | (with_reducible refine Below.setCell ?_ ?_ _; rotate_left; (focus (first | omega | (simp; omega) | (simp; done)))) | (with_reducible refine Below.trans ?_ (hb2.mono ?_); rotate_left; (focus (first | omega | (simp; omega) | (simp; done)))) | (with_reducible refine Below.trans ?_ (hb1.mono ?_); rotate_left; (focus (first | omega | (simp; omega) | (simp; done)))))

end Go.Proofs.Ytnlnigelecmobaa
namespace Go.Proofs.Ytnlnigelecmobaa
open Go.RowKit

/-- whether the span (s, H, L, n) lies in (s', H', L', m) -/
def withB (s : Bool) (H L : BitVec 64) (n : Nat) (s' : Bool) (H' L' : BitVec 64) (m : Nat) : Bool := decide (n ≤ m) && hasB s' H' L' m s H L

set_option maxHeartbeats 1000000 in
theorem within_any (s : Bool) (H L : BitVec 64) (n : Nat) (s' : Bool) (H' L' : BitVec 64) (m : Nat) (hm : m ≤ 128) (w : World) :
    Calls Try.prog 21 #[.agg #[.bool s, .int .i64 H.toInt, .int .i64 L.toInt, .int .i64 n], .agg #[.bool s', .int .i64 H'.toInt, .int .i64 L'.toInt, .int .i64 m]] w fun e w' => e = .returned (.bool (withB s H L n s' H' L' m)) ∧ Below w.heap.size w w' := by
  by_cases h : n ≤ m
  · rw [withB, decide_eq_true h, Bool.true_and]
    go_enter Try.func21, Try.ntmps21
    go_wp2_with fail
    refine (has_any s' H' L' m hm s H L _).mono ?_
    rintro e w1 ⟨rfl, hb1⟩
    have hz1 := hb1.size
    try simp at hz1
    have f10 : w.heap.size < w1.heap.size := by omega
    have f11 : w.heap.size + 1 < w1.heap.size := by omega
    refine olds_k (w.heap.size + 2) hb1 ?_ ?_
    · first | omega | (simp; omega) | (simp; done)
    intro hc1 hf1
    go_wp2_with fail
    go_ret
    refine ⟨rfl, ?_⟩
    repeat (first | with_reducible exact Below.refl _ _ | (with_reducible refine Below.drew ?_) | (with_reducible refine Below.alloc ?_ ?_ _; rotate_left; (focus (first | omega | (simp; omega) | (simp; done)))) | (with_reducible refine Below.setCell ?_ ?_ _; rotate_left; (focus (first | omega | (simp; omega) | (simp; done)))) | (with_reducible refine Below.trans ?_ (hb1.mono ?_); rotate_left; (focus (first | omega | (simp; omega) | (simp; done)))))
  · rw [withB, decide_eq_false h, Bool.false_and]
    go_enter Try.func21, Try.ntmps21
    go_wp2_with fail
    go_ret
    refine ⟨rfl, ?_⟩
    repeat (first | with_reducible exact Below.refl _ _ | (with_reducible refine Below.drew ?_) | (with_reducible refine Below.alloc ?_ ?_ _; rotate_left; (focus (first | omega | (simp; omega) | (simp; done)))) | (with_reducible refine Below.setCell ?_ ?_ _; rotate_left; (focus (first | omega | (simp; omega) | (simp; done)))))

set_option maxHeartbeats 1000000 in
theorem overlaps_any (s : Bool) (H L : BitVec 64) (n : Nat) (hn : n ≤ 128) (s' : Bool) (H' L' : BitVec 64) (m : Nat) (hm : m ≤ 128) (w : World) :
    Calls Try.prog 19 #[.agg #[.bool s, .int .i64 H.toInt, .int .i64 L.toInt, .int .i64 n], .agg #[.bool s', .int .i64 H'.toInt, .int .i64 L'.toInt, .int .i64 m]] w fun e w' => e = .returned (.bool (withB s H L n s' H' L' m || withB s' H' L' m s H L n)) ∧ Below w.heap.size w w' := by
  have HW : Hid (∀ w, _) := within_any s H L n s' H' L' m hm
  have HX : Hid (∀ w, _) := within_any s' H' L' m s H L n hn
  generalize withB s H L n s' H' L' m = b1 at HW ⊢
  generalize withB s' H' L' m s H L n = b2 at HX ⊢
  cases b1
  · rw [Bool.false_or]
    go_enter Try.func19, Try.ntmps19
    go_wp2_with fail
    refine (HW.out _).mono ?_
    rintro e w1 ⟨rfl, hb1⟩
    have hz1 := hb1.size
    try simp at hz1
    have f10 : w.heap.size < w1.heap.size := by omega
    have f11 : w.heap.size + 1 < w1.heap.size := by omega
    refine olds_k (w.heap.size + 2) hb1 ?_ ?_
    · first | omega | (simp; omega) | (simp; done)
    intro hc1 hf1
    go_wp2_with fail
    refine (HX.out _).mono ?_
    rintro e w2 ⟨rfl, hb2⟩
    have hz2 := hb2.size
    try simp at hz2
    have f20 : w.heap.size < w2.heap.size := by omega
    have f21 : w.heap.size + 1 < w2.heap.size := by omega
    refine olds_k (w.heap.size + 2) hb2 ?_ ?_
    · first | omega | (simp; omega) | (simp; done)
    intro hc2 hf2
    go_wp2_with fail
    go_ret
    refine ⟨rfl, ?_⟩
    repeat (first | with_reducible exact Below.refl _ _ | (with_reducible refine Below.drew ?_) | (with_reducible refine Below.alloc ?_ ?_ _; rotate_left; (focus (first | omega | (simp; omega) | (simp; done)))) | (with_reducible refine Below.setCell ?_ ?_ _; rotate_left; (focus (first | omega | (simp; omega) | (simp; done)))) | (with_reducible refine Below.trans ?_ (hb2.mono ?_); rotate_left; (focus (first | omega | (simp; omega) | (simp; done)))) | (with_reducible refine Below.trans ?_ (hb1.mono ?_); rotate_left; (focus (first | omega | (simp; omega) | (simp; done)))))
  · rw [Bool.true_or]
    go_enter Try.func19, Try.ntmps19
    go_wp2_with fail
    refine (HW.out _).mono ?_
    rintro e w1 ⟨rfl, hb1⟩
    have hz1 := hb1.size
    try simp at hz1
    have f10 : w.heap.size < w1.heap.size := by omega
    have f11 : w.heap.size + 1 < w1.heap.size := by omega
    refine olds_k (w.heap.size + 2) hb1 ?_ ?_
    · first | omega | (simp; omega) | (simp; done)
    intro hc1 hf1
    go_wp2_with fail
    go_ret
    refine ⟨rfl, ?_⟩
    repeat (first | with_reducible exact Below.refl _ _ | (with_reducible refine Below.drew ?_) | (with_reducible refine Below.alloc ?_ ?_ _; rotate_left; (focus (first | omega | (simp; omega) | (simp; done)))) | (with_reducible refine Below.setCell ?_ ?_ _; rotate_left; (focus (first | omega | (simp; omega) | (simp; done)))) | (with_reducible refine Below.trans ?_ (hb1.mono ?_); rotate_left; (focus (first | omega | (simp; omega) | (simp; done)))))

end Go.Proofs.Ytnlnigelecmobaa
namespace Go.Proofs.Ytnlnigelecmobaa
open Go.RowKit

theorem win_with {s : Bool} {H L : BitVec 64} {b : Int} {s' : Bool} {H' L' : BitVec 64} {b' : Int} {n m : Nat} (hp : pokB s H L b = true) (hq : pokB s' H' L' b' = true) (hn : (n : Int) = (wd s : Int) - b) (hm : (m : Int) = (wd s' : Int) - b') :
    winB s H L b s' H' L' b' = withB s H L n s' H' L' m := by
  have ho := (pokB_parts hp).1
  rw [winB, hp, hq, withB, hadB, hq, ho, ← hm]
  simp only [Bool.true_and, Int.toNat_natCast]
  by_cases e : s = s'
  · subst e
    rw [show decide (b' ≤ b) = decide (n ≤ m) from decide_eq_decide.mpr (by omega)]
  · have : hasB s' H' L' m s H L = false := by
      rw [hasB, show (s == s') = false by simpa using e]; rfl
    rw [this, Bool.and_false, Bool.and_false]
theorem win_no1 {s : Bool} {H L : BitVec 64} {b : Int} {s' : Bool} {H' L' : BitVec 64} {b' : Int} (hp : pokB s H L b = false) : winB s H L b s' H' L' b' = false := by rw [winB, hp]; rfl
theorem win_no2 {s : Bool} {H L : BitVec 64} {b : Int} {s' : Bool} {H' L' : BitVec 64} {b' : Int} (hq : pokB s' H' L' b' = false) : winB s H L b s' H' L' b' = false := by rw [winB, hq]; simp

set_option maxHeartbeats 1000000 in
theorem iWithin_any (s : Bool) (H L : BitVec 64) (b : Int) (s' : Bool) (H' L' : BitVec 64) (b' : Int) (w : World) :
    Calls Try.prog 11 #[.agg #[.bool s, .int .i64 H.toInt, .int .i64 L.toInt, .int .i64 b], .agg #[.bool s', .int .i64 H'.toInt, .int .i64 L'.toInt, .int .i64 b']] w fun e w' => e = .returned (.bool (winB s H L b s' H' L' b')) ∧ Below w.heap.size w w' := by
  cases hp : pokB s H L b
  · rw [win_no1 hp]
    have HS : Hid (∀ w, _) := spanOf_no s H L b hp
    clear hp
    cases hq : pokB s' H' L' b'
    · have HT : Hid (∀ w, _) := spanOf_no s' H' L' b' hq
      clear hq
      go_enter Try.func11, Try.ntmps11
      go_wp2_with fail
      refine (HS.out _).mono ?_
      rintro e w1 ⟨rfl, hb1⟩
      have hz1 := hb1.size
      try simp at hz1
      have f10 : w.heap.size < w1.heap.size := by omega
      have f11 : w.heap.size + 1 < w1.heap.size := by omega
      refine olds_k (w.heap.size + 2) hb1 ?_ ?_
      · first | omega | (simp; omega) | (simp; done)
      intro hc1 hf1
      go_wp2_with fail
      refine (HT.out _).mono ?_
      rintro e w2 ⟨rfl, hb2⟩
      have hz2 := hb2.size
      try simp at hz2
      have f2x0 : w.heap.size < w2.heap.size := by omega
      have f2x1 : w.heap.size + 1 < w2.heap.size := by omega
      have f2x2 : w1.heap.size < w2.heap.size := by omega
      have f2x3 : w.heap.size + 1 < w1.heap.size + 1 := by omega
      refine olds_k (w1.heap.size + 1) hb2 ?_ ?_
      · first | omega | (simp; omega) | (simp; done)
      intro hc2 hf2
      go_wp2_with fail
      go_ret
      refine ⟨rfl, ?_⟩
      repeat (first | with_reducible exact Below.refl _ _ | (with_reducible refine Below.drew ?_) | (with_reducible refine Below.alloc ?_ ?_ _; rotate_left; (focus (first | omega | (simp; omega) | (simp; done)))) | (with_reducible refine Below.setCell ?_ ?_ _; rotate_left; (focus (first | omega | (simp; omega) | (simp; done)))) | (with_reducible refine Below.trans ?_ (hb2.mono ?_); rotate_left; (focus (first | omega | (simp; omega) | (simp; done)))) | (with_reducible refine Below.trans ?_ (hb1.mono ?_); rotate_left; (focus (first | omega | (simp; omega) | (simp; done)))))
    · obtain ⟨m, hm⟩ : ∃ m : Nat, (m : Int) = (wd s' : Int) - b' := ⟨((wd s' : Int) - b').toNat, by have := (pokB_parts hq).2.1; omega⟩
      have HT : Hid (∀ w, _) := spanOf_yes s' H' L' b' m hm hq
      clear hq hm
      go_enter Try.func11, Try.ntmps11
      go_wp2_with fail
      refine (HS.out _).mono ?_
      rintro e w1 ⟨rfl, hb1⟩
      have hz1 := hb1.size
      try simp at hz1
      have f10 : w.heap.size < w1.heap.size := by omega
      have f11 : w.heap.size + 1 < w1.heap.size := by omega
      refine olds_k (w.heap.size + 2) hb1 ?_ ?_
      · first | omega | (simp; omega) | (simp; done)
      intro hc1 hf1
      go_wp2_with fail
      refine (HT.out _).mono ?_
      rintro e w2 ⟨rfl, hb2⟩
      have hz2 := hb2.size
      try simp at hz2
      have f2x0 : w.heap.size < w2.heap.size := by omega
      have f2x1 : w.heap.size + 1 < w2.heap.size := by omega
      have f2x2 : w1.heap.size < w2.heap.size := by omega
      have f2x3 : w.heap.size + 1 < w1.heap.size + 1 := by omega
      refine olds_k (w1.heap.size + 1) hb2 ?_ ?_
      · first | omega | (simp; omega) | (simp; done)
      intro hc2 hf2
      go_wp2_with fail
      go_ret
      refine ⟨rfl, ?_⟩
      repeat (first | with_reducible exact Below.refl _ _ | (with_reducible refine Below.drew ?_) | (with_reducible refine Below.alloc ?_ ?_ _; rotate_left; (focus (first | omega | (simp; omega) | (simp; done)))) | (with_reducible refine Below.setCell ?_ ?_ _; rotate_left; (focus (first | omega | (simp; omega) | (simp; done)))) | (with_reducible refine Below.trans ?_ (hb2.mono ?_); rotate_left; (focus (first | omega | (simp; omega) | (simp; done)))) | (with_reducible refine Below.trans ?_ (hb1.mono ?_); rotate_left; (focus (first | omega | (simp; omega) | (simp; done)))))
  · obtain ⟨n, hn⟩ : ∃ n : Nat, (n : Int) = (wd s : Int) - b := ⟨((wd s : Int) - b).toNat, by have := (pokB_parts hp).2.1; omega⟩
    have HS : Hid (∀ w, _) := spanOf_yes s H L b n hn hp
    cases hq : pokB s' H' L' b'
    · rw [win_no2 hq]
      have HT : Hid (∀ w, _) := spanOf_no s' H' L' b' hq
      clear hq hp hn
      go_enter Try.func11, Try.ntmps11
      go_wp2_with fail
      refine (HS.out _).mono ?_
      rintro e w1 ⟨rfl, hb1⟩
      have hz1 := hb1.size
      try simp at hz1
      have f10 : w.heap.size < w1.heap.size := by omega
      have f11 : w.heap.size + 1 < w1.heap.size := by omega
      refine olds_k (w.heap.size + 2) hb1 ?_ ?_
      · first | omega | (simp; omega) | (simp; done)
      intro hc1 hf1
      go_wp2_with fail
      refine (HT.out _).mono ?_
      rintro e w2 ⟨rfl, hb2⟩
      have hz2 := hb2.size
      try simp at hz2
      have f2x0 : w.heap.size < w2.heap.size := by omega
      have f2x1 : w.heap.size + 1 < w2.heap.size := by omega
      have f2x2 : w1.heap.size < w2.heap.size := by omega
      have f2x3 : w.heap.size + 1 < w1.heap.size + 1 := by omega
      refine olds_k (w1.heap.size + 1) hb2 ?_ ?_
      · first | omega | (simp; omega) | (simp; done)
      intro hc2 hf2
      go_wp2_with fail
      go_ret
      refine ⟨rfl, ?_⟩
      repeat (first | with_reducible exact Below.refl _ _ | (with_reducible refine Below.drew ?_) | (with_reducible refine Below.alloc ?_ ?_ _; rotate_left; (focus (first | omega | (simp; omega) | (simp; done)))) | (with_reducible refine Below.setCell ?_ ?_ _; rotate_left; (focus (first | omega | (simp; omega) | (simp; done)))) | (with_reducible refine Below.trans ?_ (hb2.mono ?_); rotate_left; (focus (first | omega | (simp; omega) | (simp; done)))) | (with_reducible refine Below.trans ?_ (hb1.mono ?_); rotate_left; (focus (first | omega | (simp; omega) | (simp; done)))))
    · obtain ⟨m, hm⟩ : ∃ m : Nat, (m : Int) = (wd s' : Int) - b' := ⟨((wd s' : Int) - b').toNat, by have := (pokB_parts hq).2.1; omega⟩
      rw [win_with hp hq hn hm]
      have hn1 : n ≤ 128 := by have := wd_le' s; have := (pokB_parts hp).2.1; omega
      have hm1 : m ≤ 128 := by have := wd_le' s'; have := (pokB_parts hq).2.1; omega
      have HT : Hid (∀ w, _) := spanOf_yes s' H' L' b' m hm hq
      have HW : Hid (∀ w, _) := within_any s H L n s' H' L' m hm1
      clear hn1
      generalize withB s H L n s' H' L' m = B1 at HW ⊢
      clear hq hm hp hn
      go_enter Try.func11, Try.ntmps11
      go_wp2_with fail
      refine (HS.out _).mono ?_
      rintro e w1 ⟨rfl, hb1⟩
      have hz1 := hb1.size
      try simp at hz1
      have f10 : w.heap.size < w1.heap.size := by omega
      have f11 : w.heap.size + 1 < w1.heap.size := by omega
      refine olds_k (w.heap.size + 2) hb1 ?_ ?_
      · first | omega | (simp; omega) | (simp; done)
      intro hc1 hf1
      go_wp2_with fail
      refine (HT.out _).mono ?_
      rintro e w2 ⟨rfl, hb2⟩
      have hz2 := hb2.size
      try simp at hz2
      have f2x0 : w.heap.size < w2.heap.size := by omega
      have f2x1 : w.heap.size + 1 < w2.heap.size := by omega
      have f2x2 : w1.heap.size < w2.heap.size := by omega
      have f2x3 : w.heap.size + 1 < w1.heap.size + 1 := by omega
      refine olds_k (w1.heap.size + 1) hb2 ?_ ?_
      · first | omega | (simp; omega) | (simp; done)
      intro hc2 hf2
      go_wp2_with fail
      refine (HW.out _).mono ?_
      rintro e w3 ⟨rfl, hb3⟩
      have hz3 := hb3.size
      try simp at hz3
      have f30 : w.heap.size < w3.heap.size := by omega
      have f31 : w.heap.size + 1 < w3.heap.size := by omega
      refine olds_k (w.heap.size + 2) hb3 ?_ ?_
      · first | omega | (simp; omega) | (simp; done)
      intro hc3 hf3
      go_wp2_with fail
      go_ret
      refine ⟨rfl, ?_⟩
      repeat (first | with_reducible exact Below.refl _ _ | (with_reducible refine Below.drew ?_) | (with_reducible refine Below.alloc ?_ ?_ _; rotate_left; (focus (first | omega | (simp; omega) | (simp; done)))) | (with_reducible refine Below.setCell ?_ ?_ _; rotate_left; (focus (first | omega | (simp; omega) | (simp; done)))) | (with_reducible refine Below.trans ?_ (hb3.mono ?_); rotate_left; (focus (first | omega | (simp; omega) | (simp; done)))) | (with_reducible refine Below.trans ?_ (hb2.mono ?_); rotate_left; (focus (first | omega | (simp; omega) | (simp; done)))) | (with_reducible refine Below.trans ?_ (hb1.mono ?_); rotate_left; (focus (first | omega | (simp; omega) | (simp; done)))))

end Go.Proofs.Ytnlnigelecmobaa
namespace Go.Proofs.Ytnlnigelecmobaa
open Go.RowKit

/-- A span: where it begins, and how many bits are free. -/
structure Sp where
  s : Bool
  H : BitVec 64
  L : BitVec 64
  n : Nat

def Sp.ok (x : Sp) : Prop := okB x.s x.H.toInt x.L.toInt = true ∧ x.n ≤ wd x.s ∧ cH x.n x.H = x.H ∧ cL x.n x.L = x.L
def Sp.pre (x : Sp) : Pf := ⟨x.s, x.H, x.L, (wd x.s : Int) - x.n⟩
def Sp.spn (x : Sp) : Pf := ⟨x.s, x.H, x.L, x.n⟩
def wB (x y : Sp) : Bool := withB x.s x.H x.L x.n y.s y.H y.L y.n
def lowS (x : Sp) (k : Nat) : Sp := ⟨x.s, x.H, x.L, k⟩
def uppS (x : Sp) (k : Nat) : Sp := ⟨x.s, cH k (fH (k + 1) x.H), cL k (fL (k + 1) x.L), k⟩
def leftM : Nat → Sp → List Sp → List Sp
  | 0, x, l => if l.any (wB x) = true then [] else [x]
  | k + 1, x, l => if l.any (wB x) = true then [] else if l.filter (fun t => wB t x) = [] then [x] else leftM k (lowS x k) (l.filter fun t => wB t x) ++ leftM k (uppS x k) (l.filter fun t => wB t x)

theorem Sp.ok.pok {x : Sp} (h : x.ok) : pokB x.s x.H x.L ((wd x.s : Int) - x.n) = true := by
  obtain ⟨h1, h2, h3, h4⟩ := h
  have e : ((wd x.s : Int) - ((wd x.s : Int) - x.n)).toNat = x.n := by omega
  unfold pokB hasB
  rw [h1, e, h3, h4]
  have : decide (0 ≤ (wd x.s : Int) - x.n ∧ (wd x.s : Int) - x.n ≤ (wd x.s : Int)) = true := decide_eq_true (by omega)
  rw [this]; simp
theorem Sp.of_pok {p : Pf} (h : pokB p.s p.H p.L p.b = true) : ∃ x : Sp, x.ok ∧ x.pre = p := by
  obtain ⟨h1, h2, h3⟩ := pokB_parts h
  refine ⟨⟨p.s, p.H, p.L, ((wd p.s : Int) - p.b).toNat⟩, ⟨h1, by show ((wd p.s : Int) - p.b).toNat ≤ wd p.s; omega, ?_⟩, ?_⟩
  · unfold hasB at h3
    simp only [Bool.and_eq_true, beq_iff_eq] at h3
    exact h3.2
  · unfold Sp.pre
    obtain ⟨s, H, L, b⟩ := p
    simp only [Pf.mk.injEq, true_and]
    simp only at h2
    omega
theorem Sp.ok.le {x : Sp} (h : x.ok) : x.n ≤ 128 := Nat.le_trans h.2.1 (wd_le' x.s)
theorem win_wB {x y : Sp} (hx : x.ok) (hy : y.ok) : winB x.s x.H x.L ((wd x.s : Int) - x.n) y.s y.H y.L ((wd y.s : Int) - y.n) = wB x y :=
  win_with hx.pok hy.pok (by omega) (by omega)
theorem wB_iff (x y : Sp) : wB x y = true ↔ x.n ≤ y.n ∧ x.s = y.s ∧ cH y.n x.H = y.H ∧ cL y.n x.L = y.L := by
  unfold wB withB hasB
  simp only [Bool.and_eq_true, decide_eq_true_eq, beq_iff_eq]
theorem c0H (H : BitVec 64) : cH 0 H = H := by
  unfold cH; rw [show ~~~ mh 0 = BitVec.allOnes 64 by decide, BitVec.and_allOnes]
theorem c0L (L : BitVec 64) : cL 0 L = L := by
  unfold cL; rw [show ~~~ ml 0 = BitVec.allOnes 64 by decide, BitVec.and_allOnes]
/-- A single address has nothing in it but itself. -/
theorem near_zero {x : Sp} (h0 : x.n = 0) {l : List Sp} (h : l.filter (fun t => wB t x) ≠ []) : l.any (wB x) = true := by
  obtain ⟨t, ht⟩ := List.exists_mem_of_ne_nil _ h
  obtain ⟨hm, hw⟩ := List.mem_filter.1 ht
  rw [List.any_eq_true]
  refine ⟨t, hm, ?_⟩
  obtain ⟨h1, h2, h3, h4⟩ := (wB_iff t x).1 hw
  have tn : t.n = 0 := by omega
  rw [h0, c0H] at h3
  rw [h0, c0L] at h4
  exact (wB_iff x t).2 ⟨by omega, h2.symm, by rw [tn, c0H, h3], by rw [tn, c0L, h4]⟩
theorem low_ok {x : Sp} {k : Nat} (h : x.ok) (hn : x.n = k + 1) : (lowS x k).ok := by
  obtain ⟨h1, h2, h3, h4⟩ := h
  rw [hn] at h2 h3 h4
  exact ⟨h1, by show k ≤ wd x.s; omega, cH_less k _ h3, cL_less k _ h4⟩
theorem upp_ok {x : Sp} {k : Nat} (h : x.ok) (hn : x.n = k + 1) : (uppS x k).ok := by
  obtain ⟨h1, h2, h3, h4⟩ := h
  rw [hn] at h2
  exact ⟨okB_clr x.s _ _ k (okB_fill x.s x.H x.L (k + 1) h2 h1), by show k ≤ wd x.s; omega, cH_idem k _, cL_idem k _⟩
theorem halves_part {x t : Sp} {k : Nat} (h : x.ok) (hn : x.n = k + 1) (h1 : wB t (lowS x k) = true) (h2 : wB t (uppS x k) = true) : False := by
  obtain ⟨_, _, a3, a4⟩ := (wB_iff _ _).1 h1
  obtain ⟨_, _, b3, b4⟩ := (wB_iff _ _).1 h2
  have e3 : x.H = cH k (fH (k + 1) x.H) := a3.symm.trans b3
  have e4 : x.L = cL k (fL (k + 1) x.L) := a4.symm.trans b4
  obtain ⟨_, _, h3, h4⟩ := h
  have := wd_le' x.s
  rw [hn] at h3 h4
  rcases Nat.lt_or_ge k 64 with hk | hk
  · exact up_neL k hk _ h4 e4.symm
  · exact up_neH k (by omega) hk _ h3 e3.symm
theorem two_count {α : Type} (p q : α → Bool) : ∀ l : List α, (∀ t ∈ l, p t = true → q t = true → False) → (l.filter p).length + (l.filter q).length ≤ l.length
  | [], _ => by simp
  | t :: l, h => by
      have ih := two_count p q l (fun u hu => h u (List.mem_cons_of_mem _ hu))
      have ht := h t (List.mem_cons_self ..)
      rw [List.filter_cons, List.filter_cons, List.length_cons]
      cases hp : p t <;> cases hq : q t <;> simp <;> first | omega | (exact absurd hq (by intro; exact ht hp hq))
theorem left_len : ∀ (k : Nat) (x : Sp) (l : List Sp), x.ok → x.n = k → (leftM k x l).length ≤ (l.filter fun t => wB t x).length * k + 1
  | 0, x, l, _, _ => by
      unfold leftM; split <;> simp
  | k + 1, x, l, hx, hn => by
      unfold leftM
      split
      · simp
      · split
        · simp
        · rename_i hne
          have i1 := left_len k (lowS x k) (l.filter fun t => wB t x) (low_ok hx hn) rfl
          have i2 := left_len k (uppS x k) (l.filter fun t => wB t x) (upp_ok hx hn) rfl
          have hc := two_count (fun t => wB t (lowS x k)) (fun t => wB t (uppS x k)) (l.filter fun t => wB t x) (fun t _ a b => halves_part hx hn a b)
          have hpos : 0 < (l.filter fun t => wB t x).length := List.length_pos_iff.2 hne
          generalize (l.filter fun t => wB t x) = N at *
          generalize (N.filter fun t => wB t (lowS x k)).length = c1 at *
          generalize (N.filter fun t => wB t (uppS x k)).length = c2 at *
          rw [List.length_append, Nat.mul_succ]
          have hm : (c1 + c2) * k ≤ N.length * k := Nat.mul_le_mul_right k hc
          rw [Nat.add_mul] at hm
          omega
theorem left_le {x : Sp} (hx : x.ok) (l : List Sp) (hl : l.length ≤ 300) : (leftM x.n x l).length ≤ 38401 := by
  have h := left_len x.n x l hx rfl
  have h1 : (l.filter fun t => wB t x).length ≤ 300 := Nat.le_trans (List.length_filter_le _ _) hl
  have h2 : (l.filter fun t => wB t x).length * x.n ≤ 300 * 128 := Nat.mul_le_mul h1 hx.le
  omega

end Go.Proofs.Ytnlnigelecmobaa
namespace Go.Proofs.Ytnlnigelecmobaa
open Go.RowKit

def KPq : Kd Pf := ⟨4, Pf.cs, fun _ => rfl, fun x u h => by
  simp [Pf.cs] at h
  rcases h with rfl | rfl | rfl | rfl <;> rfl⟩
theorem Try.tyPq : GTy KPq (.agg #[.bool false, .int .i64 0, .int .i64 0, .int .i64 0]) 32 Try.prog 28 27 := ⟨Try.underlying28, by kernel_rfl, rfl, by omega⟩
theorem rowP_G {x : World} {a : Option Addr} {us : List Pf} (h : RowG KPq x a us) : Row x a us := fun j hj => by
  obtain ⟨p, o, q, ha, hp, hq, c⟩ := h j hj
  exact ⟨p, o, q, ha, hp, hq, c 0 _ rfl, c 1 _ rfl, c 2 _ rfl, c 3 _ rfl⟩
theorem OwnG.kpF {α : Type} {K : Kd α} {t : TypeId} {c B : Nat} {X Y : World} {v : Value} {ps : List α} (h : OwnG K t X B v ps) (k : Kp c X Y) (hB : c < B) : OwnG K t Y B v ps := by
  refine ⟨h.1, ?_⟩
  rcases h.2 with h' | ⟨g, cc, cur, h1, h2, h3, h4⟩
  · exact Or.inl h'
  · refine Or.inr ⟨g, cc, cur, h1, h2, ?_, h4⟩
    have hgl : g < X.heap.size := by
      rcases Nat.lt_or_ge g X.heap.size with h' | h'
      · exact h'
      · rw [Array.getElem?_eq_none h'] at h3; cases h3
    exact (k.blk g hgl (by omega)).trans h3
theorem cell_grO {X Y : World} {p i : Nat} {v : Value} {b : Option Nat} (h : X.cell? ⟨p, i, none⟩ = some v) (k : X.grownBy Y b) (hne : some p ≠ b) : Y.cell? ⟨p, i, none⟩ = some v := by
  rw [World.cell?_of_block (w := X) (k.block p (World.block_lt_of_cell? X _ h) hne)]
  exact h
theorem frz_grO {X Y : World} {p o : Nat} {b : Option Nat} (k : X.grownBy Y b) (hl : p < X.heap.size) (h : X.frozen? ⟨p, o, none⟩ = false) (hne : some p ≠ b) : Y.frozen? ⟨p, o, none⟩ = false := by
  have e := k.block p hl hne
  unfold World.frozen? at h ⊢
  rw [e]; exact h
theorem frz_blk {X Y : World} {p o : Nat} (e : Y.heap[p]? = X.heap[p]?) : Y.frozen? ⟨p, o, none⟩ = X.frozen? ⟨p, o, none⟩ := by
  unfold World.frozen?
  rw [e]
theorem Kp.grownO {c : Nat} {w w1 w2 : World} {o : Option Nat} (h : Kp c w w1) (r : w1.grownBy w2 o) (hg : ∀ g, o = some g → w.heap.size ≤ g) (hc : c < w.heap.size) : Kp c w w2 := by
  have hn : ∀ b, b < w.heap.size → some b ≠ o := fun b hb e => by have := hg b e.symm; omega
  exact ⟨h.low.grown r (by have := h.big; omega) (fun k hk => by have := hg k hk; omega), Nat.le_trans h.big r.size,
    fun b o' hb hne => by
      rw [World.cell?_of_block (w := w1) (r.block b (Nat.lt_of_lt_of_le hb h.big) (hn b hb))]
      exact h.cel b o' hb hne,
    fun b o' hb hne => (frz_blk (r.block b (Nat.lt_of_lt_of_le hb h.big) (hn b hb))).trans (h.frz b o' hb hne),
    fun b hb hne => (r.block b (Nat.lt_of_lt_of_le hb h.big) (hn b hb)).trans (h.blk b hb hne)⟩
theorem alloc_belowF (w : World) (o : Obj) : Below w.heap.size w (w.alloc o) := (Below.refl _ w).alloc (Nat.le_refl _) o
theorem grown_reflO (X : World) (q : Nat) : X.grownBy X (some q) := ⟨rfl, rfl, rfl, Nat.le_refl _, fun _ _ _ => rfl⟩
theorem grown4 (X : World) (q : Nat) (u0 u1 u2 u3 : Value) : X.grownBy ((((X.setCell ⟨q, 0, none⟩ u0).setCell ⟨q, 1, none⟩ u1).setCell ⟨q, 2, none⟩ u2).setCell ⟨q, 3, none⟩ u3) (some q) :=
  puts_grown [u0, u1, u2, u3] X 0 (grown_reflO X q)
/-- What stands while prefixes are drawn: w is the world at the beginning; the result's box is its first new block; the pool lies in block e, the row behind them. -/
structure FfI (w X : World) (c : Nat) (a : Option Addr) (len cap e m : Nat) (S : Bool) (H L : BitVec 64) (Z : Int) (b : Option Addr) (n d : Nat) (us : List Pf) : Prop where
  cur : Cur X c a len cap
  hc : c < w.heap.size
  kp : Kp c w X
  r : X.cell? ⟨w.heap.size, 0, none⟩ = some (.bool false) ∧ X.cell? ⟨w.heap.size, 1, none⟩ = some (.int .i64 0) ∧ X.cell? ⟨w.heap.size, 2, none⟩ = some (.int .i64 0) ∧ X.cell? ⟨w.heap.size, 3, none⟩ = some (.int .i64 0)
  rf : ∀ o, X.frozen? ⟨w.heap.size, o, none⟩ = false
  q : X.cell? ⟨e, 0, none⟩ = some (.bool S) ∧ X.cell? ⟨e, 1, none⟩ = some (.int .i64 H.toInt) ∧ X.cell? ⟨e, 2, none⟩ = some (.int .i64 L.toInt) ∧ X.cell? ⟨e, 3, none⟩ = some (.int .i64 Z)
  qf : ∀ o, X.frozen? ⟨e, o, none⟩ = false
  he : w.heap.size + 1 ≤ e ∧ e < m
  own : OwnG KPq 27 X (w.heap.size + 1) (.slice b n d) us
  ob : ∀ k, (Value.slice b n d).ownBlock = some k → k ≠ e ∧ k < m
  sz : m ≤ X.heap.size
theorem FfI.keep {w X : World} {c : Nat} {a : Option Addr} {len cap e m : Nat} {S : Bool} {H L : BitVec 64} {Z : Int} {b : Option Addr} {n d : Nat} {us : List Pf} {Y : World} (h : FfI w X c a len cap e m S H L Z b n d us) (hC : Cur Y c a len cap) (k : Kp c X Y) : FfI w Y c a len cap e m S H L Z b n d us := by
  have h1 := h.he
  have h2 := h.sz
  have h3 := h.hc
  have hw : w.heap.size < X.heap.size := by omega
  have he : e < X.heap.size := by omega
  have hb := k.big
  obtain ⟨r0, r1, r2, r3⟩ := h.r
  obtain ⟨q0, q1, q2, q3⟩ := h.q
  exact ⟨hC, h3, h.kp.trans k, ⟨(k.cel _ 0 hw (by omega)).trans r0, (k.cel _ 1 hw (by omega)).trans r1, (k.cel _ 2 hw (by omega)).trans r2, (k.cel _ 3 hw (by omega)).trans r3⟩, fun o => (k.frz _ o hw (by omega)).trans (h.rf o), ⟨(k.cel _ 0 he (by omega)).trans q0, (k.cel _ 1 he (by omega)).trans q1, (k.cel _ 2 he (by omega)).trans q2, (k.cel _ 3 he (by omega)).trans q3⟩, fun o => (k.frz _ o he (by omega)).trans (h.qf o), h1, h.own.kpF k (by omega), h.ob, by omega⟩
theorem FfI.later {w X : World} {c : Nat} {a : Option Addr} {len cap e m : Nat} {S : Bool} {H L : BitVec 64} {Z : Int} {b : Option Addr} {n d : Nat} {us : List Pf} {Y : World} (h : FfI w X c a len cap e m S H L Z b n d us) (k : Below X.heap.size X Y) : FfI w Y c a len cap e m S H L Z b n d us := h.keep (h.cur.grew k) (Kp.of_below (by have := h.hc; have := h.kp.big; omega) k)
theorem FfI.grown {w X : World} {c : Nat} {a : Option Addr} {len cap e m : Nat} {S : Bool} {H L : BitVec 64} {Z : Int} {b : Option Addr} {n d : Nat} {us : List Pf} {Y : World} {g : Nat} (h : FfI w X c a len cap e m S H L Z b n d us) (k : X.grownBy Y (some g)) (hg : m ≤ g) : FfI w Y c a len cap e m S H L Z b n d us := by
  have h1 := h.he
  have h2 := h.sz
  have h3 := h.hc
  have hw : w.heap.size < X.heap.size := by omega
  have hb := k.size
  obtain ⟨r0, r1, r2, r3⟩ := h.r
  obtain ⟨q0, q1, q2, q3⟩ := h.q
  have nw : some w.heap.size ≠ some g := fun e => by simp at e; omega
  have ne : some e ≠ some g := fun e => by simp at e; omega
  exact ⟨h.cur.keep ((Below.refl _ _).grown k (by omega) (fun j hj => by simp at hj; omega)), h3, h.kp.grownO k (fun j hj => by simp at hj; omega) h3, ⟨cell_grO r0 k nw, cell_grO r1 k nw, cell_grO r2 k nw, cell_grO r3 k nw⟩, fun o => frz_grO k hw (h.rf o) nw, ⟨cell_grO q0 k ne, cell_grO q1 k ne, cell_grO q2 k ne, cell_grO q3 k ne⟩, fun o => frz_grO k (by omega) (h.qf o) ne, h1, h.own.grown k (fun j hj e => by have := (h.ob j hj).2; simp at e; omega), h.ob, by omega⟩
theorem FfI.top {w X : World} {c : Nat} {a : Option Addr} {len cap e m : Nat} {S : Bool} {H L : BitVec 64} {Z : Int} {b : Option Addr} {n d : Nat} {us : List Pf} (h : FfI w X c a len cap e m S H L Z b n d us) : FfI w X c a len cap e X.heap.size S H L Z b n d us := by
  have h2 := h.sz
  exact ⟨h.cur, h.hc, h.kp, h.r, h.rf, h.q, h.qf, ⟨h.he.1, by have := h.he.2; omega⟩, h.own, fun k hk => ⟨(h.ob k hk).1, by have := (h.ob k hk).2; omega⟩, Nat.le_refl _⟩
/-- Another pool is stored. -/
theorem FfI.pool {w X : World} {c : Nat} {a : Option Addr} {len cap e m : Nat} {S : Bool} {H L : BitVec 64} {Z : Int} {b : Option Addr} {n d : Nat} {us : List Pf} (h : FfI w X c a len cap e m S H L Z b n d us) (S' : Bool) (H' L' : BitVec 64) (Z' : Int) : FfI w ((((X.setCell ⟨e, 0, none⟩ (.bool S')).setCell ⟨e, 1, none⟩ (.int .i64 H'.toInt)).setCell ⟨e, 2, none⟩ (.int .i64 L'.toInt)).setCell ⟨e, 3, none⟩ (.int .i64 Z')) c a len cap e m S' H' L' Z' b n d us := by
  have h1 := h.he
  have h2 := h.sz
  have h3 := h.hc
  have hw : w.heap.size < X.heap.size := by omega
  obtain ⟨r0, r1, r2, r3⟩ := h.r
  obtain ⟨q0, q1, q2, q3⟩ := h.q
  have k := grown4 X e (.bool S') (.int .i64 H'.toInt) (.int .i64 L'.toInt) (.int .i64 Z')
  have nw : some w.heap.size ≠ some e := fun e' => by simp at e'; omega
  exact ⟨h.cur.keep ((Below.refl _ _).grown k (by omega) (fun j hj => by simp at hj; omega)), h3, h.kp.grownO k (fun j hj => by simp at hj; omega) h3, ⟨cell_grO r0 k nw, cell_grO r1 k nw, cell_grO r2 k nw, cell_grO r3 k nw⟩, fun o => frz_grO k hw (h.rf o) nw,
    ⟨by simp [go_sem, q0], by simp [go_sem, q1], by simp [go_sem, q2], by simp [go_sem, q3]⟩, fun o => by simpa [go_sem] using h.qf o, h1, h.own.grown k (fun j hj e' => by have := (h.ob j hj).1; simp at e'; omega), h.ob, by simpa using h2⟩
theorem FfI.app {w X : World} {c : Nat} {a : Option Addr} {len cap e m : Nat} {S : Bool} {H L : BitVec 64} {Z : Int} {b : Option Addr} {n d : Nat} {us : List Pf} {Y : World} {b' : Option Addr} {d' n' : Nat} {us' : List Pf} (h : FfI w X c a len cap e m S H L Z b n d us) (k : X.grownBy Y (Value.slice b n d).ownBlock) (ho : OwnG KPq 27 Y (w.heap.size + 1) (.slice b' n' d') us') (ha : b' = b ∨ b' = some ⟨X.heap.size, 0, none⟩) : FfI w Y c a len cap e Y.heap.size S H L Z b' n' d' us' := by
  have h1 := h.he
  have h2 := h.sz
  have h3 := h.hc
  have hw : w.heap.size < X.heap.size := by omega
  have hb := k.size
  obtain ⟨r0, r1, r2, r3⟩ := h.r
  obtain ⟨q0, q1, q2, q3⟩ := h.q
  have lo : ∀ j, (Value.slice b n d).ownBlock = some j → w.heap.size + 1 ≤ j := fun j hj => (OwnG.lt h.own j hj).1
  have nw : some w.heap.size ≠ (Value.slice b n d).ownBlock := fun e => by have := lo _ e.symm; omega
  have ne : some e ≠ (Value.slice b n d).ownBlock := fun e' => (h.ob _ e'.symm).1 rfl
  refine ⟨h.cur.keep ((Below.refl _ _).grown k (by omega) (fun j hj => by have := lo j hj; omega)), h3, h.kp.grownO k (fun j hj => by have := lo j hj; omega) h3, ⟨cell_grO r0 k nw, cell_grO r1 k nw, cell_grO r2 k nw, cell_grO r3 k nw⟩, fun o => frz_grO k hw (h.rf o) nw, ⟨cell_grO q0 k ne, cell_grO q1 k ne, cell_grO q2 k ne, cell_grO q3 k ne⟩, fun o => frz_grO k (by omega) (h.qf o) ne, ⟨h1.1, by omega⟩, ho, fun j hj => ⟨?_, (OwnG.lt ho j hj).2⟩, Nat.le_refl _⟩
  rcases ha with rfl | rfl
  · intro e'
    subst e'
    have hj2 : (Value.slice b' n d).ownBlock = some j := by
      cases b' with
      | none => simp [Value.ownBlock] at hj
      | some ad => simpa [Value.ownBlock] using hj
    exact (h.ob j hj2).1 rfl
  · simp [Value.ownBlock] at hj
    omega
/-- Another, empty row. -/
theorem FfI.row0 {w X : World} {c : Nat} {a : Option Addr} {len cap e m : Nat} {S : Bool} {H L : BitVec 64} {Z : Int} {b : Option Addr} {n d : Nat} {us : List Pf} (h : FfI w X c a len cap e m S H L Z b n d us) : FfI w (X.alloc (.cells #[] 27)) c a len cap e (X.alloc (.cells #[] 27)).heap.size S H L Z (some ⟨X.heap.size, 0, none⟩) 0 0 [] := by
  have g := (h.later (alloc_belowF X (.cells #[] 27))).top
  have h1 := h.he
  have h2 := h.sz
  exact ⟨g.cur, g.hc, g.kp, g.r, g.rf, g.q, g.qf, g.he, own_zeroG KPq X (w.heap.size + 1) 27 (by omega), fun k hk => by simp [Value.ownBlock] at hk; subst hk; exact ⟨by omega, by simp⟩, Nat.le_refl _⟩
/-- A box with a prefix, behind what is kept. -/
structure PfB (X : World) (q m : Nat) (S : Bool) (H L : BitVec 64) (Z : Int) : Prop where
  c : X.cell? ⟨q, 0, none⟩ = some (.bool S) ∧ X.cell? ⟨q, 1, none⟩ = some (.int .i64 H.toInt) ∧ X.cell? ⟨q, 2, none⟩ = some (.int .i64 L.toInt) ∧ X.cell? ⟨q, 3, none⟩ = some (.int .i64 Z)
  f : ∀ o, X.frozen? ⟨q, o, none⟩ = false
  l : q < X.heap.size
  m : m ≤ q
theorem PfB.keep {X Y : World} {q m c : Nat} {S : Bool} {H L : BitVec 64} {Z : Int} (h : PfB X q m S H L Z) (k : Kp c X Y) (hc : c < m) : PfB Y q m S H L Z := by
  obtain ⟨c0, c1, c2, c3⟩ := h.c
  have h1 := h.m
  exact ⟨⟨(k.cel _ 0 h.l (by omega)).trans c0, (k.cel _ 1 h.l (by omega)).trans c1, (k.cel _ 2 h.l (by omega)).trans c2, (k.cel _ 3 h.l (by omega)).trans c3⟩, fun o => (k.frz _ o h.l (by omega)).trans (h.f o), Nat.lt_of_lt_of_le h.l k.big, h.m⟩
theorem PfB.later {X Y : World} {q m : Nat} {S : Bool} {H L : BitVec 64} {Z : Int} (h : PfB X q m S H L Z) (k : Below X.heap.size X Y) : PfB Y q m S H L Z := by
  obtain ⟨c0, c1, c2, c3⟩ := h.c
  exact ⟨⟨(k.cell (p := ⟨_, 0, none⟩) h.l).trans c0, (k.cell (p := ⟨_, 1, none⟩) h.l).trans c1, (k.cell (p := ⟨_, 2, none⟩) h.l).trans c2, (k.cell (p := ⟨_, 3, none⟩) h.l).trans c3⟩, fun o => (k.frozen (p := ⟨_, o, none⟩) h.l).trans (h.f o), Nat.lt_of_lt_of_le h.l k.size, h.m⟩
theorem PfB.new (X : World) (m : Nat) (hm : m ≤ X.heap.size) (t : TypeId) (S : Bool) (H L : BitVec 64) (Z : Int) : PfB (X.alloc (.cells #[.bool S, .int .i64 H.toInt, .int .i64 L.toInt, .int .i64 Z] t)) X.heap.size m S H L Z :=
  ⟨⟨by simp [go_sem], by simp [go_sem], by simp [go_sem], by simp [go_sem]⟩, fun o => by simp [go_sem], by simp, hm⟩
theorem PfB.set {X : World} {q m : Nat} {S : Bool} {H L : BitVec 64} {Z : Int} (h : PfB X q m S H L Z) (S' : Bool) (H' L' : BitVec 64) (Z' : Int) : PfB ((((X.setCell ⟨q, 0, none⟩ (.bool S')).setCell ⟨q, 1, none⟩ (.int .i64 H'.toInt)).setCell ⟨q, 2, none⟩ (.int .i64 L'.toInt)).setCell ⟨q, 3, none⟩ (.int .i64 Z')) q m S' H' L' Z' := by
  obtain ⟨c0, c1, c2, c3⟩ := h.c
  exact ⟨⟨by simp [go_sem, c0], by simp [go_sem, c1], by simp [go_sem, c2], by simp [go_sem, c3]⟩, fun o => by simpa [go_sem] using h.f o, by simpa using h.l, h.m⟩
theorem src_oneP (X : World) (u : Pf) : Src Try.prog 4 28 (.slice (some ⟨X.heap.size, 0, none⟩) 1 1) 1 (gflat KPq [u]) (X.alloc (.cells #[.bool u.s, .int .i64 u.H.toInt, .int .i64 u.L.toInt, .int .i64 u.b] 27)) :=
  src_rowG (K := KPq) Try.underlying28 1 1 (by decide) rfl (own_oneG KPq X 0 27 u (Nat.zero_le _)).row (fun h => by cases h)
/-- The specification's Halves: some two prefixes. -/
theorem halves_some (S : Bool) (H L : BitVec 64) (Z : Int) : ∃ (A B : Pf) (ok : Bool), ∀ w : World, Calls Try.prog 30 #[.agg #[.bool S, .int .i64 H.toInt, .int .i64 L.toInt, .int .i64 Z]] w fun e w' => e = .returned (.tuple #[.agg #[.bool A.s, .int .i64 A.H.toInt, .int .i64 A.L.toInt, .int .i64 A.b], .agg #[.bool B.s, .int .i64 B.H.toInt, .int .i64 B.L.toInt, .int .i64 B.b], .bool ok]) ∧ Below w.heap.size w w' := by
  cases hp : pokB S H L Z
  · exact ⟨⟨false, 0, 0, 0⟩, ⟨false, 0, 0, 0⟩, false, fun w => sHalves_no S H L Z hp w⟩
  · cases he : (Z == (wd S : Int))
    · obtain ⟨h1, h2, _⟩ := pokB_parts hp
      have hne : Z ≠ (wd S : Int) := by rw [beq_eq_false_iff_ne] at he; exact he
      obtain ⟨k, hk⟩ : ∃ k : Nat, (k : Int) + 1 = (wd S : Int) - Z := ⟨((wd S : Int) - Z - 1).toNat, by omega⟩
      exact ⟨⟨S, H, L, Z + 1⟩, ⟨S, cH k (fH (k + 1) H), cL k (fL (k + 1) L), Z + 1⟩, true, fun w => sHalves_yes S H L Z k hk h1 (by omega) hp w⟩
    · exact ⟨⟨false, 0, 0, 0⟩, ⟨false, 0, 0, 0⟩, false, fun w => sHalves_one S H L Z hp he w⟩
theorem ints_at (X : World) (zs : List Int) (t : TypeId) (P : Int → Prop) (hP : ∀ z ∈ zs, P z) : ∀ j, j < zs.length → ∃ z, P z ∧ (X.alloc (.cells (zs.map (Value.int .i64)).toArray t)).cell? ⟨X.heap.size, j, none⟩ = some (.int .i64 z) := fun j hj =>
  ⟨zs[j], hP _ (List.getElem_mem hj), by simp [go_sem, hj]⟩

end Go.Proofs.Ytnlnigelecmobaa
namespace Go.Proofs.Ytnlnigelecmobaa
open Go.RowKit

set_option maxRecDepth 10000 in
set_option maxHeartbeats 16000000 in
theorem l4Draw_any (c : Nat) (a : Option Addr) (len cap : Nat) (w : World) (hC : Cur w c a len cap) :
    Calls Try.prog 14 #[.pointer (some ⟨c, 0, none⟩)] w fun e w' => (∃ (p : Pf) (us : List Pf) (b : Option Addr) (n d : Nat) (z : Int), n = us.length ∧ n ≤ 8 ∧ e = .returned (.tuple #[.agg #[.bool p.s, .int .i64 p.H.toInt, .int .i64 p.L.toInt, .int .i64 p.b], .slice b n d, .int .i64 z]) ∧ OwnG KPq 27 w' (w.heap.size + 1) (.slice b n d) us) ∧ Cur w' c a len cap ∧ Kp c w w' := by
  have hcw := hC.lt
  have HC0 := hidP (hC.more (.cells #[.bool false, .int .i64 0, .int .i64 0, .int .i64 0] 27))
  have HK0 := hidP (Kp.of_below hcw (alloc_belowF w (.cells #[.bool false, .int .i64 0, .int .i64 0, .int .i64 0] 27)))
  have hL : w.heap.size < (w.alloc (.cells #[.bool false, .int .i64 0, .int .i64 0, .int .i64 0] 27)).heap.size := by simp
  have HR0 := hidP (show ((w.alloc (.cells #[.bool false, .int .i64 0, .int .i64 0, .int .i64 0] 27)).cell? ⟨w.heap.size, 0, none⟩ = some (.bool false) ∧ (w.alloc (.cells #[.bool false, .int .i64 0, .int .i64 0, .int .i64 0] 27)).cell? ⟨w.heap.size, 1, none⟩ = some (.int .i64 0) ∧ (w.alloc (.cells #[.bool false, .int .i64 0, .int .i64 0, .int .i64 0] 27)).cell? ⟨w.heap.size, 2, none⟩ = some (.int .i64 0) ∧ (w.alloc (.cells #[.bool false, .int .i64 0, .int .i64 0, .int .i64 0] 27)).cell? ⟨w.heap.size, 3, none⟩ = some (.int .i64 0)) ∧ (∀ o, (w.alloc (.cells #[.bool false, .int .i64 0, .int .i64 0, .int .i64 0] 27)).frozen? ⟨w.heap.size, o, none⟩ = false) from ⟨⟨by simp [go_sem], by simp [go_sem], by simp [go_sem], by simp [go_sem]⟩, fun o => by simp [go_sem]⟩)
  clear hC
  go_enter Try.func14, Try.ntmps14
  go_wp2_with fail
  have hs0 : (w.alloc (.cells #[.bool false, .int .i64 0, .int .i64 0, .int .i64 0] 27)).heap.size = w.heap.size + 1 := by simp
  generalize w.alloc (.cells #[.bool false, .int .i64 0, .int .i64 0, .int .i64 0] 27) = w0 at *
  refine (l2Draw_any c a len cap _ HC0.out).mono ?_
  rintro e w1 ⟨⟨S, X, Y, Z, bb, rfl⟩, hC1, hK1⟩
  obtain ⟨H, rfl⟩ : ∃ H : BitVec 64, X = H.toInt := ⟨BitVec.ofInt 64 X, (bvW bb.1).symm⟩
  obtain ⟨L, rfl⟩ : ∃ L : BitVec 64, Y = L.toInt := ⟨BitVec.ofInt 64 Y, (bvW bb.2.1).symm⟩
  have HF0 : Hid (FfI w (w1.alloc (.cells #[.bool S, .int .i64 H.toInt, .int .i64 L.toInt, .int .i64 Z] 27)) c a len cap w1.heap.size (w1.alloc (.cells #[.bool S, .int .i64 H.toInt, .int .i64 L.toInt, .int .i64 Z] 27)).heap.size S H L Z none 0 0 []) := hidP (by
    obtain ⟨⟨r0, r1, r2, r3⟩, rf⟩ := HR0.out
    have k := alloc_belowF w1 (.cells #[.bool S, .int .i64 H.toInt, .int .i64 L.toInt, .int .i64 Z] 27)
    have hb := hK1.big
    have hk := HK0.out.big
    have hw1 : w.heap.size < w1.heap.size := by omega
    exact ⟨hC1.more _, hcw, (HK0.out.trans hK1).trans (Kp.of_below (by omega) k), ⟨(k.cell (p := ⟨_, 0, none⟩) hw1).trans ((hK1.cel _ 0 hL (by omega)).trans r0), (k.cell (p := ⟨_, 1, none⟩) hw1).trans ((hK1.cel _ 1 hL (by omega)).trans r1), (k.cell (p := ⟨_, 2, none⟩) hw1).trans ((hK1.cel _ 2 hL (by omega)).trans r2), (k.cell (p := ⟨_, 3, none⟩) hw1).trans ((hK1.cel _ 3 hL (by omega)).trans r3)⟩, fun o => (k.frozen (p := ⟨_, o, none⟩) hw1).trans ((hK1.frz _ o hL (by omega)).trans (rf o)),
      ⟨by simp [go_sem], by simp [go_sem], by simp [go_sem], by simp [go_sem]⟩, fun o => by simp [go_sem], ⟨by omega, by simp⟩, own_noneG KPq _ _ _, (fun k hk => by simp [Value.ownBlock] at hk), Nat.le_refl _⟩)
  clear hC1 hK1 bb HR0 HC0 HK0 hL hs0
  go_wp2_with fail
  generalize w1.alloc (.cells #[.bool S, .int .i64 H.toInt, .int .i64 L.toInt, .int .i64 Z] 27) = V0 at *
  generalize w1.heap.size = e at *
  refine (l1Once_any c a len cap 12 _ HF0.out.cur).mono ?_
  rintro e' w2 ⟨⟨B1, rfl⟩, hC2, hK2⟩
  have HF1 := hidP (HF0.out.keep hC2 hK2)
  clear hC2 hK2 HF0
  cases B1
  · have HF2 := HF1
    clear HF1
    have HF3 := hidP HF2.out.row0
    go_wp2_with fail
    generalize w2.alloc (.cells #[] 27) = V3 at *
    generalize w2.heap.size = g6 at *
    clear HF2
    refine (l1Below_any c a len cap 8 _ HF3.out.cur).mono ?_
    rintro e' w4 ⟨⟨j0, hj0, hj1, rfl⟩, hC4, hK4⟩
    have HF4 := hidP (HF3.out.keep hC4 hK4)
    have hj8 := hj1 (by omega)
    clear hC4 hK4 hj1 HF3
    go_wp2_with fail
    go_loopw [6, 7] (fun t6 t7 wr => ∃ (i : Int) (b : Option Addr) (n d m : Nat) (us : List Pf), t7 = .int .i64 i ∧ 0 ≤ i ∧ i ≤ 8 ∧ t6 = .slice b n d ∧ n = us.length ∧ (n : Int) + i ≤ 8 ∧ FfI w wr c a len cap e m S H L Z b n d us) (fun _ t7 _ => (intOf t7).toNat)
    case atStart => exact ⟨j0, _, 0, 0, _, [], rfl, hj0, by omega, rfl, rfl, by omega, HF4.out⟩
    case round =>
      obtain ⟨i, b, n, d, m, us, rfl, h0, h10, rfl, hn, hni, hF⟩ := hrel
      obtain ⟨v, rfl⟩ : ∃ X, X = wr := ⟨_, rfl⟩
      have HF := hidP hF.top
      have HN := hidP hn
      have hcm : c < v.heap.size := by have h1 := hF.hc; have h2 := hF.kp.big; omega
      clear hF hn
      obtain ⟨q0, q1, q2, q3⟩ := HF.out.q
      have ql : e < v.heap.size := HF.out.he.2
      by_cases hlt : 0 < i
      · have gi : decide (0 < i) = true := decide_eq_true hlt
        go_wp2_with fail
        have PB := hidP (PfB.new v v.heap.size (Nat.le_refl _) 27 S H L Z)
        have k8 := alloc_belowF v (.cells #[.bool S, .int .i64 H.toInt, .int .i64 L.toInt, .int .i64 Z] 27)
        have HF5 := hidP (HF.out.later k8)
        clear k8 q0 q1 q2 q3 ql
        have hcm5 : c < (v.alloc (.cells #[.bool S, .int .i64 H.toInt, .int .i64 L.toInt, .int .i64 Z] 27)).heap.size := by have h1 := HF5.out.hc; have h2 := HF5.out.kp.big; omega
        have z5 : (v.alloc (.cells #[.bool S, .int .i64 H.toInt, .int .i64 L.toInt, .int .i64 Z] 27)).heap.size = v.heap.size + 1 := by simp
        generalize v.alloc (.cells #[.bool S, .int .i64 H.toInt, .int .i64 L.toInt, .int .i64 Z] 27) = V5 at *
        have IA := hidP (ints_at V5 [1, 2, 3, 3, 4, 4, 5, 0] 3 (fun z => 0 ≤ z ∧ z ≤ 5) (by decide))
        have k9 := alloc_belowF V5 (.cells #[.int .i64 1, .int .i64 2, .int .i64 3, .int .i64 3, .int .i64 4, .int .i64 4, .int .i64 5, .int .i64 0] 3)
        have HF6 := hidP (HF5.out.later k9)
        have PB6 := hidP (PB.out.later k9)
        have hq9 : V5.heap.size < (V5.alloc (.cells #[.int .i64 1, .int .i64 2, .int .i64 3, .int .i64 3, .int .i64 4, .int .i64 4, .int .i64 5, .int .i64 0] 3)).heap.size := by simp
        clear k9 PB
        rw [z5] at IA hq9
        refine (l1Int_any (fun z => 0 ≤ z ∧ z ≤ 5) c a len cap (v.heap.size + 1) 8 _ HF6.out.cur (by omega) (by omega) hq9 (by omega) IA.out).mono ?_
        rintro e' w6 ⟨⟨z0, ⟨hz0, hz5⟩, rfl⟩, hC7, hK7⟩
        have HF7 := hidP (HF6.out.keep hC7 hK7)
        have PB7 := hidP (PB6.out.keep hK7 hcm)
        clear hC7 hK7 HF6 PB6 IA hq9 HF5 z5 hcm5
        go_wp2_with fail
        go_loopw [9] (fun t9 wr => ∃ (j : Int) (S8 : Bool) (H8 L8 : BitVec 64) (Z8 : Int), t9 = .int .i64 j ∧ 0 ≤ j ∧ j ≤ 5 ∧ FfI w wr c a len cap e v.heap.size S H L Z b n d us ∧ PfB wr v.heap.size v.heap.size S8 H8 L8 Z8) (fun t9 _ => (intOf t9).toNat)
        case atStart => exact ⟨z0, S, H, L, Z, rfl, hz0, hz5, HF7.out, PB7.out⟩
        case round =>
          obtain ⟨j, S8, H8, L8, Z8, rfl, hj0', hj5, hF8, hP8⟩ := hrel
          have HF8 := hidP hF8
          have PB8 := hidP hP8
          clear hF8 hP8
          obtain ⟨c0, c1, c2, c3⟩ := PB8.out.c
          have cf := PB8.out.f
          have cl := PB8.out.l
          by_cases hjl : 0 < j
          · have gj : decide (0 < j) = true := decide_eq_true hjl
            obtain ⟨A, B, ok, hH⟩ := halves_some S8 H8 L8 Z8
            have HH := hidP hH
            clear hH
            go_wp2_with fail
            refine (HH.out _).mono ?_
            rintro e' x1 ⟨rfl, k1⟩
            have HF9 := hidP (HF8.out.later k1)
            have PB9 := hidP (PB8.out.later k1)
            clear k1 HF8 PB8 c0 c1 c2 c3 cf cl HH
            have hvx : v.heap.size ≤ x1.heap.size := by have h1 := HF9.out.sz; omega
            have kA := alloc_belowF x1 (.cells #[.bool A.s, .int .i64 A.H.toInt, .int .i64 A.L.toInt, .int .i64 A.b] 27)
            have kB := alloc_belowF (x1.alloc (.cells #[.bool A.s, .int .i64 A.H.toInt, .int .i64 A.L.toInt, .int .i64 A.b] 27)) (.cells #[.bool B.s, .int .i64 B.H.toInt, .int .i64 B.L.toInt, .int .i64 B.b] 27)
            have PA := hidP ((PfB.new x1 v.heap.size hvx 27 A.s A.H A.L A.b).later kB)
            have zA : (x1.alloc (.cells #[.bool A.s, .int .i64 A.H.toInt, .int .i64 A.L.toInt, .int .i64 A.b] 27)).heap.size = x1.heap.size + 1 := by simp
            have PBx := hidP (PfB.new (x1.alloc (.cells #[.bool A.s, .int .i64 A.H.toInt, .int .i64 A.L.toInt, .int .i64 A.b] 27)) v.heap.size (by rw [zA]; omega) 27 B.s B.H B.L B.b)
            rw [zA] at PBx
            have HFa := hidP ((HF9.out.later kA).later kB)
            have PBa := hidP ((PB9.out.later kA).later kB)
            clear kA kB HF9 PB9 hvx zA
            cases ok
            · go_wp2_with fail
              go_roundw
              case rel => exact ⟨j - 1, _, _, _, _, by go_num, by omega, by omega, HFa.out, PBa.out⟩
              case measure => simp [intOf]; omega
            · go_wp2_with fail
              generalize (x1.alloc (.cells #[.bool A.s, .int .i64 A.H.toInt, .int .i64 A.L.toInt, .int .i64 A.b] 27)).alloc (.cells #[.bool B.s, .int .i64 B.H.toInt, .int .i64 B.L.toInt, .int .i64 B.b] 27) = x2 at *
              generalize x1.heap.size = gA at *
              refine (l1Once_any c a len cap 3 _ HFa.out.cur).mono ?_
              rintro e' x3 ⟨⟨B3, rfl⟩, hC9, hK9⟩
              have HFb := hidP (HFa.out.keep hC9 hK9)
              have PBb := hidP (PBa.out.keep hK9 hcm)
              have PAb := hidP (PA.out.keep hK9 hcm)
              have PXb := hidP (PBx.out.keep hK9 hcm)
              clear hC9 hK9 HFa PBa PA PBx
              obtain ⟨c0, c1, c2, c3⟩ := PBb.out.c
              have cf := PBb.out.f
              have cl := PBb.out.l
              obtain ⟨a0, a1, a2, a3⟩ := PAb.out.c
              have al := PAb.out.l
              obtain ⟨b0, b1, b2, b3⟩ := PXb.out.c
              have bl := PXb.out.l
              cases B3
              · have HFc := hidP (HFb.out.grown (grown4 x3 v.heap.size (.bool A.s) (.int .i64 A.H.toInt) (.int .i64 A.L.toInt) (.int .i64 A.b)) (Nat.le_refl _))
                have PBc := hidP (PBb.out.set A.s A.H A.L A.b)
                go_wp2_with fail
                go_roundw
                case rel => exact ⟨j - 1, _, _, _, _, by go_num, by omega, by omega, HFc.out, PBc.out⟩
                case measure => simp [intOf]; omega
              · have HFc := hidP (HFb.out.grown (grown4 x3 v.heap.size (.bool B.s) (.int .i64 B.H.toInt) (.int .i64 B.L.toInt) (.int .i64 B.b)) (Nat.le_refl _))
                have PBc := hidP (PBb.out.set B.s B.H B.L B.b)
                go_wp2_with fail
                go_roundw
                case rel => exact ⟨j - 1, _, _, _, _, by go_num, by omega, by omega, HFc.out, PBc.out⟩
                case measure => simp [intOf]; omega
          · have gj : decide (0 < j) = false := decide_eq_false hjl
            have gj2 : decide (j > 0) = false := decide_eq_false hjl
            obtain ⟨V9, rfl⟩ : ∃ X, X = wr := ⟨_, rfl⟩
            have SR := hidP (src_oneP V9 ⟨S8, H8, L8, Z8⟩)
            have ab := alloc_belowF V9 (.cells #[.bool S8, .int .i64 H8.toInt, .int .i64 L8.toInt, .int .i64 Z8] 27)
            have FA := hidP (HF8.out.later ab)
            have hBW : w.heap.size + 1 ≤ (V9.alloc (.cells #[.bool S8, .int .i64 H8.toInt, .int .i64 L8.toInt, .int .i64 Z8] 27)).heap.size := by have h1 := FA.out.he; have h2 := FA.out.sz; omega
            clear ab
            go_wp2_with (at_builtin; refine wpList_appG Try.tyPq _ rfl (.tmp 50) (.tmp 52) 28 rfl (w.heap.size + 1) b n d 1 us [⟨S8, H8, L8, Z8⟩] _ rfl HN.out rfl FA.out.own rfl SR.out (by omega) hBW ?_; intro b' d' y hown hgr hat)
            have FZ := hidP (FA.out.top.app hgr hown hat)
            have HN' : Hid (n + 1 = (us ++ [(⟨S8, H8, L8, Z8⟩ : Pf)]).length) := hidP (by rw [List.length_append, ← HN.out]; rfl)
            clear hown hgr hat SR FA hBW c0 c1 c2 c3 cf cl HF8 PB8
            go_wp2_with fail
            go_roundw
            case rel => exact ⟨i - 1, b', n + 1, d', _, us ++ [⟨S8, H8, L8, Z8⟩], by go_num, by omega, by omega, rfl, HN'.out, by omega, FZ.out⟩
            case measure => simp [intOf]; omega
      · have gi : decide (0 < i) = false := decide_eq_false hlt
        have gi2 : decide (i > 0) = false := decide_eq_false hlt
        clear q0 q1 q2 q3 ql
        go_upto_region 18 with fail
        have HSx : Hid (∀ x, FfI w x c a len cap e v.heap.size S H L Z b n d us → (x.cell? ⟨e, 0, none⟩ = some (.bool S) ∧ x.cell? ⟨e, 1, none⟩ = some (.int .i64 H.toInt) ∧ x.cell? ⟨e, 2, none⟩ = some (.int .i64 L.toInt) ∧ x.cell? ⟨e, 3, none⟩ = some (.int .i64 Z))) := hidP fun x h => h.q
        have FD := hidP (HF.out.keep (HF.out.cur.grew (Below.refl _ _).drew) (Kp.drew c v))
        refine wp_region_held_drew (S := (fun x => x.cell? ⟨e, 0, none⟩ = some (.bool S) ∧ x.cell? ⟨e, 1, none⟩ = some (.int .i64 H.toInt) ∧ x.cell? ⟨e, 2, none⟩ = some (.int .i64 L.toInt) ∧ x.cell? ⟨e, 3, none⟩ = some (.int .i64 Z))) (by kernel_rfl) ?_ (fun hHeld => ?_)
        · try dsimp only
          exact HSx.out _ FD.out
        generalize v.drew = D at *
        refine tk 0 54 rfl ?_
        simp only [pa]
        refine tk 1 55 rfl ?_
        simp only [pa]
        refine tk 2 56 rfl ?_
        simp only [pa]
        refine tk 3 57 rfl ?_
        simp only [pa]
        refine tk 4 58 rfl ?_
        simp only [pa]
        refine wpAnyH_ready (rs := [5]) (by kernel_rfl) (by simp) ?_
        refine AllReadyH.cons rfl (fun K hK => ?_) AllReadyH.nil
        go_simp
        have IA := hidP (ints_at D [0, 1, 2, 2, 3, 3, 4, 4, 5, 8, 60, 64, (-1)] 3 (fun z => -1 ≤ z ∧ z ≤ 64) (by decide))
        have k9 := alloc_belowF D (.cells #[.int .i64 0, .int .i64 1, .int .i64 2, .int .i64 2, .int .i64 3, .int .i64 3, .int .i64 4, .int .i64 4, .int .i64 5, .int .i64 8, .int .i64 60, .int .i64 64, .int .i64 (-1)] 3)
        have FE := hidP (FD.out.later k9)
        have hq9 : D.heap.size < (D.alloc (.cells #[.int .i64 0, .int .i64 1, .int .i64 2, .int .i64 2, .int .i64 3, .int .i64 3, .int .i64 4, .int .i64 4, .int .i64 5, .int .i64 8, .int .i64 60, .int .i64 64, .int .i64 (-1)] 3)).heap.size := by simp
        have hcD : c < D.heap.size := by have h1 := FD.out.hc; have h2 := FD.out.kp.big; omega
        clear k9
        refine hK.out _ _ ?_ (fun hHeld => ?_)
        · try dsimp only
          exact HSx.out _ FE.out
        clear hK K
        refine wpAnyH_ready (rs := [6]) (by kernel_rfl) (by simp) ?_
        refine AllReadyH.cons rfl (fun K hK => ?_) AllReadyH.nil
        go_simp
        go_wp2_with (first | (go_at_call 29; refine (l1Int_any (fun z => -1 ≤ z ∧ z ≤ 64) c a len cap D.heap.size 13 _ FE.out.cur (by omega) (by omega) hq9 (by omega) IA.out).mono ?_; rintro e' x6 ⟨⟨z0, ⟨hz0, hz5⟩, rfl⟩, hC7, hK7⟩))
        have FG := hidP (FE.out.keep hC7 hK7)
        clear hC7 hK7 IA hq9 FE
        refine hK.out _ _ ?_ (fun hHeld => ?_)
        · try dsimp only
          exact HSx.out _ FG.out
        clear hK K
        refine tk 7 61 rfl ?_
        simp only [pa]
        obtain ⟨r0, r1, r2, r3⟩ := FG.out.r
        have rf := FG.out.rf
        have rl : w.heap.size < x6.heap.size := by have h1 := FG.out.he; have h2 := FG.out.sz; omega
        refine wpAnyH_ready (rs := [8]) (by kernel_rfl) (by simp) ?_
        refine AllReadyH.cons rfl (fun K hK => ?_) AllReadyH.nil
        go_simp
        have KE : Hid (Kp c w ((((x6.setCell ⟨w.heap.size, 0, none⟩ (.bool S)).setCell ⟨w.heap.size, 1, none⟩ (.int .i64 H.toInt)).setCell ⟨w.heap.size, 2, none⟩ (.int .i64 L.toInt)).setCell ⟨w.heap.size, 3, none⟩ (.int .i64 Z)) ∧ Cur ((((x6.setCell ⟨w.heap.size, 0, none⟩ (.bool S)).setCell ⟨w.heap.size, 1, none⟩ (.int .i64 H.toInt)).setCell ⟨w.heap.size, 2, none⟩ (.int .i64 L.toInt)).setCell ⟨w.heap.size, 3, none⟩ (.int .i64 Z)) c a len cap ∧ OwnG KPq 27 ((((x6.setCell ⟨w.heap.size, 0, none⟩ (.bool S)).setCell ⟨w.heap.size, 1, none⟩ (.int .i64 H.toInt)).setCell ⟨w.heap.size, 2, none⟩ (.int .i64 L.toInt)).setCell ⟨w.heap.size, 3, none⟩ (.int .i64 Z)) (w.heap.size + 1) (.slice b n d) us) := hidP (by
          have k := grown4 x6 w.heap.size (.bool S) (.int .i64 H.toInt) (.int .i64 L.toInt) (.int .i64 Z)
          have h3 := FG.out.hc
          exact ⟨FG.out.kp.grownO k (fun j hj => by simp at hj; omega) h3, FG.out.cur.keep ((Below.refl _ _).grown k (by omega) (fun j hj => by simp at hj; omega)), FG.out.own.grown k (fun j hj e' => by have := (OwnG.lt FG.out.own j hj).1; simp at e'; omega)⟩)
        have SE : Hid (((((x6.setCell ⟨w.heap.size, 0, none⟩ (.bool S)).setCell ⟨w.heap.size, 1, none⟩ (.int .i64 H.toInt)).setCell ⟨w.heap.size, 2, none⟩ (.int .i64 L.toInt)).setCell ⟨w.heap.size, 3, none⟩ (.int .i64 Z)).cell? ⟨e, 0, none⟩ = some (.bool S) ∧ ((((x6.setCell ⟨w.heap.size, 0, none⟩ (.bool S)).setCell ⟨w.heap.size, 1, none⟩ (.int .i64 H.toInt)).setCell ⟨w.heap.size, 2, none⟩ (.int .i64 L.toInt)).setCell ⟨w.heap.size, 3, none⟩ (.int .i64 Z)).cell? ⟨e, 1, none⟩ = some (.int .i64 H.toInt) ∧ ((((x6.setCell ⟨w.heap.size, 0, none⟩ (.bool S)).setCell ⟨w.heap.size, 1, none⟩ (.int .i64 H.toInt)).setCell ⟨w.heap.size, 2, none⟩ (.int .i64 L.toInt)).setCell ⟨w.heap.size, 3, none⟩ (.int .i64 Z)).cell? ⟨e, 2, none⟩ = some (.int .i64 L.toInt) ∧ ((((x6.setCell ⟨w.heap.size, 0, none⟩ (.bool S)).setCell ⟨w.heap.size, 1, none⟩ (.int .i64 H.toInt)).setCell ⟨w.heap.size, 2, none⟩ (.int .i64 L.toInt)).setCell ⟨w.heap.size, 3, none⟩ (.int .i64 Z)).cell? ⟨e, 3, none⟩ = some (.int .i64 Z)) := hidP (by
          have k := grown4 x6 w.heap.size (.bool S) (.int .i64 H.toInt) (.int .i64 L.toInt) (.int .i64 Z)
          obtain ⟨q0, q1, q2, q3⟩ := FG.out.q
          have ne : some e ≠ some w.heap.size := fun e' => by have := FG.out.he; simp at e'; omega
          exact ⟨cell_grO q0 k ne, cell_grO q1 k ne, cell_grO q2 k ne, cell_grO q3 k ne⟩)
        refine hK.out _ _ ?_ (fun hHeld => ?_)
        · try dsimp only
          exact SE.out
        clear hK K
        refine tk 9 3 rfl ?_
        simp only [pa]
        refine tk 10 4 rfl ?_
        simp only [pa]
        refine wpAnyH_done (by kernel_rfl) ?_ _
        clear hHeld HSx
        go_wp2_with fail
        refine bodyPost_ret (v := .tuple #[.agg #[.bool S, .int .i64 H.toInt, .int .i64 L.toInt, .int .i64 Z], .slice b n d, .int .i64 (IntKind.i64.wrap (Z + z0))]) (by simp [results, Try.results14, go_sem, r0, r1, r2, r3]) rfl ⟨⟨⟨S, H, L, Z⟩, us, b, n, d, _, HN.out, by omega, rfl, KE.out.2.2⟩, KE.out.2.1, KE.out.1⟩
  · go_wp2_with fail
    refine (l2DrawAny_any c a len cap _ HF1.out.cur).mono ?_
    rintro e' w3 ⟨⟨S', X', Y', Z', bb, rfl⟩, hC3, hK3⟩
    obtain ⟨H', rfl⟩ : ∃ H : BitVec 64, X' = H.toInt := ⟨BitVec.ofInt 64 X', (bvW bb.1).symm⟩
    obtain ⟨L', rfl⟩ : ∃ L : BitVec 64, Y' = L.toInt := ⟨BitVec.ofInt 64 Y', (bvW bb.2.1).symm⟩
    have HF1b := hidP (HF1.out.keep hC3 hK3)
    have HF2 := hidP (HF1b.out.pool S' H' L' Z')
    obtain ⟨q0, q1, q2, q3⟩ := HF1b.out.q
    have qf := HF1b.out.qf
    have ql : e < w3.heap.size := by have h1 := HF1b.out.he; have h2 := HF1b.out.sz; omega
    clear hC3 hK3 bb HF1
    go_wp2_with fail
    clear q0 q1 q2 q3 qf ql HF1b
    have zz : ((((w3.setCell ⟨e, 0, none⟩ (.bool S')).setCell ⟨e, 1, none⟩ (.int .i64 H'.toInt)).setCell ⟨e, 2, none⟩ (.int .i64 L'.toInt)).setCell ⟨e, 3, none⟩ (.int .i64 Z')).heap.size = w3.heap.size := by simp
    generalize (((w3.setCell ⟨e, 0, none⟩ (.bool S')).setCell ⟨e, 1, none⟩ (.int .i64 H'.toInt)).setCell ⟨e, 2, none⟩ (.int .i64 L'.toInt)).setCell ⟨e, 3, none⟩ (.int .i64 Z') = V2 at *
    have HF3 := hidP HF2.out.row0
    have z3 : (V2.alloc (.cells #[] 27)).heap.size = V2.heap.size + 1 := by simp
    generalize V2.alloc (.cells #[] 27) = V3 at *
    rw [zz] at HF3 z3
    clear HF2 z3 zz
    generalize w3.heap.size = g6 at *
    refine (l1Below_any c a len cap 8 _ HF3.out.cur).mono ?_
    rintro e' w4 ⟨⟨j0, hj0, hj1, rfl⟩, hC4, hK4⟩
    have HF4 := hidP (HF3.out.keep hC4 hK4)
    have hj8 := hj1 (by omega)
    clear hC4 hK4 hj1 HF3
    go_wp2_with fail
    go_loopw [6, 7] (fun t6 t7 wr => ∃ (i : Int) (b : Option Addr) (n d m : Nat) (us : List Pf), t7 = .int .i64 i ∧ 0 ≤ i ∧ i ≤ 8 ∧ t6 = .slice b n d ∧ n = us.length ∧ (n : Int) + i ≤ 8 ∧ FfI w wr c a len cap e m S' H' L' Z' b n d us) (fun _ t7 _ => (intOf t7).toNat)
    case atStart => exact ⟨j0, _, 0, 0, _, [], rfl, hj0, by omega, rfl, rfl, by omega, HF4.out⟩
    case round =>
      obtain ⟨i, b, n, d, m, us, rfl, h0, h10, rfl, hn, hni, hF⟩ := hrel
      obtain ⟨v, rfl⟩ : ∃ X, X = wr := ⟨_, rfl⟩
      have HF := hidP hF.top
      have HN := hidP hn
      have hcm : c < v.heap.size := by have h1 := hF.hc; have h2 := hF.kp.big; omega
      clear hF hn
      obtain ⟨q0, q1, q2, q3⟩ := HF.out.q
      have ql : e < v.heap.size := HF.out.he.2
      by_cases hlt : 0 < i
      · have gi : decide (0 < i) = true := decide_eq_true hlt
        go_wp2_with fail
        have PB := hidP (PfB.new v v.heap.size (Nat.le_refl _) 27 S' H' L' Z')
        have k8 := alloc_belowF v (.cells #[.bool S', .int .i64 H'.toInt, .int .i64 L'.toInt, .int .i64 Z'] 27)
        have HF5 := hidP (HF.out.later k8)
        clear k8 q0 q1 q2 q3 ql
        have hcm5 : c < (v.alloc (.cells #[.bool S', .int .i64 H'.toInt, .int .i64 L'.toInt, .int .i64 Z'] 27)).heap.size := by have h1 := HF5.out.hc; have h2 := HF5.out.kp.big; omega
        have z5 : (v.alloc (.cells #[.bool S', .int .i64 H'.toInt, .int .i64 L'.toInt, .int .i64 Z'] 27)).heap.size = v.heap.size + 1 := by simp
        generalize v.alloc (.cells #[.bool S', .int .i64 H'.toInt, .int .i64 L'.toInt, .int .i64 Z'] 27) = V5 at *
        have IA := hidP (ints_at V5 [1, 2, 3, 3, 4, 4, 5, 0] 3 (fun z => 0 ≤ z ∧ z ≤ 5) (by decide))
        have k9 := alloc_belowF V5 (.cells #[.int .i64 1, .int .i64 2, .int .i64 3, .int .i64 3, .int .i64 4, .int .i64 4, .int .i64 5, .int .i64 0] 3)
        have HF6 := hidP (HF5.out.later k9)
        have PB6 := hidP (PB.out.later k9)
        have hq9 : V5.heap.size < (V5.alloc (.cells #[.int .i64 1, .int .i64 2, .int .i64 3, .int .i64 3, .int .i64 4, .int .i64 4, .int .i64 5, .int .i64 0] 3)).heap.size := by simp
        clear k9 PB
        rw [z5] at IA hq9
        refine (l1Int_any (fun z => 0 ≤ z ∧ z ≤ 5) c a len cap (v.heap.size + 1) 8 _ HF6.out.cur (by omega) (by omega) hq9 (by omega) IA.out).mono ?_
        rintro e' w6 ⟨⟨z0, ⟨hz0, hz5⟩, rfl⟩, hC7, hK7⟩
        have HF7 := hidP (HF6.out.keep hC7 hK7)
        have PB7 := hidP (PB6.out.keep hK7 hcm)
        clear hC7 hK7 HF6 PB6 IA hq9 HF5 z5 hcm5
        go_wp2_with fail
        go_loopw [9] (fun t9 wr => ∃ (j : Int) (S8 : Bool) (H8 L8 : BitVec 64) (Z8 : Int), t9 = .int .i64 j ∧ 0 ≤ j ∧ j ≤ 5 ∧ FfI w wr c a len cap e v.heap.size S' H' L' Z' b n d us ∧ PfB wr v.heap.size v.heap.size S8 H8 L8 Z8) (fun t9 _ => (intOf t9).toNat)
        case atStart => exact ⟨z0, S', H', L', Z', rfl, hz0, hz5, HF7.out, PB7.out⟩
        case round =>
          obtain ⟨j, S8, H8, L8, Z8, rfl, hj0', hj5, hF8, hP8⟩ := hrel
          have HF8 := hidP hF8
          have PB8 := hidP hP8
          clear hF8 hP8
          obtain ⟨c0, c1, c2, c3⟩ := PB8.out.c
          have cf := PB8.out.f
          have cl := PB8.out.l
          by_cases hjl : 0 < j
          · have gj : decide (0 < j) = true := decide_eq_true hjl
            obtain ⟨A, B, ok, hH⟩ := halves_some S8 H8 L8 Z8
            have HH := hidP hH
            clear hH
            go_wp2_with fail
            refine (HH.out _).mono ?_
            rintro e' x1 ⟨rfl, k1⟩
            have HF9 := hidP (HF8.out.later k1)
            have PB9 := hidP (PB8.out.later k1)
            clear k1 HF8 PB8 c0 c1 c2 c3 cf cl HH
            have hvx : v.heap.size ≤ x1.heap.size := by have h1 := HF9.out.sz; omega
            have kA := alloc_belowF x1 (.cells #[.bool A.s, .int .i64 A.H.toInt, .int .i64 A.L.toInt, .int .i64 A.b] 27)
            have kB := alloc_belowF (x1.alloc (.cells #[.bool A.s, .int .i64 A.H.toInt, .int .i64 A.L.toInt, .int .i64 A.b] 27)) (.cells #[.bool B.s, .int .i64 B.H.toInt, .int .i64 B.L.toInt, .int .i64 B.b] 27)
            have PA := hidP ((PfB.new x1 v.heap.size hvx 27 A.s A.H A.L A.b).later kB)
            have zA : (x1.alloc (.cells #[.bool A.s, .int .i64 A.H.toInt, .int .i64 A.L.toInt, .int .i64 A.b] 27)).heap.size = x1.heap.size + 1 := by simp
            have PBx := hidP (PfB.new (x1.alloc (.cells #[.bool A.s, .int .i64 A.H.toInt, .int .i64 A.L.toInt, .int .i64 A.b] 27)) v.heap.size (by rw [zA]; omega) 27 B.s B.H B.L B.b)
            rw [zA] at PBx
            have HFa := hidP ((HF9.out.later kA).later kB)
            have PBa := hidP ((PB9.out.later kA).later kB)
            clear kA kB HF9 PB9 hvx zA
            cases ok
            · go_wp2_with fail
              go_roundw
              case rel => exact ⟨j - 1, _, _, _, _, by go_num, by omega, by omega, HFa.out, PBa.out⟩
              case measure => simp [intOf]; omega
            · go_wp2_with fail
              generalize (x1.alloc (.cells #[.bool A.s, .int .i64 A.H.toInt, .int .i64 A.L.toInt, .int .i64 A.b] 27)).alloc (.cells #[.bool B.s, .int .i64 B.H.toInt, .int .i64 B.L.toInt, .int .i64 B.b] 27) = x2 at *
              generalize x1.heap.size = gA at *
              refine (l1Once_any c a len cap 3 _ HFa.out.cur).mono ?_
              rintro e' x3 ⟨⟨B3, rfl⟩, hC9, hK9⟩
              have HFb := hidP (HFa.out.keep hC9 hK9)
              have PBb := hidP (PBa.out.keep hK9 hcm)
              have PAb := hidP (PA.out.keep hK9 hcm)
              have PXb := hidP (PBx.out.keep hK9 hcm)
              clear hC9 hK9 HFa PBa PA PBx
              obtain ⟨c0, c1, c2, c3⟩ := PBb.out.c
              have cf := PBb.out.f
              have cl := PBb.out.l
              obtain ⟨a0, a1, a2, a3⟩ := PAb.out.c
              have al := PAb.out.l
              obtain ⟨b0, b1, b2, b3⟩ := PXb.out.c
              have bl := PXb.out.l
              cases B3
              · have HFc := hidP (HFb.out.grown (grown4 x3 v.heap.size (.bool A.s) (.int .i64 A.H.toInt) (.int .i64 A.L.toInt) (.int .i64 A.b)) (Nat.le_refl _))
                have PBc := hidP (PBb.out.set A.s A.H A.L A.b)
                go_wp2_with fail
                go_roundw
                case rel => exact ⟨j - 1, _, _, _, _, by go_num, by omega, by omega, HFc.out, PBc.out⟩
                case measure => simp [intOf]; omega
              · have HFc := hidP (HFb.out.grown (grown4 x3 v.heap.size (.bool B.s) (.int .i64 B.H.toInt) (.int .i64 B.L.toInt) (.int .i64 B.b)) (Nat.le_refl _))
                have PBc := hidP (PBb.out.set B.s B.H B.L B.b)
                go_wp2_with fail
                go_roundw
                case rel => exact ⟨j - 1, _, _, _, _, by go_num, by omega, by omega, HFc.out, PBc.out⟩
                case measure => simp [intOf]; omega
          · have gj : decide (0 < j) = false := decide_eq_false hjl
            have gj2 : decide (j > 0) = false := decide_eq_false hjl
            obtain ⟨V9, rfl⟩ : ∃ X, X = wr := ⟨_, rfl⟩
            have SR := hidP (src_oneP V9 ⟨S8, H8, L8, Z8⟩)
            have ab := alloc_belowF V9 (.cells #[.bool S8, .int .i64 H8.toInt, .int .i64 L8.toInt, .int .i64 Z8] 27)
            have FA := hidP (HF8.out.later ab)
            have hBW : w.heap.size + 1 ≤ (V9.alloc (.cells #[.bool S8, .int .i64 H8.toInt, .int .i64 L8.toInt, .int .i64 Z8] 27)).heap.size := by have h1 := FA.out.he; have h2 := FA.out.sz; omega
            clear ab
            go_wp2_with (at_builtin; refine wpList_appG Try.tyPq _ rfl (.tmp 50) (.tmp 52) 28 rfl (w.heap.size + 1) b n d 1 us [⟨S8, H8, L8, Z8⟩] _ rfl HN.out rfl FA.out.own rfl SR.out (by omega) hBW ?_; intro b' d' y hown hgr hat)
            have FZ := hidP (FA.out.top.app hgr hown hat)
            have HN' : Hid (n + 1 = (us ++ [(⟨S8, H8, L8, Z8⟩ : Pf)]).length) := hidP (by rw [List.length_append, ← HN.out]; rfl)
            clear hown hgr hat SR FA hBW c0 c1 c2 c3 cf cl HF8 PB8
            go_wp2_with fail
            go_roundw
            case rel => exact ⟨i - 1, b', n + 1, d', _, us ++ [⟨S8, H8, L8, Z8⟩], by go_num, by omega, by omega, rfl, HN'.out, by omega, FZ.out⟩
            case measure => simp [intOf]; omega
      · have gi : decide (0 < i) = false := decide_eq_false hlt
        have gi2 : decide (i > 0) = false := decide_eq_false hlt
        clear q0 q1 q2 q3 ql
        go_upto_region 18 with fail
        have HSx : Hid (∀ x, FfI w x c a len cap e v.heap.size S' H' L' Z' b n d us → (x.cell? ⟨e, 0, none⟩ = some (.bool S') ∧ x.cell? ⟨e, 1, none⟩ = some (.int .i64 H'.toInt) ∧ x.cell? ⟨e, 2, none⟩ = some (.int .i64 L'.toInt) ∧ x.cell? ⟨e, 3, none⟩ = some (.int .i64 Z'))) := hidP fun x h => h.q
        have FD := hidP (HF.out.keep (HF.out.cur.grew (Below.refl _ _).drew) (Kp.drew c v))
        refine wp_region_held_drew (S := (fun x => x.cell? ⟨e, 0, none⟩ = some (.bool S') ∧ x.cell? ⟨e, 1, none⟩ = some (.int .i64 H'.toInt) ∧ x.cell? ⟨e, 2, none⟩ = some (.int .i64 L'.toInt) ∧ x.cell? ⟨e, 3, none⟩ = some (.int .i64 Z'))) (by kernel_rfl) ?_ (fun hHeld => ?_)
        · try dsimp only
          exact HSx.out _ FD.out
        generalize v.drew = D at *
        refine tk 0 54 rfl ?_
        simp only [pa]
        refine tk 1 55 rfl ?_
        simp only [pa]
        refine tk 2 56 rfl ?_
        simp only [pa]
        refine tk 3 57 rfl ?_
        simp only [pa]
        refine tk 4 58 rfl ?_
        simp only [pa]
        refine wpAnyH_ready (rs := [5]) (by kernel_rfl) (by simp) ?_
        refine AllReadyH.cons rfl (fun K hK => ?_) AllReadyH.nil
        go_simp
        have IA := hidP (ints_at D [0, 1, 2, 2, 3, 3, 4, 4, 5, 8, 60, 64, (-1)] 3 (fun z => -1 ≤ z ∧ z ≤ 64) (by decide))
        have k9 := alloc_belowF D (.cells #[.int .i64 0, .int .i64 1, .int .i64 2, .int .i64 2, .int .i64 3, .int .i64 3, .int .i64 4, .int .i64 4, .int .i64 5, .int .i64 8, .int .i64 60, .int .i64 64, .int .i64 (-1)] 3)
        have FE := hidP (FD.out.later k9)
        have hq9 : D.heap.size < (D.alloc (.cells #[.int .i64 0, .int .i64 1, .int .i64 2, .int .i64 2, .int .i64 3, .int .i64 3, .int .i64 4, .int .i64 4, .int .i64 5, .int .i64 8, .int .i64 60, .int .i64 64, .int .i64 (-1)] 3)).heap.size := by simp
        have hcD : c < D.heap.size := by have h1 := FD.out.hc; have h2 := FD.out.kp.big; omega
        clear k9
        refine hK.out _ _ ?_ (fun hHeld => ?_)
        · try dsimp only
          exact HSx.out _ FE.out
        clear hK K
        refine wpAnyH_ready (rs := [6]) (by kernel_rfl) (by simp) ?_
        refine AllReadyH.cons rfl (fun K hK => ?_) AllReadyH.nil
        go_simp
        go_wp2_with (first | (go_at_call 29; refine (l1Int_any (fun z => -1 ≤ z ∧ z ≤ 64) c a len cap D.heap.size 13 _ FE.out.cur (by omega) (by omega) hq9 (by omega) IA.out).mono ?_; rintro e' x6 ⟨⟨z0, ⟨hz0, hz5⟩, rfl⟩, hC7, hK7⟩))
        have FG := hidP (FE.out.keep hC7 hK7)
        clear hC7 hK7 IA hq9 FE
        refine hK.out _ _ ?_ (fun hHeld => ?_)
        · try dsimp only
          exact HSx.out _ FG.out
        clear hK K
        refine tk 7 61 rfl ?_
        simp only [pa]
        obtain ⟨r0, r1, r2, r3⟩ := FG.out.r
        have rf := FG.out.rf
        have rl : w.heap.size < x6.heap.size := by have h1 := FG.out.he; have h2 := FG.out.sz; omega
        refine wpAnyH_ready (rs := [8]) (by kernel_rfl) (by simp) ?_
        refine AllReadyH.cons rfl (fun K hK => ?_) AllReadyH.nil
        go_simp
        have KE : Hid (Kp c w ((((x6.setCell ⟨w.heap.size, 0, none⟩ (.bool S')).setCell ⟨w.heap.size, 1, none⟩ (.int .i64 H'.toInt)).setCell ⟨w.heap.size, 2, none⟩ (.int .i64 L'.toInt)).setCell ⟨w.heap.size, 3, none⟩ (.int .i64 Z')) ∧ Cur ((((x6.setCell ⟨w.heap.size, 0, none⟩ (.bool S')).setCell ⟨w.heap.size, 1, none⟩ (.int .i64 H'.toInt)).setCell ⟨w.heap.size, 2, none⟩ (.int .i64 L'.toInt)).setCell ⟨w.heap.size, 3, none⟩ (.int .i64 Z')) c a len cap ∧ OwnG KPq 27 ((((x6.setCell ⟨w.heap.size, 0, none⟩ (.bool S')).setCell ⟨w.heap.size, 1, none⟩ (.int .i64 H'.toInt)).setCell ⟨w.heap.size, 2, none⟩ (.int .i64 L'.toInt)).setCell ⟨w.heap.size, 3, none⟩ (.int .i64 Z')) (w.heap.size + 1) (.slice b n d) us) := hidP (by
          have k := grown4 x6 w.heap.size (.bool S') (.int .i64 H'.toInt) (.int .i64 L'.toInt) (.int .i64 Z')
          have h3 := FG.out.hc
          exact ⟨FG.out.kp.grownO k (fun j hj => by simp at hj; omega) h3, FG.out.cur.keep ((Below.refl _ _).grown k (by omega) (fun j hj => by simp at hj; omega)), FG.out.own.grown k (fun j hj e' => by have := (OwnG.lt FG.out.own j hj).1; simp at e'; omega)⟩)
        have SE : Hid (((((x6.setCell ⟨w.heap.size, 0, none⟩ (.bool S')).setCell ⟨w.heap.size, 1, none⟩ (.int .i64 H'.toInt)).setCell ⟨w.heap.size, 2, none⟩ (.int .i64 L'.toInt)).setCell ⟨w.heap.size, 3, none⟩ (.int .i64 Z')).cell? ⟨e, 0, none⟩ = some (.bool S') ∧ ((((x6.setCell ⟨w.heap.size, 0, none⟩ (.bool S')).setCell ⟨w.heap.size, 1, none⟩ (.int .i64 H'.toInt)).setCell ⟨w.heap.size, 2, none⟩ (.int .i64 L'.toInt)).setCell ⟨w.heap.size, 3, none⟩ (.int .i64 Z')).cell? ⟨e, 1, none⟩ = some (.int .i64 H'.toInt) ∧ ((((x6.setCell ⟨w.heap.size, 0, none⟩ (.bool S')).setCell ⟨w.heap.size, 1, none⟩ (.int .i64 H'.toInt)).setCell ⟨w.heap.size, 2, none⟩ (.int .i64 L'.toInt)).setCell ⟨w.heap.size, 3, none⟩ (.int .i64 Z')).cell? ⟨e, 2, none⟩ = some (.int .i64 L'.toInt) ∧ ((((x6.setCell ⟨w.heap.size, 0, none⟩ (.bool S')).setCell ⟨w.heap.size, 1, none⟩ (.int .i64 H'.toInt)).setCell ⟨w.heap.size, 2, none⟩ (.int .i64 L'.toInt)).setCell ⟨w.heap.size, 3, none⟩ (.int .i64 Z')).cell? ⟨e, 3, none⟩ = some (.int .i64 Z')) := hidP (by
          have k := grown4 x6 w.heap.size (.bool S') (.int .i64 H'.toInt) (.int .i64 L'.toInt) (.int .i64 Z')
          obtain ⟨q0, q1, q2, q3⟩ := FG.out.q
          have ne : some e ≠ some w.heap.size := fun e' => by have := FG.out.he; simp at e'; omega
          exact ⟨cell_grO q0 k ne, cell_grO q1 k ne, cell_grO q2 k ne, cell_grO q3 k ne⟩)
        refine hK.out _ _ ?_ (fun hHeld => ?_)
        · try dsimp only
          exact SE.out
        clear hK K
        refine tk 9 3 rfl ?_
        simp only [pa]
        refine tk 10 4 rfl ?_
        simp only [pa]
        refine wpAnyH_done (by kernel_rfl) ?_ _
        clear hHeld HSx
        go_wp2_with fail
        refine bodyPost_ret (v := .tuple #[.agg #[.bool S', .int .i64 H'.toInt, .int .i64 L'.toInt, .int .i64 Z'], .slice b n d, .int .i64 (IntKind.i64.wrap (Z' + z0))]) (by simp [results, Try.results14, go_sem, r0, r1, r2, r3]) rfl ⟨⟨⟨S', H', L', Z'⟩, us, b, n, d, _, HN.out, by omega, rfl, KE.out.2.2⟩, KE.out.2.1, KE.out.1⟩

end Go.Proofs.Ytnlnigelecmobaa
namespace Go.Proofs.Ytnlnigelecmobaa
open Go.RowKit

set_option maxHeartbeats 1000000 in
theorem drawFF_any (a : Option Addr) (len cap : Nat) (w : World) (hB : Bytes w a len) (hl : len ≤ 1048576) :
    Calls Try.prog 5 #[.slice a len cap] w fun e w' => (∃ (p : Pf) (us : List Pf) (b : Option Addr) (n d : Nat) (z : Int), n = us.length ∧ n ≤ 8 ∧ e = .returned (.tuple #[.agg #[.bool p.s, .int .i64 p.H.toInt, .int .i64 p.L.toInt, .int .i64 p.b], .slice b n d, .int .i64 z]) ∧ OwnG KPq 27 w' (w.heap.size + 1) (.slice b n d) us) ∧ Below w.heap.size w w' := by
  have HB : Hid (Bytes (w.alloc (.cells #[.bool false, .int .i64 0, .int .i64 0, .int .i64 0] 27)) a len) := fun j hj => by
    obtain ⟨p, o, v, ha, hp, cv, v0, v9⟩ := hB j hj
    exact ⟨p, o, v, ha, by simp; omega, (((Below.refl _ w).alloc (Nat.le_refl _) _).cell hp).trans cv, v0, v9⟩
  clear hB
  go_enter Try.func5, Try.ntmps5
  go_wp2_with fail
  refine (l1New_any a len cap _ HB.out hl).mono ?_
  rintro e w1 ⟨rfl, hC1, hb1, hs1⟩
  have hC1' : Cur w1 (w.heap.size + 1) a len cap := by simpa using hC1
  have HC1 := hidP hC1'
  have hs : w1.heap.size = w.heap.size + 2 := by simpa using hs1
  have hL : w.heap.size < (w.alloc (.cells #[.bool false, .int .i64 0, .int .i64 0, .int .i64 0] 27)).heap.size := by simp
  have r0 := (hb1.cell (p := ⟨w.heap.size, 0, none⟩) hL).trans (show (w.alloc (.cells #[.bool false, .int .i64 0, .int .i64 0, .int .i64 0] 27)).cell? ⟨w.heap.size, 0, none⟩ = some (.bool false) by simp [go_sem])
  have r1 := (hb1.cell (p := ⟨w.heap.size, 1, none⟩) hL).trans (show (w.alloc (.cells #[.bool false, .int .i64 0, .int .i64 0, .int .i64 0] 27)).cell? ⟨w.heap.size, 1, none⟩ = some (.int .i64 0) by simp [go_sem])
  have r2 := (hb1.cell (p := ⟨w.heap.size, 2, none⟩) hL).trans (show (w.alloc (.cells #[.bool false, .int .i64 0, .int .i64 0, .int .i64 0] 27)).cell? ⟨w.heap.size, 2, none⟩ = some (.int .i64 0) by simp [go_sem])
  have r3 := (hb1.cell (p := ⟨w.heap.size, 3, none⟩) hL).trans (show (w.alloc (.cells #[.bool false, .int .i64 0, .int .i64 0, .int .i64 0] 27)).cell? ⟨w.heap.size, 3, none⟩ = some (.int .i64 0) by simp [go_sem])
  have rf := fun o => (hb1.frozen (p := ⟨w.heap.size, o, none⟩) hL).trans (show (w.alloc (.cells #[.bool false, .int .i64 0, .int .i64 0, .int .i64 0] 27)).frozen? ⟨w.heap.size, o, none⟩ = false by simp [go_sem])
  have b1 : Below w.heap.size w w1 := ((Below.refl _ w).alloc (Nat.le_refl _) _).trans (hb1.mono (by simp))
  clear hC1 hC1' hs1 hb1 hL
  go_wp2_with fail
  refine (l4Draw_any (w.heap.size + 1) a len cap _ HC1.out).mono ?_
  rintro e w2 ⟨⟨p, us, b, n, d, z, hn, hn8, rfl, hO⟩, _, hK⟩
  have hw1 : w.heap.size < w1.heap.size := by omega
  have hb := hK.big
  have s0 := (hK.cel _ 0 hw1 (by omega)).trans r0
  have s1 := (hK.cel _ 1 hw1 (by omega)).trans r1
  have s2 := (hK.cel _ 2 hw1 (by omega)).trans r2
  have s3 := (hK.cel _ 3 hw1 (by omega)).trans r3
  have sf := fun o => (hK.frz _ o hw1 (by omega)).trans (rf o)
  have sl : w.heap.size < w2.heap.size := by omega
  have b2 : Below w.heap.size w w2 := b1.trans (hK.low.mono (by omega))
  have HO := hidP (OwnG.mono (B' := w.heap.size + 1) hO (by omega))
  have HN := hidP hn
  have HB2 := hidP b2
  clear hK hO hn b1 b2 r0 r1 r2 r3 rf HC1
  go_wp2_with fail
  refine bodyPost_ret (v := .tuple #[.agg #[.bool p.s, .int .i64 p.H.toInt, .int .i64 p.L.toInt, .int .i64 p.b], .slice b n d, .int .i64 z]) (by simp [results, Try.results5, go_sem, s0, s1, s2, s3]) rfl ⟨⟨p, us, b, n, d, z, HN.out, hn8, rfl, OwnG.grown HO.out (grown4 w2 w.heap.size _ _ _ _) (fun k hk e => by have := (OwnG.lt HO.out k hk).1; simp at e; omega)⟩, ?_⟩
  exact Below.setCell (Below.setCell (Below.setCell (Below.setCell HB2.out (Nat.le_refl _) _) (Nat.le_refl _) _) (Nat.le_refl _) _) (Nat.le_refl _) _

end Go.Proofs.Ytnlnigelecmobaa
namespace Go.Proofs.Ytnlnigelecmobaa
open Go.RowKit

/-- An address as a number. -/
def adrN (H L : BitVec 64) : Nat := (H ++ L).toNat
def Sp.adr (x : Sp) : Nat := adrN x.H x.L

theorem adrN_inj {H L H' L' : BitVec 64} (h : adrN H L = adrN H' L') : H = H' ∧ L = L' := by
  have e : H ++ L = H' ++ L' := BitVec.eq_of_toNat_eq h
  constructor
  · apply BitVec.eq_of_getLsbD_eq
    intro i hi
    have := congrArg (fun v => v.getLsbD (64 + i)) e
    rw [BitVec.getLsbD_append, BitVec.getLsbD_append, if_neg (by omega), if_neg (by omega), Nat.add_sub_cancel_left] at this
    exact this
  · apply BitVec.eq_of_getLsbD_eq
    intro i hi
    have := congrArg (fun v => v.getLsbD i) e
    rw [BitVec.getLsbD_append, BitVec.getLsbD_append, if_pos hi, if_pos hi] at this
    exact this
theorem adr_bit (H L : BitVec 64) (i : Nat) : (adrN H L).testBit i = if i < 64 then L.getLsbD i else H.getLsbD (i - 64) := by
  unfold adrN
  rw [BitVec.testBit_toNat, BitVec.getLsbD_append]
theorem clr_adr (n : Nat) (H L : BitVec 64) : adrN (cH n H) (cL n L) = adrN H L >>> n <<< n := by
  apply Nat.eq_of_testBit_eq
  intro i
  rw [adr_bit, Nat.testBit_shiftLeft, Nat.testBit_shiftRight, adr_bit]
  unfold cH cL
  by_cases h : i < 64
  · rw [if_pos h]
    simp only [BitVec.getLsbD_and, BitVec.getLsbD_not, ml_bit, h, decide_true, Bool.true_and]
    by_cases hn : n ≤ i
    · rw [show n + (i - n) = i by omega, if_pos h]
      simp [hn, show ¬ i < n by omega]
    · simp [hn, show i < n by omega]
  · rw [if_neg h]
    by_cases hi : i < 128
    · have h6 : i - 64 < 64 := by omega
      simp only [BitVec.getLsbD_and, BitVec.getLsbD_not, mh_bit, h6, decide_true, Bool.true_and]
      by_cases hn : n ≤ i
      · rw [show n + (i - n) = i by omega, if_neg h]
        simp [hn, show ¬ i - 64 + 64 < n by omega]
      · simp [hn, show i - 64 + 64 < n by omega]
    · have e : ∀ v : BitVec 64, v.getLsbD (i - 64) = false := fun v => BitVec.getLsbD_of_ge v _ (by omega)
      rw [e]
      by_cases hn : n ≤ i
      · rw [show n + (i - n) = i by omega, if_neg h, e]; simp
      · simp [hn]

theorem upp_adr (k : Nat) (hk : k < 128) (H L : BitVec 64) (h1 : cH (k + 1) H = H) (h2 : cL (k + 1) L = L) : adrN (cH k (fH (k + 1) H)) (cL k (fL (k + 1) L)) = adrN H L + 2 ^ k := by
  have e : adrN H L = adrN H L >>> (k + 1) <<< (k + 1) := by
    have := clr_adr (k + 1) H L
    rw [h1, h2] at this; exact this
  rw [e, Nat.shiftLeft_add_eq_or_of_lt (Nat.pow_lt_pow_right (by omega) (by omega)), ← e]
  apply Nat.eq_of_testBit_eq
  intro i
  have hz : i < k + 1 → (adrN H L).testBit i = false := fun hi => by
    rw [e, Nat.testBit_shiftLeft]; simp; omega
  rw [Nat.testBit_or, Nat.testBit_two_pow, adr_bit, adr_bit] at *
  unfold cH cL fH fL
  by_cases h : i < 64
  · rw [if_pos h] at hz ⊢
    rw [if_pos h]
    simp only [BitVec.getLsbD_and, BitVec.getLsbD_or, BitVec.getLsbD_not, ml_bit, h, decide_true, Bool.true_and]
    by_cases a : i < k
    · rw [hz (by omega)]; simp [a]; omega
    · by_cases b : i = k
      · subst b; simp
      · simp [a, show ¬ i < k + 1 by omega, show ¬ k = i by omega]
  · rw [if_neg h] at hz ⊢
    rw [if_neg h]
    by_cases hi : i < 128
    · have h6 : i - 64 < 64 := by omega
      simp only [BitVec.getLsbD_and, BitVec.getLsbD_or, BitVec.getLsbD_not, mh_bit, h6, decide_true, Bool.true_and]
      by_cases a : i < k
      · rw [hz (by omega)]; simp [show i - 64 + 64 < k by omega]; omega
      · by_cases b : i = k
        · subst b; simp [show ¬ i - 64 + 64 < i by omega, show i - 64 + 64 < i + 1 by omega]
        · simp [show ¬ i - 64 + 64 < k by omega, show ¬ i - 64 + 64 < k + 1 by omega, show ¬ k = i by omega]
    · have ez : ∀ v : BitVec 64, v.getLsbD (i - 64) = false := fun v => BitVec.getLsbD_of_ge v _ (by omega)
      rw [ez, ez]
      simp; omega

theorem ok_mult {x : Sp} (h : x.ok) : x.adr = x.adr / 2 ^ x.n * 2 ^ x.n := by
  have e := clr_adr x.n x.H x.L
  rw [h.2.2.1, h.2.2.2] at e
  rw [Nat.shiftRight_eq_div_pow, Nat.shiftLeft_eq] at e
  exact e
/-- A single address lies in a span. -/
theorem one_in {t x : Sp} (ht : t.n = 0) (hx : x.ok) : wB t x = true ↔ t.s = x.s ∧ x.adr ≤ t.adr ∧ t.adr < x.adr + 2 ^ x.n := by
  have hm := ok_mult hx
  have hp : 0 < 2 ^ x.n := Nat.pow_pos (by omega)
  have e := clr_adr x.n t.H t.L
  rw [Nat.shiftRight_eq_div_pow, Nat.shiftLeft_eq] at e
  rw [wB_iff]
  constructor
  · rintro ⟨_, hs, h1, h2⟩
    rw [h1, h2] at e
    have e2 : x.adr = t.adr / 2 ^ x.n * 2 ^ x.n := e
    refine ⟨hs, ?_, ?_⟩
    · rw [e2]; exact Nat.div_mul_le_self _ _
    · rw [e2]
      have := Nat.lt_div_mul_add (a := t.adr) hp
      omega
  · rintro ⟨hs, h1, h2⟩
    have hq : t.adr / 2 ^ x.n = x.adr / 2 ^ x.n := by
      rw [hm] at h1 h2
      apply Nat.div_eq_of_lt_le
      · exact h1
      · rw [Nat.succ_mul]; exact h2
    have e3 : adrN (cH x.n t.H) (cL x.n t.L) = adrN x.H x.L := by
      rw [e]
      show t.adr / 2 ^ x.n * 2 ^ x.n = x.adr
      rw [hq]; exact hm.symm
    obtain ⟨a, b⟩ := adrN_inj e3
    exact ⟨by omega, hs, a, b⟩

end Go.Proofs.Ytnlnigelecmobaa
namespace Go.Proofs.Ytnlnigelecmobaa
open Go.RowKit

theorem cHH (n m : Nat) (h : n ≤ m) (H : BitVec 64) : cH m (cH n H) = cH m H := by
  apply BitVec.eq_of_getLsbD_eq
  intro i hi
  simp only [cH, BitVec.getLsbD_and, BitVec.getLsbD_not, mh_bit, hi, decide_true, Bool.true_and]
  by_cases a : i + 64 < n <;> by_cases b : i + 64 < m <;> simp [a, b] <;> omega
theorem cLL (n m : Nat) (h : n ≤ m) (L : BitVec 64) : cL m (cL n L) = cL m L := by
  apply BitVec.eq_of_getLsbD_eq
  intro i hi
  simp only [cL, BitVec.getLsbD_and, BitVec.getLsbD_not, ml_bit, hi, decide_true, Bool.true_and]
  by_cases a : i < n <;> by_cases b : i < m <;> simp [a, b] <;> omega
theorem cHd (n m : Nat) (h : n ≤ m) (H : BitVec 64) : cH n (cH m H) = cH m H := by
  apply BitVec.eq_of_getLsbD_eq
  intro i hi
  simp only [cH, BitVec.getLsbD_and, BitVec.getLsbD_not, mh_bit, hi, decide_true, Bool.true_and]
  by_cases a : i + 64 < n <;> by_cases b : i + 64 < m <;> simp [a, b] <;> omega
theorem cLd (n m : Nat) (h : n ≤ m) (L : BitVec 64) : cL n (cL m L) = cL m L := by
  apply BitVec.eq_of_getLsbD_eq
  intro i hi
  simp only [cL, BitVec.getLsbD_and, BitVec.getLsbD_not, ml_bit, hi, decide_true, Bool.true_and]
  by_cases a : i < n <;> by_cases b : i < m <;> simp [a, b] <;> omega
theorem wB_trans {a b c : Sp} (h1 : wB a b = true) (h2 : wB b c = true) : wB a c = true := by
  obtain ⟨n1, s1, e1, f1⟩ := (wB_iff _ _).1 h1
  obtain ⟨n2, s2, e2, f2⟩ := (wB_iff _ _).1 h2
  exact (wB_iff _ _).2 ⟨by omega, s1.trans s2, by rw [← e2, ← e1, cHH _ _ n2], by rw [← f2, ← f1, cLL _ _ n2]⟩
theorem wB_nest {z t x : Sp} (h1 : wB z t = true) (h2 : wB z x = true) : wB t x = true ∨ wB x t = true := by
  obtain ⟨n1, s1, e1, f1⟩ := (wB_iff _ _).1 h1
  obtain ⟨n2, s2, e2, f2⟩ := (wB_iff _ _).1 h2
  rcases Nat.le_total t.n x.n with h | h
  · left
    exact (wB_iff _ _).2 ⟨h, s1.symm.trans s2, by rw [← e1, cHH _ _ h, e2], by rw [← f1, cLL _ _ h, f2]⟩
  · right
    exact (wB_iff _ _).2 ⟨h, s2.symm.trans s1, by rw [← e2, cHH _ _ h, e1], by rw [← f2, cLL _ _ h, f1]⟩
theorem wB_self {x : Sp} (hx : x.ok) : wB x x = true := (wB_iff _ _).2 ⟨Nat.le_refl _, rfl, hx.2.2.1, hx.2.2.2⟩
/-- The first part of a span with so many free bits. -/
def subN (z : Sp) (s : Nat) : Sp := ⟨z.s, z.H, z.L, s⟩
theorem subN_ok {z : Sp} (hz : z.ok) {s : Nat} (hs : s ≤ z.n) : (subN z s).ok :=
  ⟨hz.1, Nat.le_trans hs hz.2.1, by show cH s z.H = z.H; rw [← hz.2.2.1, cHd _ _ hs], by show cL s z.L = z.L; rw [← hz.2.2.2, cLd _ _ hs]⟩
theorem subN_in {z : Sp} (hz : z.ok) {s : Nat} (hs : s ≤ z.n) : wB (subN z s) z = true := (wB_iff _ _).2 ⟨hs, rfl, hz.2.2.1, hz.2.2.2⟩
theorem wB_num {t x : Sp} (hx : x.ok) : wB t x = true ↔ t.n ≤ x.n ∧ t.s = x.s ∧ x.adr ≤ t.adr ∧ t.adr < x.adr + 2 ^ x.n := by
  have h := one_in (t := subN t 0) (x := x) rfl hx
  have e : wB t x = true ↔ t.n ≤ x.n ∧ wB (subN t 0) x = true := by
    rw [wB_iff, wB_iff]
    constructor
    · rintro ⟨a, b, c, d⟩; exact ⟨a, Nat.zero_le _, b, c, d⟩
    · rintro ⟨a, _, b, c, d⟩; exact ⟨a, b, c, d⟩
  rw [e, h]
  exact Iff.rfl
theorem upp_num {x : Sp} {k : Nat} (hx : x.ok) (hn : x.n = k + 1) : (uppS x k).adr = x.adr + 2 ^ k := upp_adr k (by have := hx.le; omega) x.H x.L (by rw [← hn]; exact hx.2.2.1) (by rw [← hn]; exact hx.2.2.2)
/-- What lies in a span, and is less, lies in one of its halves, and does not touch the other one. -/
theorem half_in {x p : Sp} {k : Nat} (hx : x.ok) (hn : x.n = k + 1) (hp : p.ok) (hw : wB p x = true) (hk : p.n ≤ k) :
    (wB p (lowS x k) = true ∧ wB p (uppS x k) = false ∧ wB (uppS x k) p = false ∧ p.adr < x.adr + 2 ^ k) ∨ (wB p (uppS x k) = true ∧ wB p (lowS x k) = false ∧ wB (lowS x k) p = false ∧ x.adr + 2 ^ k ≤ p.adr) := by
  have hl := low_ok hx hn
  have hu := upp_ok hx hn
  have eu := upp_num hx hn
  have el : (lowS x k).adr = x.adr := rfl
  obtain ⟨h1, h2, h3, h4⟩ := (wB_num hx).1 hw
  have hpow : (2 : Nat) ^ (k + 1) = 2 ^ k + 2 ^ k := by rw [Nat.pow_succ]; omega
  rw [hn, hpow] at h4
  by_cases hc : p.adr < x.adr + 2 ^ k
  · have a1 : wB p (lowS x k) = true := (wB_num hl).2 ⟨hk, h2, h3, hc⟩
    have a2 : wB p (uppS x k) = false := by
      rw [Bool.eq_false_iff]; intro h
      exact halves_part hx hn a1 h
    refine Or.inl ⟨a1, a2, ?_, hc⟩
    rw [Bool.eq_false_iff]; intro h
    have h5 := (wB_num hp).1 h
    have e : p.n = k := by have : k ≤ p.n := h5.1; omega
    have : wB p (uppS x k) = true := by
      obtain ⟨n1, s1, e1, f1⟩ := (wB_iff _ _).1 h
      have b1 : cH k (uppS x k).H = (uppS x k).H := hu.2.2.1
      have b2 : cL k (uppS x k).L = (uppS x k).L := hu.2.2.2
      rw [e] at e1 f1
      rw [b1] at e1; rw [b2] at f1
      refine (wB_iff _ _).2 ⟨hk, s1.symm, ?_, ?_⟩
      · show cH k p.H = (uppS x k).H; rw [← e1, b1]
      · show cL k p.L = (uppS x k).L; rw [← f1, b2]
    rw [a2] at this; cases this
  · have a1 : wB p (uppS x k) = true := (wB_num hu).2 ⟨hk, h2, by rw [eu]; omega, by rw [eu]; show p.adr < x.adr + 2 ^ k + 2 ^ k; omega⟩
    have a2 : wB p (lowS x k) = false := by
      rw [Bool.eq_false_iff]; intro h
      exact halves_part hx hn h a1
    refine Or.inr ⟨a1, a2, ?_, by omega⟩
    rw [Bool.eq_false_iff]; intro h
    have h5 := ((wB_num hp).1 h).2.2.1
    rw [el] at h5
    have : 0 < 2 ^ k := Nat.pow_pos (by omega)
    omega
/-- Free of a list: none lies in it, and it lies in none. -/
def Fr (p : Sp) (l : List Sp) : Prop := ∀ t ∈ l, wB p t = false ∧ wB t p = false
theorem Fr.filter {p : Sp} {l : List Sp} (h : Fr p l) (f : Sp → Bool) : Fr p (l.filter f) := fun t ht => h t (List.mem_filter.1 ht).1
theorem left_apart (k : Nat) (x p : Sp) (l : List Sp) (h1 : wB p x = false) (h2 : wB x p = false) : leftM k x (l ++ [p]) = leftM k x l := by
  have ea : (l ++ [p]).any (wB x) = l.any (wB x) := by rw [List.any_append]; simp [h2]
  have ef : (l ++ [p]).filter (fun t => wB t x) = l.filter (fun t => wB t x) := by rw [List.filter_append]; simp [h1]
  cases k with
  | zero => unfold leftM; rw [ea]
  | succ k => unfold leftM; rw [ea, ef]
def sumR (s : Nat) : List Sp → Nat
  | [] => 0
  | z :: r => (if s ≤ z.n then 2 ^ (z.n - s) else 0) + sumR s r
theorem sumR_app (s : Nat) : ∀ a b : List Sp, sumR s (a ++ b) = sumR s a + sumR s b
  | [], b => by simp [sumR]
  | z :: r, b => by simp only [List.cons_append, sumR, sumR_app s r b]; omega
theorem left_nil {k : Nat} {x : Sp} : leftM k x [] = [x] := by
  cases k <;> simp [leftM]
theorem left_one : ∀ (k : Nat) (x : Sp) (l : List Sp) (p : Sp), x.ok → x.n = k → p.ok → wB p x = true → Fr p l → sumR p.n (leftM k x (l ++ [p])) + 1 = sumR p.n (leftM k x l) := by
  intro k
  induction k with
  | zero =>
    intro x l p hx hn hp hw hf
    have hpn : p.n = 0 := by have := ((wB_iff _ _).1 hw).1; omega
    have ha : l.any (wB x) = false := by
      rw [Bool.eq_false_iff]; intro h
      obtain ⟨t, ht, hxt⟩ := List.any_eq_true.1 h
      have := (hf t ht).1
      rw [wB_trans hw hxt] at this; cases this
    have hxp : wB x p = true := by
      rcases wB_nest (wB_self hp) hw with h | h
      · obtain ⟨n1, s1, e1, f1⟩ := (wB_iff _ _).1 h
        rw [hn, c0H] at e1
        rw [hn, c0L] at f1
        exact (wB_iff _ _).2 ⟨by omega, s1.symm, by rw [hpn, c0H, e1], by rw [hpn, c0L, f1]⟩
      · exact h
    unfold leftM
    rw [if_pos (show (l ++ [p]).any (wB x) = true by rw [List.any_append, ha]; simp [hxp]), if_neg (show ¬ l.any (wB x) = true by rw [ha]; simp)]
    simp [sumR, hpn, hn]
  | succ k ih =>
    intro x l p hx hn hp hw hf
    have ha : l.any (wB x) = false := by
      rw [Bool.eq_false_iff]; intro h
      obtain ⟨t, ht, hxt⟩ := List.any_eq_true.1 h
      have := (hf t ht).1
      rw [wB_trans hw hxt] at this; cases this
    have ef : (l ++ [p]).filter (fun t => wB t x) = l.filter (fun t => wB t x) ++ [p] := by rw [List.filter_append]; simp [hw]
    have hl := low_ok hx hn
    have hu := upp_ok hx hn
    cases hxp : wB x p
    · -- less than the whole
      have hpk : p.n ≤ k := by
        rcases Nat.lt_or_ge k p.n with h | h
        · exfalso
          have h1 := ((wB_iff _ _).1 hw).1
          have e : p.n = x.n := by omega
          obtain ⟨_, s1, e1, f1⟩ := (wB_iff _ _).1 hw
          have b1 := hp.2.2.1
          have b2 := hp.2.2.2
          rw [e] at b1 b2
          rw [b1] at e1; rw [b2] at f1
          have : wB x p = true := (wB_iff _ _).2 ⟨by omega, s1.symm, by rw [e, ← e1, b1], by rw [e, ← f1, b2]⟩
          rw [hxp] at this; cases this
        · exact h
      have key : ∀ N : List Sp, Fr p N → sumR p.n (leftM k (lowS x k) (N ++ [p]) ++ leftM k (uppS x k) (N ++ [p])) + 1 = sumR p.n (leftM k (lowS x k) N ++ leftM k (uppS x k) N) := fun N hN => by
        rw [sumR_app, sumR_app]
        rcases half_in hx hn hp hw hpk with ⟨a1, a2, a3, _⟩ | ⟨a1, a2, a3, _⟩
        · rw [left_apart k (uppS x k) p N a2 a3]
          have := ih (lowS x k) N p hl rfl hp a1 hN
          omega
        · rw [left_apart k (lowS x k) p N a2 a3]
          have := ih (uppS x k) N p hu rfl hp a1 hN
          omega
      have e1 : leftM (k + 1) x (l ++ [p]) = leftM k (lowS x k) (l.filter (fun t => wB t x) ++ [p]) ++ leftM k (uppS x k) (l.filter (fun t => wB t x) ++ [p]) := by
        conv => lhs; unfold leftM
        rw [if_neg (by rw [List.any_append, ha]; simp [hxp]), ef, if_neg (by simp)]
      rw [e1]
      by_cases hfe : l.filter (fun t => wB t x) = []
      · have e2 : leftM (k + 1) x l = [x] := by
          conv => lhs; unfold leftM
          rw [if_neg (by rw [ha]; simp), if_pos hfe]
        rw [e2, hfe]
        have h1 := key [] (fun t ht => by cases ht)
        rw [left_nil, left_nil] at h1
        have h2 : sumR p.n ([lowS x k] ++ [uppS x k]) = 2 ^ (k - p.n) + 2 ^ (k - p.n) := by
          have c1 : (lowS x k).n = k := rfl
          have c2 : (uppS x k).n = k := rfl
          simp only [List.cons_append, List.nil_append, sumR, c1, c2, hpk, if_true]; omega
        have h3 : sumR p.n [x] = 2 ^ (k - p.n) + 2 ^ (k - p.n) := by
          have : p.n ≤ x.n := by omega
          show (if p.n ≤ x.n then 2 ^ (x.n - p.n) else 0) + 0 = _
          rw [if_pos this, hn, show k + 1 - p.n = (k - p.n) + 1 by omega, Nat.pow_succ]; omega
        rw [h2] at h1
        rw [h3]; exact h1
      · have e2 : leftM (k + 1) x l = leftM k (lowS x k) (l.filter (fun t => wB t x)) ++ leftM k (uppS x k) (l.filter (fun t => wB t x)) := by
          conv => lhs; unfold leftM
          rw [if_neg (by rw [ha]; simp), if_neg hfe]
        rw [e2]
        exact key _ (hf.filter _)
    · -- the whole
      have e : p.n = k + 1 := by have h1 := ((wB_iff _ _).1 hw).1; have h2 := ((wB_iff _ _).1 hxp).1; omega
      have hfe : l.filter (fun t => wB t x) = [] := by
        rw [List.filter_eq_nil_iff]
        intro t ht h
        have := (hf t ht).2
        rw [wB_trans h hxp] at this; cases this
      have e1 : leftM (k + 1) x (l ++ [p]) = [] := by
        unfold leftM
        rw [if_pos (by rw [List.any_append]; simp [hxp])]
      have e2 : leftM (k + 1) x l = [x] := by
        conv => lhs; unfold leftM
        rw [if_neg (by rw [ha]; simp), if_pos hfe]
      rw [e1, e2]
      simp [sumR, e, hn]
/-- Each part that is left is right, lies in the span, and touches nothing that is taken. -/
theorem left_part : ∀ (k : Nat) (x : Sp) (l : List Sp), x.ok → x.n = k → ∀ z ∈ leftM k x l, z.ok ∧ wB z x = true ∧ Fr z l := by
  intro k
  induction k with
  | zero =>
    intro x l hx hn z hz
    unfold leftM at hz
    split at hz
    · cases hz
    · rename_i ha
      have : z = x := by simpa using hz
      subst this
      refine ⟨hx, wB_self hx, fun t ht => ⟨?_, ?_⟩⟩
      · rw [Bool.eq_false_iff]; intro h; exact ha (List.any_eq_true.2 ⟨t, ht, h⟩)
      · rw [Bool.eq_false_iff]; intro h
        exact ha (near_zero hn (l := l) (fun hf => by
          have h5 : t ∈ l.filter (fun t => wB t z) := List.mem_filter.2 ⟨ht, h⟩
          rw [hf] at h5; cases h5))
  | succ k ih =>
    intro x l hx hn z hz
    unfold leftM at hz
    split at hz
    · cases hz
    · rename_i ha
      split at hz
      · rename_i hf
        have : z = x := by simpa using hz
        subst this
        refine ⟨hx, wB_self hx, fun t ht => ⟨?_, ?_⟩⟩
        · rw [Bool.eq_false_iff]; intro h; exact ha (List.any_eq_true.2 ⟨t, ht, h⟩)
        · rw [Bool.eq_false_iff]; intro h
          have h5 : t ∈ l.filter (fun t => wB t z) := List.mem_filter.2 ⟨ht, h⟩
          rw [hf] at h5; cases h5
      · have hl := low_ok hx hn
        have hu := upp_ok hx hn
        have inx : wB (lowS x k) x = true ∧ wB (uppS x k) x = true := by
          have hp : 0 < 2 ^ k := Nat.pow_pos (by omega)
          have hpow : (2 : Nat) ^ (k + 1) = 2 ^ k + 2 ^ k := by rw [Nat.pow_succ]; omega
          have eu := upp_num hx hn
          have el : (lowS x k).adr = x.adr := rfl
          exact ⟨(wB_num hx).2 ⟨by show k ≤ x.n; omega, rfl, by omega, by rw [hn, hpow, el]; omega⟩, (wB_num hx).2 ⟨by show k ≤ x.n; omega, rfl, by omega, by rw [hn, hpow, eu]; omega⟩⟩
        have fin : ∀ y : Sp, z.ok → wB z y = true → wB y x = true → Fr z (l.filter fun t => wB t x) → z.ok ∧ wB z x = true ∧ Fr z l := fun y hzo hzy hyx hfr => by
          have hzx := wB_trans hzy hyx
          refine ⟨hzo, hzx, fun t ht => ?_⟩
          cases htx : wB t x
          · refine ⟨?_, ?_⟩
            · rw [Bool.eq_false_iff]; intro h
              rcases wB_nest h hzx with h1 | h1
              · rw [htx] at h1; cases h1
              · exact ha (List.any_eq_true.2 ⟨t, ht, h1⟩)
            · rw [Bool.eq_false_iff]; intro h
              rw [wB_trans h hzx] at htx; cases htx
          · exact hfr t (List.mem_filter.2 ⟨ht, htx⟩)
        rcases List.mem_append.1 hz with h | h
        · obtain ⟨a, b, c⟩ := ih (lowS x k) _ hl rfl z h
          exact fin _ a b inx.1 c
        · obtain ⟨a, b, c⟩ := ih (uppS x k) _ hu rfl z h
          exact fin _ a b inx.2 c
def rmB (s : Nat) (z : Sp) : Bool := decide (s ≤ z.n)
/-- With the first one taken, the next one is farther on. -/
theorem left_next : ∀ (k : Nat) (x : Sp) (l : List Sp) (s : Nat) (z : Sp) (r : List Sp), x.ok → x.n = k → (leftM k x l).filter (rmB s) = z :: r → ∀ z' ∈ (leftM k x (l ++ [subN z s])).filter (rmB s), z.adr < z'.adr := by
  intro k
  induction k with
  | zero =>
    intro x l s z r hx hn hz z' hz'
    have hm : z ∈ (leftM 0 x l).filter (rmB s) := by rw [hz]; exact List.mem_cons_self ..
    obtain ⟨hm, hs⟩ := List.mem_filter.1 hm
    have hs : s ≤ z.n := of_decide_eq_true hs
    unfold leftM at hm
    split at hm
    · cases hm
    · rename_i ha
      have e : z = x := by simpa using hm
      subst e
      exfalso
      unfold leftM at hz'
      rw [if_pos (by
        rw [List.any_append]
        have : wB z (subN z s) = true := by
          have hs0 : s = z.n := by omega
          subst hs0
          exact wB_self hx
        simp [this])] at hz'
      simp at hz'
  | succ k ih =>
    intro x l s z r hx hn hz z' hz'
    have hm : z ∈ (leftM (k + 1) x l).filter (rmB s) := by rw [hz]; exact List.mem_cons_self ..
    obtain ⟨hm, hs⟩ := List.mem_filter.1 hm
    have hs : s ≤ z.n := of_decide_eq_true hs
    obtain ⟨hzo, hzx, hzf⟩ := left_part (k + 1) x l hx hn z hm
    have hl := low_ok hx hn
    have hu := upp_ok hx hn
    have eu := upp_num hx hn
    have el : (lowS x k).adr = x.adr := rfl
    have hp : 0 < 2 ^ k := Nat.pow_pos (by omega)
    have po := subN_ok hzo hs
    have pin := subN_in hzo hs
    have pa : (subN z s).adr = z.adr := rfl
    have pn : (subN z s).n = s := rfl
    generalize hP : subN z s = p at *
    have hpx := wB_trans pin hzx
    have ef : (l ++ [p]).filter (fun t => wB t x) = l.filter (fun t => wB t x) ++ [p] := by rw [List.filter_append]; simp [hpx]
    by_cases ha : l.any (wB x) = true
    · exfalso
      unfold leftM at hm
      rw [if_pos ha] at hm
      cases hm
    · have ha' : l.any (wB x) = false := by simpa using ha
      cases hxp : wB x p
      · have hpk : p.n ≤ k := by
          rcases Nat.lt_or_ge k p.n with h | h
          · exfalso
            have h1 := ((wB_iff _ _).1 hpx).1
            have e : p.n = x.n := by omega
            obtain ⟨_, s1, e1, f1⟩ := (wB_iff _ _).1 hpx
            have b1 := po.2.2.1
            have b2 := po.2.2.2
            rw [e] at b1 b2
            rw [b1] at e1; rw [b2] at f1
            have : wB x p = true := (wB_iff _ _).2 ⟨by omega, s1.symm, by rw [e, ← e1, b1], by rw [e, ← f1, b2]⟩
            rw [hxp] at this; cases this
          · exact h
        have e1 : leftM (k + 1) x (l ++ [p]) = leftM k (lowS x k) (l.filter (fun t => wB t x) ++ [p]) ++ leftM k (uppS x k) (l.filter (fun t => wB t x) ++ [p]) := by
          conv => lhs; unfold leftM
          rw [if_neg (by rw [List.any_append, ha']; simp [hxp]), ef, if_neg (by simp)]
        rw [e1, List.filter_append] at hz'
        -- the halves' parts, of a list N whose first part with room is z
        have key : ∀ N : List Sp, (∃ r', (leftM k (lowS x k) N ++ leftM k (uppS x k) N).filter (rmB s) = (if wB p (lowS x k) = true then (leftM k (lowS x k) N).filter (rmB s) else []) ++ r') → True := fun _ _ => trivial
        clear key
        have go : ∀ N : List Sp, z'  ∈ (leftM k (lowS x k) (N ++ [p])).filter (rmB s) ++ (leftM k (uppS x k) (N ++ [p])).filter (rmB s) →
            (wB p (lowS x k) = true → ∃ y r', (leftM k (lowS x k) N).filter (rmB s) = y :: r' ∧ subN y s = p) → (wB p (uppS x k) = true → (leftM k (lowS x k) N).filter (rmB s) = [] ∧ ∃ y r', (leftM k (uppS x k) N).filter (rmB s) = y :: r' ∧ subN y s = p) → z.adr < z'.adr := fun N hN h1 h2 => by
          rcases half_in hx hn po hpx hpk with ⟨a1, a2, a3, a4⟩ | ⟨a1, a2, a3, a4⟩
          · obtain ⟨y, r', hy, hyp⟩ := h1 a1
            rcases List.mem_append.1 hN with h | h
            · have := ih (lowS x k) N s y r' hl rfl hy z' (by rw [hyp]; exact h)
              have ey : y.adr = z.adr := by rw [← pa, ← hyp]; rfl
              omega
            · rw [left_apart k (uppS x k) p N a2 a3] at h
              have h3 := (left_part k (uppS x k) N hu rfl z' (List.mem_filter.1 h).1).2.1
              have h4 := ((wB_num hu).1 h3).2.2.1
              omega
          · obtain ⟨h0, y, r', hy, hyp⟩ := h2 a1
            rcases List.mem_append.1 hN with h | h
            · rw [left_apart k (lowS x k) p N a2 a3, h0] at h
              cases h
            · have := ih (uppS x k) N s y r' hu rfl hy z' (by rw [hyp]; exact h)
              have ey : y.adr = z.adr := by rw [← pa, ← hyp]; rfl
              omega
        by_cases hfe : l.filter (fun t => wB t x) = []
        · have e2 : leftM (k + 1) x l = [x] := by
            conv => lhs; unfold leftM
            rw [if_neg ha, if_pos hfe]
          have ez : z = x := by rw [e2] at hm; simpa using hm
          subst ez
          rw [hfe] at hz'
          have pnk : s ≤ k := by omega
          refine go [] hz' (fun _ => ⟨lowS z k, [], ?_, ?_⟩) (fun h => ?_)
          · rw [left_nil]
            have : rmB s (lowS z k) = true := decide_eq_true pnk
            simp [this]
          · rw [← hP]; rfl
          · exfalso
            have h4 := ((wB_num hu).1 h).2.2.1
            omega
        · have e2 : leftM (k + 1) x l = leftM k (lowS x k) (l.filter (fun t => wB t x)) ++ leftM k (uppS x k) (l.filter (fun t => wB t x)) := by
            conv => lhs; unfold leftM
            rw [if_neg ha, if_neg hfe]
          rw [e2, List.filter_append] at hz
          refine go _ hz' (fun h => ?_) (fun h => ?_)
          · cases hc : (leftM k (lowS x k) (l.filter (fun t => wB t x))).filter (rmB s) with
            | nil =>
              exfalso
              rw [hc, List.nil_append] at hz
              have hzm : z ∈ (leftM k (uppS x k) (l.filter (fun t => wB t x))).filter (rmB s) := by rw [hz]; exact List.mem_cons_self ..
              have h3 := (left_part k (uppS x k) _ hu rfl z (List.mem_filter.1 hzm).1).2.1
              exact halves_part hx hn h (wB_trans pin h3)
            | cons y r' =>
              rw [hc, List.cons_append] at hz
              have : y = z := by injection hz
              exact ⟨y, r', rfl, by rw [this]; exact hP⟩
          · cases hc : (leftM k (lowS x k) (l.filter (fun t => wB t x))).filter (rmB s) with
            | nil =>
              rw [hc, List.nil_append] at hz
              exact ⟨rfl, z, r, hz, hP⟩
            | cons y r' =>
              exfalso
              rw [hc, List.cons_append] at hz
              have e : y = z := by injection hz
              have hym : y ∈ (leftM k (lowS x k) (l.filter (fun t => wB t x))).filter (rmB s) := by rw [hc]; exact List.mem_cons_self ..
              have h3 := (left_part k (lowS x k) _ hl rfl y (List.mem_filter.1 hym).1).2.1
              rw [e] at h3
              exact halves_part hx hn (wB_trans pin h3) h
      · exfalso
        have e1 : leftM (k + 1) x (l ++ [p]) = [] := by
          unfold leftM
          rw [if_pos (by rw [List.any_append]; simp [hxp])]
        rw [e1] at hz'
        cases hz'

end Go.Proofs.Ytnlnigelecmobaa
namespace Go.Proofs.Ytnlnigelecmobaa
open Go.RowKit

/-- (S, H, L) is the address (s, h, l) where that is right, else the zero one. -/
def Nrm (s : Bool) (h l : Int) (S : Bool) (H L : Int) : Prop := (okB s h l = true ∧ S = s ∧ H = h ∧ L = l) ∨ (okB s h l = false ∧ S = false ∧ H = 0 ∧ L = 0)

set_option maxHeartbeats 400000 in
theorem addrOrZero_any (s : Bool) (h l : Int) (S : Bool) (H L : Int) (hz : Nrm s h l S H L) (w : World) :
    Calls Try.prog 58 #[.agg #[.bool s, .int .i64 h, .int .i64 l]] w fun e w' => e = .returned (.agg #[.bool S, .int .i64 H, .int .i64 L]) ∧ Below w.heap.size w w' := by
  rcases hz with ⟨ok, rfl, rfl, rfl⟩ | ⟨ok, rfl, rfl, rfl⟩
  · have HK : Hid (okB S H L = true) := ok
    clear ok
    go_enter Try.func58, Try.ntmps58
    go_wp2_with fail
    refine (iAddrOk_any S H L _).mono ?_
    rw [HK.out]
    rintro e w1 ⟨rfl, hb⟩
    obtain ⟨hc, hf⟩ := olds (n := w.heap.size + 2) (hb.mono (by simp))
    have hz := hb.size
    simp at hz
    go_wp2
    exact bodyPost_ret (v := .agg #[.bool S, .int .i64 H, .int .i64 L]) (by simp [results, Try.results58, go_sem, hc]) rfl ⟨rfl, (((((Below.refl _ w).alloc (Nat.le_refl _) _).alloc (by simp) _).trans (hb.mono (by simp; omega))).setCell (by simp) _).setCell (by simp) _ |>.setCell (by simp) _⟩
  · have HK : Hid (okB s h l = false) := ok
    clear ok
    go_enter Try.func58, Try.ntmps58
    go_wp2_with fail
    refine (iAddrOk_any s h l _).mono ?_
    rw [HK.out]
    rintro e w1 ⟨rfl, hb⟩
    obtain ⟨hc, hf⟩ := olds (n := w.heap.size + 2) (hb.mono (by simp))
    have hz := hb.size
    simp at hz
    go_wp2
    exact bodyPost_ret (v := .agg #[.bool false, .int .i64 0, .int .i64 0]) (by simp [results, Try.results58, go_sem, hc]) rfl ⟨rfl, (((((Below.refl _ w).alloc (Nat.le_refl _) _).alloc (by simp) _).trans (hb.mono (by simp; omega))).setCell (by simp) _).setCell (by simp) _ |>.setCell (by simp) _⟩

end Go.Proofs.Ytnlnigelecmobaa

namespace Go.Proofs.Ytnlnigelecmobaa
open Go.RowKit

/-- The library's comparing of two words. -/
def cmpW (a b : Int) : Int := if a < b then -1 else if b < a then 1 else 0

set_option maxHeartbeats 400000 in
theorem cmpCompare_any (a b : Int) (w : World) :
    Calls Try.prog 59 #[.int .u64 a, .int .u64 b] w fun e w' => e = .returned (.int .i64 (cmpW a b)) ∧ w' = w := by
  by_cases h1 : a < b
  · have e : cmpW a b = -1 := by simp [cmpW, h1]
    rw [e]
    go_enter Try.func59, Try.ntmps59
    go_wp2
    go_ret
    exact ⟨rfl, rfl⟩
  · by_cases h2 : b < a
    · have e : cmpW a b = 1 := by simp [cmpW, h1, h2]
      rw [e]
      go_enter Try.func59, Try.ntmps59
      go_wp2
      go_ret
      exact ⟨rfl, rfl⟩
    · have e : cmpW a b = 0 := by simp [cmpW, h1, h2]
      rw [e]
      go_enter Try.func59, Try.ntmps59
      go_wp2
      go_ret
      exact ⟨rfl, rfl⟩

end Go.Proofs.Ytnlnigelecmobaa
namespace Go.Proofs.Ytnlnigelecmobaa
open Go.RowKit

/-- The library's comparing of two rows of three words. -/
def cmp3 (a0 a1 a2 b0 b1 b2 : Int) : Int := if cmpW a0 b0 ≠ 0 then cmpW a0 b0 else if cmpW a1 b1 ≠ 0 then cmpW a1 b1 else cmpW a2 b2

theorem ret_int {k : IntKind} {a b : Int} (h : a = b) : Ending.returned (.int k a) = .returned (.int k b) := by rw [h]
/-- Two words that the library finds the same. -/
def Same (a b : Int) : Prop := (cmpW a b != 0) = false

theorem cmp3_0 {a0 a1 a2 b0 b1 b2 : Int} (h : (cmpW a0 b0 != 0) = true) : cmp3 a0 a1 a2 b0 b1 b2 = cmpW a0 b0 := by
  simp at h; simp [cmp3, h]
theorem cmp3_1 {a0 a1 a2 b0 b1 b2 : Int} (h0 : Same a0 b0) (h : (cmpW a1 b1 != 0) = true) : cmp3 a0 a1 a2 b0 b1 b2 = cmpW a1 b1 := by
  simp [Same] at h h0; simp [cmp3, h, h0]
theorem cmp3_2 {a0 a1 a2 b0 b1 b2 : Int} (h0 : Same a0 b0) (h1 : Same a1 b1) : cmp3 a0 a1 a2 b0 b1 b2 = cmpW a2 b2 := by
  simp [Same] at h1 h0; simp [cmp3, h1, h0]

set_option maxHeartbeats 1000000 in
theorem slCompare_any (a0 a1 a2 b0 b1 b2 : Int) (p q : Nat) (w : World)
    (x0 : w.cell? ⟨p, 0, none⟩ = some (.int .u64 a0)) (x1 : w.cell? ⟨p, 1, none⟩ = some (.int .u64 a1)) (x2 : w.cell? ⟨p, 2, none⟩ = some (.int .u64 a2))
    (y0 : w.cell? ⟨q, 0, none⟩ = some (.int .u64 b0)) (y1 : w.cell? ⟨q, 1, none⟩ = some (.int .u64 b1)) (y2 : w.cell? ⟨q, 2, none⟩ = some (.int .u64 b2)) :
    Calls Try.prog 45 #[.slice (some ⟨p, 0, none⟩) 3 3, .slice (some ⟨q, 0, none⟩) 3 3] w fun e w' => e = .returned (.int .i64 (cmp3 a0 a1 a2 b0 b1 b2)) ∧ w' = w := by
  go_enter Try.func45, Try.ntmps45
  go_wp2
  go_loop [11] (fun i => i = .int .i64 0 ∨ (i = .int .i64 1 ∧ Same a0 b0) ∨ (i = .int .i64 2 ∧ Same a0 b0 ∧ Same a1 b1) ∨ (i = .int .i64 3 ∧ Same a0 b0 ∧ Same a1 b1 ∧ Same a2 b2)) (fun i => 3 - (intOf i).toNat)
  case atStart => exact Or.inl rfl
  case round =>
    rcases hrel with rfl | ⟨rfl, k0⟩ | ⟨rfl, k0, k1⟩ | ⟨rfl, k0, k1, k2⟩
    · cases hc : (cmpW a0 b0 != 0)
      · go_wp2_with (go_at_call 59; refine (cmpCompare_any _ _ _).mono ?_; rintro e w' ⟨rfl, rfl⟩)
        go_round
        case rel => exact Or.inr (Or.inl ⟨rfl, hc⟩)
        case measure => simp [intOf]
      · go_wp2_with (go_at_call 59; refine (cmpCompare_any _ _ _).mono ?_; rintro e w' ⟨rfl, rfl⟩)
        go_ret
        exact ⟨ret_int (cmp3_0 hc).symm, rfl⟩
    · cases hc : (cmpW a1 b1 != 0)
      · go_wp2_with (go_at_call 59; refine (cmpCompare_any _ _ _).mono ?_; rintro e w' ⟨rfl, rfl⟩)
        go_round
        case rel => exact Or.inr (Or.inr (Or.inl ⟨rfl, k0, hc⟩))
        case measure => simp [intOf]
      · go_wp2_with (go_at_call 59; refine (cmpCompare_any _ _ _).mono ?_; rintro e w' ⟨rfl, rfl⟩)
        go_ret
        exact ⟨ret_int (cmp3_1 k0 hc).symm, rfl⟩
    · cases hc : (cmpW a2 b2 != 0)
      · go_wp2_with (go_at_call 59; refine (cmpCompare_any _ _ _).mono ?_; rintro e w' ⟨rfl, rfl⟩)
        go_round
        case rel => exact Or.inr (Or.inr (Or.inr ⟨rfl, k0, k1, hc⟩))
        case measure => simp [intOf]
      · go_wp2_with (go_at_call 59; refine (cmpCompare_any _ _ _).mono ?_; rintro e w' ⟨rfl, rfl⟩)
        go_ret
        exact ⟨ret_int (cmp3_2 k0 k1).symm, rfl⟩
    · have hz : cmp3 a0 a1 a2 b0 b1 b2 = 0 := by rw [cmp3_2 k0 k1]; simpa [Same] using k2
      have HZ : Hid (cmp3 a0 a1 a2 b0 b1 b2 = 0) := hz
      clear hz
      go_wp2
      go_ret
      exact ⟨ret_int HZ.out.symm, rfl⟩

/-- The three words by which the program orders an address. -/
def Rank (S : Bool) (H L r0 r1 r2 : Int) : Prop := (S = true ∧ r0 = 1 ∧ r1 = IntKind.u64.wrap H ∧ r2 = IntKind.u64.wrap L) ∨ (S = false ∧ r0 = 0 ∧ r1 = 0 ∧ r2 = IntKind.u64.wrap L)

set_option maxHeartbeats 400000 in
theorem rankOf_any (s : Bool) (h l : Int) (S : Bool) (H L r0 r1 r2 : Int) (hz : Nrm s h l S H L) (hr : Rank S H L r0 r1 r2) (w : World) :
    Calls Try.prog 44 #[.agg #[.bool s, .int .i64 h, .int .i64 l]] w fun e w' => e = .returned (.agg #[.int .u64 r0, .int .u64 r1, .int .u64 r2]) ∧ Below w.heap.size w w' := by
  rcases hr with ⟨rfl, rfl, rfl, rfl⟩ | ⟨rfl, rfl, rfl, rfl⟩
  all_goals
    go_enter Try.func44, Try.ntmps44
    go_wp2_with fail
    refine (addrOrZero_any _ _ _ _ _ _ hz _).mono ?_
    rintro e w1 ⟨rfl, hb⟩
    obtain ⟨hc, hf⟩ := olds (n := w.heap.size + 2) (hb.mono (by simp))
    have hz := hb.size
    simp at hz
    go_wp2
  · generalize IntKind.u64.wrap H = r1
    generalize IntKind.u64.wrap L = r2
    refine bodyPost_ret (v := .agg #[.int .u64 1, .int .u64 r1, .int .u64 r2]) (by simp [results, Try.results44, go_sem, hc]) rfl ⟨rfl, ?_⟩
    have b1 : Below w.heap.size w w1 := (((Below.refl _ w).alloc (Nat.le_refl _) _).alloc (by simp) _).trans (hb.mono (by simp; omega))
    exact (((((b1.setCell (by simp) _).setCell (by simp) _).setCell (by simp) _).setCell (by simp) _).setCell (by simp) _).setCell (by simp) _
  · generalize IntKind.u64.wrap L = r2
    refine bodyPost_ret (v := .agg #[.int .u64 0, .int .u64 0, .int .u64 r2]) (by simp [results, Try.results44, go_sem, hc]) rfl ⟨rfl, ?_⟩
    have b1 : Below w.heap.size w w1 := (((Below.refl _ w).alloc (Nat.le_refl _) _).alloc (by simp) _).trans (hb.mono (by simp; omega))
    exact (((((b1.setCell (by simp) _).setCell (by simp) _).setCell (by simp) _).setCell (by simp) _).setCell (by simp) _).setCell (by simp) _

end Go.Proofs.Ytnlnigelecmobaa
namespace Go.Proofs.Ytnlnigelecmobaa
open Go.RowKit

/-- '==' on two rows of three words. -/
theorem eqArr (a b c d e f : Int) (w : World) : (Op.equalIn 10000 76 (.agg #[.int .u64 a, .int .u64 b, .int .u64 c]) (.agg #[.int .u64 d, .int .u64 e, .int .u64 f])).run Try.prog w = .ok (a == d && (b == e && c == f)) w := by
  have u3 := Try.underlying75
  have a3 := Try.isAgg75
  have z3 := Try.sizeOf75
  rw [show (10000 : Nat) = 9999 + 1 from rfl, Op.equalIn]
  simp only [Sem.run_bind, run_underlying Try.underlying76, Result.andThen_ok]
  simp only [Std.Legacy.Range.forIn_eq_forIn_range', Std.Legacy.Range.size, Nat.sub_zero, Nat.add_sub_cancel, Nat.div_one, List.range'_succ, List.range'_zero, List.forIn_cons, List.forIn_nil]
  go_simp
  by_cases h1 : a = d <;> by_cases h2 : b = e <;> by_cases h3 : c = f <;> simp [h1, h2, h3]

theorem cmp3_same {a b c d e f : Int} (h : (a == d && (b == e && c == f)) = true) : cmp3 a b c d e f = 0 := by
  simp at h
  obtain ⟨rfl, rfl, rfl⟩ := h
  simp [cmp3, cmpW]

/-- Six cells of two boxes, behind whatever only makes memory from n on. -/
theorem six_of_below {W X : World} {n b c : Nat} {v0 v1 v2 u0 u1 u2 : Value} (hB : Below n W X) (hb : b < n) (hc : c < n)
    (k : W.cell? ⟨b, 0, none⟩ = some v0 ∧ W.cell? ⟨b, 1, none⟩ = some v1 ∧ W.cell? ⟨b, 2, none⟩ = some v2 ∧ W.cell? ⟨c, 0, none⟩ = some u0 ∧ W.cell? ⟨c, 1, none⟩ = some u1 ∧ W.cell? ⟨c, 2, none⟩ = some u2) :
    X.cell? ⟨b, 0, none⟩ = some v0 ∧ X.cell? ⟨b, 1, none⟩ = some v1 ∧ X.cell? ⟨b, 2, none⟩ = some v2 ∧ X.cell? ⟨c, 0, none⟩ = some u0 ∧ X.cell? ⟨c, 1, none⟩ = some u1 ∧ X.cell? ⟨c, 2, none⟩ = some u2 := by
  obtain ⟨k0, k1, k2, k3, k4, k5⟩ := k
  exact ⟨(hB.cell hb).trans k0, (hB.cell hb).trans k1, (hB.cell hb).trans k2, (hB.cell hc).trans k3, (hB.cell hc).trans k4, (hB.cell hc).trans k5⟩

set_option maxHeartbeats 8000000 in
theorem iCmp_ne (s : Bool) (h l : Int) (s' : Bool) (h' l' : Int) (S : Bool) (H L : Int) (S' : Bool) (H' L' : Int) (r0 r1 r2 q0 q1 q2 : Int)
    (hz : Nrm s h l S H L) (hr : Rank S H L r0 r1 r2) (hz' : Nrm s' h' l' S' H' L') (hr' : Rank S' H' L' q0 q1 q2) (w : World) :
    Calls Try.prog 23 #[.agg #[.bool s, .int .i64 h, .int .i64 l], .agg #[.bool s', .int .i64 h', .int .i64 l']] w fun e w' => e = .returned (.int .i64 (cmp3 r0 r1 r2 q0 q1 q2)) ∧ Below w.heap.size w w' := by
  go_enter Try.func23, Try.ntmps23
  go_upto_region 1 with fail
  go_cut [5, 6] (fun t5 t6 wc => ∃ p q : Nat, t5 = .pointer (some ⟨p, 0, none⟩) ∧ t6 = .pointer (some ⟨q, 0, none⟩)
    ∧ (wc.cell? ⟨p, 0, none⟩ = some (.int .u64 r0) ∧ wc.cell? ⟨p, 1, none⟩ = some (.int .u64 r1) ∧ wc.cell? ⟨p, 2, none⟩ = some (.int .u64 r2))
    ∧ (wc.cell? ⟨q, 0, none⟩ = some (.int .u64 q0) ∧ wc.cell? ⟨q, 1, none⟩ = some (.int .u64 q1) ∧ wc.cell? ⟨q, 2, none⟩ = some (.int .u64 q2))
    ∧ Below w.heap.size w wc)
  case first =>
    go_region_held3 (fun x => x.cell? ⟨w.heap.size, 0, none⟩ = some (.bool s) ∧ x.cell? ⟨w.heap.size, 1, none⟩ = some (.int .i64 h) ∧ x.cell? ⟨w.heap.size, 2, none⟩ = some (.int .i64 l)
        ∧ x.cell? ⟨w.heap.size + 1, 0, none⟩ = some (.bool s') ∧ x.cell? ⟨w.heap.size + 1, 1, none⟩ = some (.int .i64 h') ∧ x.cell? ⟨w.heap.size + 1, 2, none⟩ = some (.int .i64 l')) ((refine six_of_below (W := (w.alloc (.cells #[.bool s, .int .i64 h, .int .i64 l] 25)).alloc (.cells #[.bool s', .int .i64 h', .int .i64 l'] 25)) (n := w.heap.size + 2) ?_ (Nat.lt_add_of_pos_right (Nat.succ_pos _)) (Nat.lt_succ_self _) ⟨by simp [go_sem], by simp [go_sem], by simp [go_sem], by simp [go_sem], by simp [go_sem], by simp [go_sem]⟩; repeat (first | with_reducible exact Below.refl _ _ | (with_reducible refine Below.drew ?_) | (with_reducible refine Below.alloc ?_ ?_ _; rotate_left; (focus (first | omega | (simp; omega) | (simp; done)))) | (with_reducible refine Below.setCell ?_ ?_ _; rotate_left; (focus (first | omega | (simp; omega) | (simp; done)))) | (with_reducible refine Below.trans ?_ (hb2.mono ?_); rotate_left; (focus (first | omega | (simp; omega) | (simp; done)))) | (with_reducible refine Below.trans ?_ (hb1.mono ?_); rotate_left; (focus (first | omega | (simp; omega) | (simp; done)))))))
      (first
        | (go_at_call_of 44 (Value.int .i64 h); refine (rankOf_any s h l S H L r0 r1 r2 hz hr _).mono ?_; rintro e w1 ⟨rfl, hb1⟩; have hz1 := hb1.size; (try simp at hz1); (first | (refine ltk (w.heap.size) (w1.heap.size) ?_ ?_; (focus omega); intro f0) | skip); (first | (refine ltk (w.heap.size + 1) (w1.heap.size) ?_ ?_; (focus omega); intro f1) | skip); (first | (refine ltk (w.heap.size + 2) (w1.heap.size) ?_ ?_; (focus omega); intro f2) | skip); (first | (refine ltk (w.heap.size + 3) (w1.heap.size) ?_ ?_; (focus omega); intro f3) | skip); (first | (refine olds_k (w.heap.size + 4) hb1 ?_ ?_; (focus (first | omega | (simp; omega) | (simp; done))); intro hc1 hf1) | (refine olds_k (w.heap.size + 3) hb1 ?_ ?_; (focus (first | omega | (simp; omega) | (simp; done))); intro hc1 hf1) | (refine olds_k (w.heap.size + 2) hb1 ?_ ?_; (focus (first | omega | (simp; omega) | (simp; done))); intro hc1 hf1)))
        | (go_at_call_of 44 (Value.int .i64 h'); refine (rankOf_any s' h' l' S' H' L' q0 q1 q2 hz' hr' _).mono ?_; rintro e w2 ⟨rfl, hb2⟩; have hz2 := hb2.size; (try simp at hz2); (first | (refine ltk (w.heap.size) (w2.heap.size) ?_ ?_; (focus omega); intro g0) | skip); (first | (refine ltk (w.heap.size + 1) (w2.heap.size) ?_ ?_; (focus omega); intro g1) | skip); (first | (refine ltk (w.heap.size + 2) (w2.heap.size) ?_ ?_; (focus omega); intro g2) | skip); (first | (refine ltk (w.heap.size + 3) (w2.heap.size) ?_ ?_; (focus omega); intro g3) | skip); (first | (refine ltk (w1.heap.size) (w2.heap.size) ?_ ?_; (focus omega); intro k0) | skip); (first | (refine ltk (w1.heap.size + 1) (w2.heap.size) ?_ ?_; (focus omega); intro k1) | skip); (first | (refine olds_k (w.heap.size + 4) hb2 ?_ ?_; (focus (first | omega | (simp; omega) | (simp; done))); intro hc2 hf2) | (refine olds_k (w.heap.size + 3) hb2 ?_ ?_; (focus (first | omega | (simp; omega) | (simp; done))); intro hc2 hf2) | (refine olds_k (w.heap.size + 2) hb2 ?_ ?_; (focus (first | omega | (simp; omega) | (simp; done))); intro hc2 hf2)); (first | (refine olds_k (w1.heap.size + 2) hb2 ?_ ?_; (focus (first | omega | (simp; omega) | (simp; done))); intro hc3 hf3) | (refine olds_k (w1.heap.size + 1) hb2 ?_ ?_; (focus (first | omega | (simp; omega) | (simp; done))); intro hc3 hf3) | (refine olds_k (w1.heap.size) hb2 ?_ ?_; (focus (first | omega | (simp; omega) | (simp; done))); intro hc3 hf3))))
    all_goals
      go_wp2_with fail
      go_meet
      refine ⟨_, _, rfl, rfl, ⟨?_, ?_, ?_⟩, ⟨?_, ?_, ?_⟩, ?_⟩
      all_goals try (go_simp; done)
      repeat (first | with_reducible exact Below.refl _ _ | (with_reducible refine Below.drew ?_) | (with_reducible refine Below.alloc ?_ ?_ _; rotate_left; (focus (first | omega | (simp; omega) | (simp; done)))) | (with_reducible refine Below.setCell ?_ ?_ _; rotate_left; (focus (first | omega | (simp; omega) | (simp; done)))) | (with_reducible refine Below.trans ?_ (hb2.mono ?_); rotate_left; (focus (first | omega | (simp; omega) | (simp; done)))) | (with_reducible refine Below.trans ?_ (hb1.mono ?_); rotate_left; (focus (first | omega | (simp; omega) | (simp; done)))))
  case rest =>
    obtain ⟨p, q, rfl, rfl, ⟨x0, x1, x2⟩, ⟨y0, y1, y2⟩, hb⟩ := hcut
    cases hE : (r0 == q0 && (r1 == q1 && r2 == q2))
    · have hq : ∀ wx, (Op.equalIn 10000 76 (.agg #[.int .u64 r0, .int .u64 r1, .int .u64 r2]) (.agg #[.int .u64 q0, .int .u64 q1, .int .u64 q2])).run Try.prog wx = .ok false wx := fun wx => by rw [eqArr, hE]
      clear hE
      go_wp2_with fail
      go_quiet ((go_at_call 45; exact Calls.quiet_of_same (slCompare_any r0 r1 r2 q0 q1 q2 p q _ x0 x1 x2 y0 y1 y2)))
      go_wp2
      go_ret
      exact ⟨rfl, below_drewN hb _⟩
    · have hq : ∀ wx, (Op.equalIn 10000 76 (.agg #[.int .u64 r0, .int .u64 r1, .int .u64 r2]) (.agg #[.int .u64 q0, .int .u64 q1, .int .u64 q2])).run Try.prog wx = .ok true wx := fun wx => by rw [eqArr, hE]
      have HZ : Hid (cmp3 r0 r1 r2 q0 q1 q2 = 0) := cmp3_same hE
      clear hE
      go_wp2
      go_ret
      exact ⟨ret_int HZ.out.symm, hb⟩

end Go.Proofs.Ytnlnigelecmobaa
namespace Go.Proofs.Ytnlnigelecmobaa
open Go.ChangeShapes Go.WideShapes Go.ChangeAt Go.RowKit Go.Joins

theorem Rank_ex (S : Bool) (H L : Int) : ∃ r0 r1 r2, Rank S H L r0 r1 r2 ∧ (S = true → r0 = 1 ∧ r1 = IntKind.u64.wrap H) ∧ (S = false → r0 = 0 ∧ r1 = 0) ∧ r2 = IntKind.u64.wrap L := by
  cases S
  · exact ⟨0, 0, _, Or.inr ⟨rfl, rfl, rfl, rfl⟩, by simp, by simp, rfl⟩
  · exact ⟨1, _, _, Or.inl ⟨rfl, rfl, rfl, rfl⟩, by simp, by simp, rfl⟩

end Go.Proofs.Ytnlnigelecmobaa
namespace Go.Proofs.Ytnlnigelecmobaa
open Go.RowKit

set_option maxHeartbeats 400000 in
theorem cmpInt_any (a b : Int) (w : World) :
    Calls Try.prog 24 #[.int .i64 a, .int .i64 b] w fun e w' => e = .returned (.int .i64 (cmpW a b)) ∧ w' = w := by
  by_cases h1 : a < b
  · have e : cmpW a b = -1 := by simp [cmpW, h1]
    rw [e]
    go_enter Try.func24, Try.ntmps24
    go_wp2
    go_ret
    exact ⟨rfl, rfl⟩
  · by_cases h2 : b < a
    · have e : cmpW a b = 1 := by simp [cmpW, h1, h2]
      rw [e]
      go_enter Try.func24, Try.ntmps24
      go_wp2
      go_ret
      exact ⟨rfl, rfl⟩
    · have e : cmpW a b = 0 := by simp [cmpW, h1, h2]
      rw [e]
      go_enter Try.func24, Try.ntmps24
      go_wp2
      go_ret
      exact ⟨rfl, rfl⟩

/-- the first that is not 0 -/
def orI (c d : Int) : Int := if (c != 0) = true then c else d
theorem orI_1 {c d : Int} (h : (c != 0) = true) : orI c d = c := by simp only [orI, h, if_true]
theorem orI_2 {c d : Int} (h : (c != 0) = false) : orI c d = d := by simp [orI, h]

/-- a number that is 0, said so that no walk looks in -/
def ZeroI (c : Int) : Prop := (c != 0) = false

set_option maxHeartbeats 1000000 in
theorem cmpOr_any (c d : Int) (p : Nat) (w : World) (x0 : w.cell? ⟨p, 0, none⟩ = some (.int .i64 c)) (x1 : w.cell? ⟨p, 1, none⟩ = some (.int .i64 d)) :
    Calls Try.prog 22 #[.slice (some ⟨p, 0, none⟩) 2 2] w fun e w' => e = .returned (.int .i64 (orI c d)) ∧ w' = w := by
  go_enter Try.func22, Try.ntmps22
  go_wp2
  go_loop [8] (fun i => i = .int .i64 0 ∨ (i = .int .i64 1 ∧ ZeroI c) ∨ (i = .int .i64 2 ∧ ZeroI c ∧ ZeroI d)) (fun i => 2 - (intOf i).toNat)
  case atStart => exact Or.inl rfl
  case round =>
    rcases hrel with rfl | ⟨rfl, k0⟩ | ⟨rfl, k0, k1⟩
    · cases hc : (c != 0)
      · go_wp2
        go_round
        case rel => exact Or.inr (Or.inl ⟨rfl, hc⟩)
        case measure => simp [intOf]
      · go_wp2
        go_ret
        exact ⟨ret_int (orI_1 hc).symm, rfl⟩
    · cases hc : (d != 0)
      · go_wp2
        go_round
        case rel => exact Or.inr (Or.inr ⟨rfl, k0, hc⟩)
        case measure => simp [intOf]
      · have HZ : Hid (orI c d = d) := orI_2 k0
        go_wp2
        go_ret
        exact ⟨ret_int HZ.out.symm, rfl⟩
    · have HZ : Hid (orI c d = 0) := (orI_2 k0).trans (by simpa [ZeroI] using k1)
      go_wp2
      go_ret
      exact ⟨ret_int HZ.out.symm, rfl⟩

end Go.Proofs.Ytnlnigelecmobaa
namespace Go.Proofs.Ytnlnigelecmobaa
open Go.RowKit

theorem eight_of_below' {W X : World} {n b c : Nat} {v0 v1 v2 v3 u0 u1 u2 u3 : Value} (hB : Below n W X) (hb : b < n) (hc : c < n)
    (k : W.cell? ⟨b, 0, none⟩ = some v0 ∧ W.cell? ⟨b, 1, none⟩ = some v1 ∧ W.cell? ⟨b, 2, none⟩ = some v2 ∧ W.cell? ⟨b, 3, none⟩ = some v3 ∧ W.cell? ⟨c, 0, none⟩ = some u0 ∧ W.cell? ⟨c, 1, none⟩ = some u1 ∧ W.cell? ⟨c, 2, none⟩ = some u2 ∧ W.cell? ⟨c, 3, none⟩ = some u3) :
    X.cell? ⟨b, 0, none⟩ = some v0 ∧ X.cell? ⟨b, 1, none⟩ = some v1 ∧ X.cell? ⟨b, 2, none⟩ = some v2 ∧ X.cell? ⟨b, 3, none⟩ = some v3 ∧ X.cell? ⟨c, 0, none⟩ = some u0 ∧ X.cell? ⟨c, 1, none⟩ = some u1 ∧ X.cell? ⟨c, 2, none⟩ = some u2 ∧ X.cell? ⟨c, 3, none⟩ = some u3 := by
  obtain ⟨k0, k1, k2, k3, k4, k5, k6, k7⟩ := k
  exact ⟨(hB.cell hb).trans k0, (hB.cell hb).trans k1, (hB.cell hb).trans k2, (hB.cell hb).trans k3, (hB.cell hc).trans k4, (hB.cell hc).trans k5, (hB.cell hc).trans k6, (hB.cell hc).trans k7⟩

set_option maxHeartbeats 1000000 in
theorem iCmpPrefix_any (s : Bool) (h l b : Int) (s' : Bool) (h' l' b' : Int) (c : Int) (hc : ∀ w : World, Calls Try.prog 23 #[.agg #[.bool s, .int .i64 h, .int .i64 l], .agg #[.bool s', .int .i64 h', .int .i64 l']] w fun e w' => e = .returned (.int .i64 c) ∧ Below w.heap.size w w') (w : World) :
    Calls Try.prog 12 #[.agg #[.bool s, .int .i64 h, .int .i64 l, .int .i64 b], .agg #[.bool s', .int .i64 h', .int .i64 l', .int .i64 b']] w fun e w' => e = .returned (.int .i64 (orI c (cmpW b b'))) ∧ Below w.heap.size w w' := by
  have HC : Hid (∀ w : World, _) := hc
  clear hc
  go_enter Try.func12, Try.ntmps12
  go_wp2_with fail
  go_region_held3 (fun x => x.cell? ⟨w.heap.size, 0, none⟩ = some (.bool s) ∧ x.cell? ⟨w.heap.size, 1, none⟩ = some (.int .i64 h) ∧ x.cell? ⟨w.heap.size, 2, none⟩ = some (.int .i64 l) ∧ x.cell? ⟨w.heap.size, 3, none⟩ = some (.int .i64 b) ∧ x.cell? ⟨w.heap.size + 1, 0, none⟩ = some (.bool s') ∧ x.cell? ⟨w.heap.size + 1, 1, none⟩ = some (.int .i64 h') ∧ x.cell? ⟨w.heap.size + 1, 2, none⟩ = some (.int .i64 l') ∧ x.cell? ⟨w.heap.size + 1, 3, none⟩ = some (.int .i64 b')) ((refine eight_of_below' (W := (w.alloc (.cells #[.bool s, .int .i64 h, .int .i64 l, .int .i64 b] 27)).alloc (.cells #[.bool s', .int .i64 h', .int .i64 l', .int .i64 b'] 27)) (n := w.heap.size + 2) ?_ (by omega) (by omega) ⟨by simp [go_sem], by simp [go_sem], by simp [go_sem], by simp [go_sem], by simp [go_sem], by simp [go_sem], by simp [go_sem], by simp [go_sem]⟩; repeat (first | with_reducible exact Below.refl _ _ | (with_reducible refine Below.drew ?_) | (with_reducible refine Below.alloc ?_ ?_ _; rotate_left; (focus (first | omega | (simp; omega) | (simp; done)))) | (with_reducible refine Below.setCell ?_ ?_ _; rotate_left; (focus (first | omega | (simp; omega) | (simp; done)))) | (with_reducible refine Below.trans ?_ (hb1.mono ?_); rotate_left; (focus (first | omega | (simp; omega) | (simp; done))))))) (first | (go_at_call 23; refine (HC.out _).mono ?_; rintro e w1 ⟨rfl, hb1⟩; have hz1 := hb1.size; (try simp at hz1); (first | (refine ltk (w.heap.size) (w1.heap.size) ?_ ?_; (focus omega); intro f10) | skip); (first | (refine ltk (w.heap.size + 1) (w1.heap.size) ?_ ?_; (focus omega); intro f11) | skip); (refine olds_k (w.heap.size + 2) hb1 ?_ ?_; (focus (first | omega | (simp; omega) | (simp; done))); intro hc1 hf1)) | (go_at_call 24; refine (cmpInt_any b b' _).mono ?_; rintro e w2 ⟨rfl, rfl⟩) | (go_at_call 22; refine (cmpOr_any c (cmpW b b') _ _ ?_ ?_).mono ?_; (focus (simp [go_sem])); (focus (simp [go_sem])); rintro e w3 ⟨rfl, rfl⟩))
  all_goals
    go_wp2_with fail
    go_ret
    refine ⟨rfl, ?_⟩
    repeat (first | with_reducible exact Below.refl _ _ | (with_reducible refine Below.drew ?_) | (with_reducible refine Below.alloc ?_ ?_ _; rotate_left; (focus (first | omega | (simp; omega) | (simp; done)))) | (with_reducible refine Below.setCell ?_ ?_ _; rotate_left; (focus (first | omega | (simp; omega) | (simp; done)))) | (with_reducible refine Below.trans ?_ (hb1.mono ?_); rotate_left; (focus (first | omega | (simp; omega) | (simp; done)))))

end Go.Proofs.Ytnlnigelecmobaa
namespace Go.Proofs.Ytnlnigelecmobaa
open Go.RowKit

/-- An address as one number: those of 32 bits come first. -/
def keyN (s : Bool) (H L : BitVec 64) : Nat := (if s then 340282366920938463463374607431768211456 else 0) + adrN H L
theorem adrN_eq (H L : BitVec 64) : adrN H L = H.toNat * 18446744073709551616 + L.toNat := by
  unfold adrN
  rw [BitVec.toNat_append, ← Nat.shiftLeft_add_eq_or_of_lt L.isLt, Nat.shiftLeft_eq]
theorem cmp_keys (s : Bool) (H L : BitVec 64) (s' : Bool) (H' L' : BitVec 64) (h : okB s H.toInt L.toInt = true) (h' : okB s' H'.toInt L'.toInt = true) (r0 r1 r2 q0 q1 q2 : Int)
    (hr : (s = true → r0 = 1 ∧ r1 = H.toNat) ∧ (s = false → r0 = 0 ∧ r1 = 0) ∧ r2 = L.toNat) (hq : (s' = true → q0 = 1 ∧ q1 = H'.toNat) ∧ (s' = false → q0 = 0 ∧ q1 = 0) ∧ q2 = L'.toNat) :
    cmp3 r0 r1 r2 q0 q1 q2 = cmpW (keyN s H L : Int) (keyN s' H' L' : Int) := by
  have a1 := H.isLt; have a2 := L.isLt; have a3 := H'.isLt; have a4 := L'.isLt
  have z : s = false → H.toNat = 0 := fun e => by subst e; rw [(okB_four H L h).1]; rfl
  have z' : s' = false → H'.toNat = 0 := fun e => by subst e; rw [(okB_four H' L' h').1]; rfl
  unfold keyN
  rw [adrN_eq, adrN_eq]
  generalize H.toNat = x at *
  generalize L.toNat = y at *
  generalize H'.toNat = x' at *
  generalize L'.toNat = y' at *
  obtain ⟨r, rf, rfl⟩ := hr
  obtain ⟨q, qf, rfl⟩ := hq
  cases s <;> cases s'
  · obtain ⟨rfl, rfl⟩ := rf rfl
    obtain ⟨rfl, rfl⟩ := qf rfl
    have z1 := z rfl; have z2 := z' rfl
    subst z1 z2
    unfold cmp3 cmpW
    simp
  · obtain ⟨rfl, rfl⟩ := rf rfl
    obtain ⟨rfl, rfl⟩ := q rfl
    have z1 := z rfl
    subst z1
    unfold cmp3 cmpW
    simp
    omega
  · obtain ⟨rfl, rfl⟩ := r rfl
    obtain ⟨rfl, rfl⟩ := qf rfl
    have z2 := z' rfl
    subst z2
    unfold cmp3 cmpW
    simp
    omega
  · obtain ⟨rfl, rfl⟩ := r rfl
    obtain ⟨rfl, rfl⟩ := q rfl
    unfold cmp3 cmpW
    rcases Int.lt_trichotomy (x : Int) (x' : Int) with hx | hx | hx
    · rw [if_neg (by omega), if_pos (by rw [if_pos hx]; omega), if_pos hx, if_pos (by simp; omega)]
    · have hxx : x = x' := by omega
      subst hxx
      rcases Int.lt_trichotomy (y : Int) (y' : Int) with hy | hy | hy
      · simp [hy]
      · have hyy : y = y' := by omega
        subst hyy; simp
      · have : ¬ (y : Int) < y' := by omega
        simp [hy, this]
    · have : ¬ (x : Int) < x' := by omega
      rw [if_neg (by omega), if_pos (by rw [if_neg this, if_pos hx]; omega), if_neg this, if_pos hx, if_neg (by simp; omega), if_pos (by simp; omega)]

end Go.Proofs.Ytnlnigelecmobaa
namespace Go.Proofs.Ytnlnigelecmobaa
open Go.RowKit

theorem wd_le (s : Bool) : wd s ≤ 128 := by cases s <;> decide

set_option maxHeartbeats 1000000 in
theorem prefix_any (s : Bool) (H L : BitVec 64) (n : Nat) (hn : n ≤ 128) (w : World) :
    Calls Try.prog 56 #[.agg #[.bool s, .int .i64 H.toInt, .int .i64 L.toInt, .int .i64 n]] w fun e w' => e = .returned (.agg #[.bool s, .int .i64 H.toInt, .int .i64 L.toInt, .int .i64 ((wd s : Int) - n)]) ∧ Below w.heap.size w w' := by
  have hw := wd_le s
  have hwr : IntKind.i64.wrap ((wd s : Int) - n) = (wd s : Int) - n := by rw [← w64]; unfold wrap64; omega
  go_enter Try.func56, Try.ntmps56
  go_wp2_with fail
  go_region_with ((go_at_call 32; refine (width_any s H.toInt L.toInt _).mono ?_; rintro e w1 ⟨rfl, hb1⟩; have hz1 := hb1.size; (try simp at hz1); (first | (refine ltk (w.heap.size) (w1.heap.size) ?_ ?_; (focus omega); intro f10) | skip); (first | (refine ltk (w.heap.size + 1) (w1.heap.size) ?_ ?_; (focus omega); intro f11) | skip); (refine olds_k (w.heap.size + 2) hb1 ?_ ?_; (focus (first | omega | (simp; omega) | (simp; done))); intro hc1 hf1)))
  all_goals
    go_wp2_with fail
    refine bodyPost_ret (v := .agg #[.bool s, .int .i64 H.toInt, .int .i64 L.toInt, .int .i64 ((wd s : Int) - n)]) (by simp [results, Try.results56, go_sem, hc1]) rfl ⟨rfl, ?_⟩
    repeat (first | with_reducible exact Below.refl _ _ | (with_reducible refine Below.drew ?_) | (with_reducible refine Below.alloc ?_ ?_ _; rotate_left; (focus (first | omega | (simp; omega) | (simp; done)))) | (with_reducible refine Below.setCell ?_ ?_ _; rotate_left; (focus (first | omega | (simp; omega) | (simp; done)))) | (with_reducible refine Below.trans ?_ (hb1.mono ?_); rotate_left; (focus (first | omega | (simp; omega) | (simp; done)))))

end Go.Proofs.Ytnlnigelecmobaa
namespace Go.Proofs.Ytnlnigelecmobaa
open Go.RowKit

theorem Row.spn {w : World} {a : Option Addr} {xs : List Sp} (h : Row w a (xs.map Sp.spn)) (k : Nat) (hk : k < xs.length) : ∃ p o x, a = some ⟨p, o, none⟩ ∧ p < w.heap.size ∧ xs[k]? = some x ∧
    w.cell? ⟨p, o + k * 4, none⟩ = some (.bool x.s) ∧ w.cell? ⟨p, o + k * 4 + 1, none⟩ = some (.int .i64 x.H.toInt) ∧ w.cell? ⟨p, o + k * 4 + 2, none⟩ = some (.int .i64 x.L.toInt) ∧ w.cell? ⟨p, o + k * 4 + 3, none⟩ = some (.int .i64 (x.n : Int)) := by
  obtain ⟨p, o, q, ha, hp, hq, c0, c1, c2, c3⟩ := h k (by rw [List.length_map]; exact hk)
  rw [List.getElem?_map, List.getElem?_eq_getElem hk] at hq
  cases hq
  exact ⟨p, o, xs[k], ha, hp, List.getElem?_eq_getElem hk, c0, c1, c2, c3⟩
theorem Row.pre {w : World} {a : Option Addr} {xs : List Sp} (h : Row w a (xs.map Sp.pre)) (k : Nat) (hk : k < xs.length) : ∃ p o x, a = some ⟨p, o, none⟩ ∧ p < w.heap.size ∧ xs[k]? = some x ∧
    w.cell? ⟨p, o + k * 4, none⟩ = some (.bool x.s) ∧ w.cell? ⟨p, o + k * 4 + 1, none⟩ = some (.int .i64 x.H.toInt) ∧ w.cell? ⟨p, o + k * 4 + 2, none⟩ = some (.int .i64 x.L.toInt) ∧ w.cell? ⟨p, o + k * 4 + 3, none⟩ = some (.int .i64 ((wd x.s : Int) - (x.n : Int))) := by
  obtain ⟨p, o, q, ha, hp, hq, c0, c1, c2, c3⟩ := h k (by rw [List.length_map]; exact hk)
  rw [List.getElem?_map, List.getElem?_eq_getElem hk] at hq
  cases hq
  exact ⟨p, o, xs[k], ha, hp, List.getElem?_eq_getElem hk, c0, c1, c2, c3⟩

set_option maxHeartbeats 1000000 in
theorem l2Right_any (a : Option Addr) (cap : Nat) (ps : List Pf) (w : World) (hB : Row w a ps) (hl : ps.length ≤ 1048576) :
    Calls Try.prog 34 #[.slice a ps.length cap] w fun e w' => e = .returned (.bool (ps.all (fun p => pokB p.s p.H p.L p.b) && decide (ps.length ≤ 300))) ∧ Below w.heap.size w w' := by
  have HB := hidP hB
  clear hB
  obtain ⟨n, hn⟩ : ∃ n, n = ps.length := ⟨_, rfl⟩
  rw [← hn] at hl ⊢
  have HN := hidP hn
  clear hn
  go_enter Try.func34, Try.ntmps34
  go_wp2
  go_loopw [3] (fun t3 wr => ∃ k : Nat, k ≤ n ∧ t3 = .int .i64 k ∧ (ps.take k).all (fun p => pokB p.s p.H p.L p.b) = true ∧ Below w.heap.size w wr) (fun t3 _ => n - (intOf t3).toNat)
  case atStart => exact ⟨0, Nat.zero_le _, rfl, by simp, Below.refl _ _⟩
  case round =>
    obtain ⟨k, hk, rfl, hall, hbel⟩ := hrel
    have HW := hidP hbel
    have HAll := hidP hall
    by_cases hlt : k < n
    · obtain ⟨p, o, q, rfl, hp, hq, c0, c1, c2, c3⟩ := HB.out k (by rw [← HN.out]; exact hlt)
      have d0 := (hbel.cell hp).trans c0
      have d1 := (hbel.cell hp).trans c1
      have d2 := (hbel.cell hp).trans c2
      have d3 := (hbel.cell hp).trans c3
      have HQ := hidP hq
      clear c0 c1 c2 c3 hq hall hbel
      cases hpk : pokB q.s q.H q.L q.b
      · have HNo : Hid (ps.all (fun p => pokB p.s p.H p.L p.b) = false) := by
          refine hidP ?_
          rw [List.all_eq_false]
          exact ⟨q, List.mem_of_getElem? HQ.out, by rw [hpk]; simp⟩
        go_wp2_with fail
        refine (sPrefixOk_any q.s q.H q.L q.b _).mono ?_
        rw [hpk]
        rintro e w2 ⟨rfl, hb2⟩
        go_wp2_with fail
        go_ret
        rw [HNo.out]
        exact ⟨rfl, HW.out.trans (hb2.mono HW.out.size)⟩
      · have HAll2 : Hid ((ps.take (k + 1)).all (fun p => pokB p.s p.H p.L p.b) = true) := by
          refine hidP ?_
          rw [List.take_add_one, HQ.out, List.all_append, HAll.out]
          simp [hpk]
        go_wp2_with fail
        refine (sPrefixOk_any q.s q.H q.L q.b _).mono ?_
        rw [hpk]
        rintro e w2 ⟨rfl, hb2⟩
        have HW2 := hidP (HW.out.trans (hb2.mono HW.out.size))
        clear hb2
        go_wp2_with fail
        go_roundw
        case rel => exact ⟨k + 1, by omega, by go_num, HAll2.out, HW2.out⟩
        case measure => simp [intOf]; omega
    · have hkn : k = n := by omega
      subst hkn
      have HE : Hid (ps.all (fun p => pokB p.s p.H p.L p.b) = true) := by
        refine hidP ?_
        rw [HN.out, List.take_length] at hall; exact hall
      clear hbel hall
      go_wp2
      go_ret
      rw [HE.out]
      exact ⟨by go_num, HW.out⟩

end Go.Proofs.Ytnlnigelecmobaa
namespace Go.Proofs.Ytnlnigelecmobaa
open Go.RowKit

def SLeft (k : Nat) : Prop := ∀ (x : Sp) (_ : x.ok) (_ : x.n = k) (xs : List Sp) (_ : ∀ t ∈ xs, t.ok) (_ : xs.length ≤ 300) (a : Option Addr) (cap : Nat) (w : World) (_ : Row w a (xs.map Sp.pre)),
  Calls Try.prog 17 #[.agg #[.bool x.s, .int .i64 x.H.toInt, .int .i64 x.L.toInt, .int .i64 ((wd x.s : Int) - (k : Int))], .slice a xs.length cap] w fun e w' => ∃ a' c', e = .returned (.slice a' (leftM k x xs).length c') ∧ OwnR 27 w' w.heap.size (.slice a' (leftM k x xs).length c') ((leftM k x xs).map Sp.pre) ∧ Below w.heap.size w w'

theorem heap_size_alloc' (w : World) (o : Obj) : (w.alloc o).heap.size = w.heap.size + 1 := by simp
theorem left_in {k : Nat} {x : Sp} {xs : List Sp} (h : xs.any (wB x) = true) : leftM k x xs = [] := by
  cases k <;> (unfold leftM; rw [if_pos h])
theorem left_all {k : Nat} {x : Sp} {xs : List Sp} (h : xs.any (wB x) = false) (h2 : xs.filter (fun t => wB t x) = []) : leftM k x xs = [x] := by
  cases k
  · unfold leftM; rw [if_neg (by rw [h]; simp)]
  · unfold leftM; rw [if_neg (by rw [h]; simp), if_pos h2]
theorem left_two {k : Nat} {x : Sp} {xs : List Sp} (h : xs.any (wB x) = false) (h2 : xs.filter (fun t => wB t x) ≠ []) : leftM (k + 1) x xs = leftM k (lowS x k) (xs.filter fun t => wB t x) ++ leftM k (uppS x k) (xs.filter fun t => wB t x) := by
  conv => lhs; unfold leftM
  rw [if_neg (by rw [h]; simp), if_neg h2]

theorem box_cells (w : World) (t : TypeId) (q : Pf) : (w.alloc (.cells #[.bool q.s, .int .i64 q.H.toInt, .int .i64 q.L.toInt, .int .i64 q.b] t)).cell? ⟨w.heap.size, 0, none⟩ = some (.bool q.s) ∧ (w.alloc (.cells #[.bool q.s, .int .i64 q.H.toInt, .int .i64 q.L.toInt, .int .i64 q.b] t)).cell? ⟨w.heap.size, 1, none⟩ = some (.int .i64 q.H.toInt) ∧ (w.alloc (.cells #[.bool q.s, .int .i64 q.H.toInt, .int .i64 q.L.toInt, .int .i64 q.b] t)).cell? ⟨w.heap.size, 2, none⟩ = some (.int .i64 q.L.toInt) ∧ (w.alloc (.cells #[.bool q.s, .int .i64 q.H.toInt, .int .i64 q.L.toInt, .int .i64 q.b] t)).cell? ⟨w.heap.size, 3, none⟩ = some (.int .i64 q.b) := by
  have h := own_one w 0 t q (Nat.zero_le _)
  exact ⟨World.ownsRow.cellAt h 0 (by show 0 < 1 * 4; omega), World.ownsRow.cellAt h 1 (by show 1 < 1 * 4; omega), World.ownsRow.cellAt h 2 (by show 2 < 1 * 4; omega), World.ownsRow.cellAt h 3 (by show 3 < 1 * 4; omega)⟩

theorem near_snoc (x t : Sp) (xs : List Sp) (i : Nat) (h : xs[i]? = some t) : (xs.take (i + 1)).filter (fun t => wB t x) = (xs.take i).filter (fun t => wB t x) ++ (if wB t x = true then [t] else []) := by
  rw [List.take_add_one, h, List.filter_append]
  congr 1
  cases hw : wB t x <;> simp [hw]
theorem any_snoc (x t : Sp) (xs : List Sp) (i : Nat) (h : xs[i]? = some t) (h0 : (xs.take i).any (wB x) = false) (h1 : wB x t = false) : (xs.take (i + 1)).any (wB x) = false := by
  rw [List.take_add_one, h, List.any_append, h0]
  simp [h1]

/-- Two boxes of four cells that stand while the world grows. -/
theorem keep8 {W w' : World} {g h : Nat} {p q : Pf} (hg : g < W.heap.size) (hh : h < W.heap.size) (c : W.cell? ⟨g, 0, none⟩ = some (.bool p.s) ∧ W.cell? ⟨g, 1, none⟩ = some (.int .i64 p.H.toInt) ∧ W.cell? ⟨g, 2, none⟩ = some (.int .i64 p.L.toInt) ∧ W.cell? ⟨g, 3, none⟩ = some (.int .i64 p.b) ∧ W.cell? ⟨h, 0, none⟩ = some (.bool q.s) ∧ W.cell? ⟨h, 1, none⟩ = some (.int .i64 q.H.toInt) ∧ W.cell? ⟨h, 2, none⟩ = some (.int .i64 q.L.toInt) ∧ W.cell? ⟨h, 3, none⟩ = some (.int .i64 q.b) ∧ Below W.heap.size W W) (b : Below W.heap.size W w') : w'.cell? ⟨g, 0, none⟩ = some (.bool p.s) ∧ w'.cell? ⟨g, 1, none⟩ = some (.int .i64 p.H.toInt) ∧ w'.cell? ⟨g, 2, none⟩ = some (.int .i64 p.L.toInt) ∧ w'.cell? ⟨g, 3, none⟩ = some (.int .i64 p.b) ∧ w'.cell? ⟨h, 0, none⟩ = some (.bool q.s) ∧ w'.cell? ⟨h, 1, none⟩ = some (.int .i64 q.H.toInt) ∧ w'.cell? ⟨h, 2, none⟩ = some (.int .i64 q.L.toInt) ∧ w'.cell? ⟨h, 3, none⟩ = some (.int .i64 q.b) ∧ Below W.heap.size W w' :=
  ⟨(b.cell hg).trans c.1, (b.cell hg).trans c.2.1, (b.cell hg).trans c.2.2.1, (b.cell hg).trans c.2.2.2.1, (b.cell hh).trans c.2.2.2.2.1, (b.cell hh).trans c.2.2.2.2.2.1, (b.cell hh).trans c.2.2.2.2.2.2.1, (b.cell hh).trans c.2.2.2.2.2.2.2.1, b⟩
theorem last8 {W : World} {A B C D E F G H : Prop} {w' : World} (c : A ∧ B ∧ C ∧ D ∧ E ∧ F ∧ G ∧ H ∧ Below W.heap.size W w') : Below W.heap.size W w' := c.2.2.2.2.2.2.2.2

set_option maxRecDepth 10000 in
set_option maxHeartbeats 2000000 in
theorem l2Left_step (k : Nat) (IH : ∀ j, j < k → SLeft j) : SLeft k := by
  intro x hx hk xs hxs hl a cap w hR
  have HB := hidP hR
  have HX := hidP hx
  have HXs := hidP hxs
  have HI := hidP IH
  have hk9 : k ≤ 128 := by have := hx.le; omega
  have HK := hidP hk
  obtain ⟨n, hn⟩ : ∃ n, n = xs.length := ⟨_, rfl⟩
  rw [← hn] at hl ⊢
  have HN := hidP hn
  clear hR hx hxs IH hk hn
  go_enter Try.func17, Try.ntmps17
  go_wp2_with fail
  obtain ⟨b0, b1, b2, b3⟩ := box_cells w 27 ⟨x.s, x.H, x.L, (wd x.s : Int) - (k : Int)⟩
  have hBW : Below w.heap.size w (w.alloc (.cells #[.bool x.s, .int .i64 x.H.toInt, .int .i64 x.L.toInt, .int .i64 ((wd x.s : Int) - (k : Int))] 27)) := (Below.refl _ w).alloc (Nat.le_refl _) _
  have hs1 : (w.alloc (.cells #[.bool x.s, .int .i64 x.H.toInt, .int .i64 x.L.toInt, .int .i64 ((wd x.s : Int) - (k : Int))] 27)).heap.size = w.heap.size + 1 := by simp
  have hE : ∀ W1 : World, W1 = (w.alloc (.cells #[.bool x.s, .int .i64 x.H.toInt, .int .i64 x.L.toInt, .int .i64 ((wd x.s : Int) - (k : Int))] 27)) → W1 = W1 := fun _ _ => rfl
  generalize (w.alloc (.cells #[.bool x.s, .int .i64 x.H.toInt, .int .i64 x.L.toInt, .int .i64 ((wd x.s : Int) - (k : Int))] 27)) = W1 at *
  clear hE
  have HO : Hid (OwnR 27 (W1.alloc (.cells #[] 27)) (w.heap.size + 1) (.slice (some ⟨w.heap.size + 1, 0, none⟩) 0 0) []) := by
    refine hidP ?_
    have h := own_zero W1 (w.heap.size + 1) 27 (by omega)
    rw [hs1] at h; exact h
  have HBW := hidP hBW
  have HB0 := hidP (And.intro b0 (And.intro b1 (And.intro b2 b3)))
  have HS1 := hidP hs1
  clear b0 b1 b2 b3 hBW hs1
  go_loopw [5, 6] (fun t5 t6 wr => ∃ (i : Nat) (a5 : Option Addr) (m5 c5 : Nat), i ≤ n ∧ t6 = .int .i64 i ∧ t5 = .slice a5 m5 c5 ∧ m5 = ((xs.take i).filter (fun t => wB t x)).length ∧ OwnR 27 wr (w.heap.size + 1) (.slice a5 m5 c5) (((xs.take i).filter (fun t => wB t x)).map Sp.pre) ∧ (xs.take i).any (wB x) = false ∧ Below (w.heap.size + 1) W1 wr) (fun _ t6 _ => n - (intOf t6).toNat)
  case atStart => exact ⟨0, _, 0, 0, Nat.zero_le _, rfl, rfl, by simp, by simpa using HO.out, by simp, (Below.refl _ W1).alloc (by rw [HS1.out]; exact Nat.le_refl _) _⟩
  case round =>
    obtain ⟨i, a5, m5, c5, hi, rfl, rfl, hm5, hown, hany, hbel⟩ := hrel
    have hb' := HB0.out
    have c0 := (hbel.cell (Nat.lt_succ_self w.heap.size)).trans hb'.1
    have c1 := (hbel.cell (Nat.lt_succ_self w.heap.size)).trans hb'.2.1
    have c2 := (hbel.cell (Nat.lt_succ_self w.heap.size)).trans hb'.2.2.1
    have c3 := (hbel.cell (Nat.lt_succ_self w.heap.size)).trans hb'.2.2.2
    clear hb'
    have hzr : w.heap.size + 1 ≤ wr.heap.size := by have := hbel.size; rw [HS1.out] at this; exact this
    have HOw := hidP hown
    have HAny := hidP hany
    have HBel := hidP hbel
    have HM5 := hidP hm5
    have hm9 : m5 ≤ 300 := by rw [hm5]; exact Nat.le_trans (List.length_filter_le _ _) (by rw [List.length_take]; omega)
    clear hown hany hm5 HO
    by_cases hlt : i < n
    · obtain ⟨p, o, t, rfl, hp, hq, e0, e1, e2, e3⟩ := HB.out.pre i (by rw [← HN.out]; exact hlt)
      have hpw : p < W1.heap.size := by rw [HS1.out]; omega
      have hpr : p < w.heap.size + 1 := by omega
      have d0 := (hbel.cell hpr).trans ((HBW.out.cell hp).trans e0)
      have d1 := (hbel.cell hpr).trans ((HBW.out.cell hp).trans e1)
      have d2 := (hbel.cell hpr).trans ((HBW.out.cell hp).trans e2)
      have d3 := (hbel.cell hpr).trans ((HBW.out.cell hp).trans e3)
      have HQ := hidP hq
      have ht : t.ok := HXs.out t (List.mem_of_getElem? hq)
      have hw1 : ∀ wx, Calls Try.prog 37 #[.agg #[.bool x.s, .int .i64 x.H.toInt, .int .i64 x.L.toInt, .int .i64 ((wd x.s : Int) - (k : Int))], .agg #[.bool t.s, .int .i64 t.H.toInt, .int .i64 t.L.toInt, .int .i64 ((wd t.s : Int) - (t.n : Int))]] wx fun e w' => e = .returned (.bool (wB x t)) ∧ Below wx.heap.size wx w' := fun wx => by
        have h := sWithin_any x.s x.H x.L ((wd x.s : Int) - (x.n : Int)) t.s t.H t.L ((wd t.s : Int) - (t.n : Int)) wx
        rw [win_wB HX.out ht, HK.out] at h; exact h
      have hw2 : ∀ wx, Calls Try.prog 37 #[.agg #[.bool t.s, .int .i64 t.H.toInt, .int .i64 t.L.toInt, .int .i64 ((wd t.s : Int) - (t.n : Int))], .agg #[.bool x.s, .int .i64 x.H.toInt, .int .i64 x.L.toInt, .int .i64 ((wd x.s : Int) - (k : Int))]] wx fun e w' => e = .returned (.bool (wB t x)) ∧ Below wx.heap.size wx w' := fun wx => by
        have h := sWithin_any t.s t.H t.L ((wd t.s : Int) - (t.n : Int)) x.s x.H x.L ((wd x.s : Int) - (x.n : Int)) wx
        rw [win_wB ht HX.out, HK.out] at h; exact h
      have HT := hidP ht
      have HW1 := hidP hw1
      have HW2 := hidP hw2
      clear e0 e1 e2 e3 hq ht hw1 hw2 hbel
      cases hxt : wB x t
      · rw [hxt] at HW1
        go_wp2_with fail
        go_region_with (first | (go_at_call 37; refine (HW1.out _).mono ?_; rintro e w2 ⟨rfl, hb2⟩))
        all_goals
          have hr2 : Below wr.heap.size wr w2 := (Below.refl _ wr).drew.trans (hb2.mono (by simp))
          have HB2 := hidP (HBel.out.trans (hr2.mono hzr))
          have HO2 := hidP (HOw.out.later hr2)
          have hz2 : w.heap.size + 1 ≤ w2.heap.size := Nat.le_trans hzr hr2.size
          have c0' := (hr2.cell (show w.heap.size < wr.heap.size by omega)).trans c0
          have c1' := (hr2.cell (show w.heap.size < wr.heap.size by omega)).trans c1
          have c2' := (hr2.cell (show w.heap.size < wr.heap.size by omega)).trans c2
          have c3' := (hr2.cell (show w.heap.size < wr.heap.size by omega)).trans c3
          have d0' := (hr2.cell (show p < wr.heap.size by omega)).trans d0
          have d1' := (hr2.cell (show p < wr.heap.size by omega)).trans d1
          have d2' := (hr2.cell (show p < wr.heap.size by omega)).trans d2
          have d3' := (hr2.cell (show p < wr.heap.size by omega)).trans d3
          clear hb2 hr2 c0 c1 c2 c3 d0 d1 d2 d3
          have HAny2 := hidP (any_snoc x t xs i HQ.out HAny.out hxt)
          cases htx : wB t x
          · rw [htx] at HW2
            have HNe := hidP (near_snoc x t xs i HQ.out)
            rw [htx, if_neg (by simp), List.append_nil] at HNe
            go_wp2_with fail
            go_region_with (first | (go_at_call 37; refine (HW2.out _).mono ?_; rintro e w3 ⟨rfl, hb3⟩))
            all_goals
              have hr3 : Below w2.heap.size w2 w3 := (Below.refl _ w2).drew.trans (hb3.mono (by simp))
              have HB3 := hidP (HB2.out.trans (hr3.mono hz2))
              have HO3 := hidP (HO2.out.later hr3)
              clear hb3 hr3
              go_wp2_with fail
              go_roundw
              case rel => exact ⟨i + 1, a5, m5, c5, by omega, by go_num, rfl, by rw [HNe.out]; exact HM5.out, by rw [HNe.out]; exact HO3.out, HAny2.out, HB3.out⟩
              case measure => simp [intOf]; omega
          · rw [htx] at HW2
            have HNe := hidP (near_snoc x t xs i HQ.out)
            rw [htx, if_pos rfl] at HNe
            go_wp2_with fail
            go_region_with (first | (go_at_call 37; refine (HW2.out _).mono ?_; rintro e w3 ⟨rfl, hb3⟩))
            all_goals
              have hr3 : Below w2.heap.size w2 w3 := (Below.refl _ w2).drew.trans (hb3.mono (by simp))
              have HB3 := hidP (HB2.out.trans (hr3.mono hz2))
              have HO3 := hidP (HO2.out.later hr3)
              have hz3 : w.heap.size + 1 ≤ w3.heap.size := Nat.le_trans hz2 hr3.size
              have d0 := (hr3.cell (show p < w2.heap.size by omega)).trans d0'
              have d1 := (hr3.cell (show p < w2.heap.size by omega)).trans d1'
              have d2 := (hr3.cell (show p < w2.heap.size by omega)).trans d2'
              have d3 := (hr3.cell (show p < w2.heap.size by omega)).trans d3'
              clear hb3 hr3 d0' d1' d2' d3' c0' c1' c2' c3'
              go_wp2_with (at_builtin; refine wpList_appR Try.fourP _ rfl (.tmp 29) (.tmp 34) 28 rfl (w.heap.size + 1) a5 m5 c5 1 (((xs.take i).filter (fun t => wB t x)).map Sp.pre) [t.pre] (.slice (some ⟨w3.heap.size, 0, none⟩) 1 1) rfl (by rw [List.length_map]; exact HM5.out) rfl (HO3.out.alloc _) rfl (src_row Try.fourP 1 1 rfl (row_one w3 27 t.pre) (by simp)) (by omega) (by simp; omega) ?_; intro a6 c6 w4 ho4 hg4 ht4)
              go_roundw
              case rel => exact ⟨i + 1, a6, m5 + 1, c6, by omega, by go_num, rfl, by rw [HNe.out, List.length_append, ← HM5.out]; rfl, by rw [HNe.out, List.map_append]; exact ho4, HAny2.out, below_appR (HB3.out.alloc hz3 _) (HO3.out.alloc _) (by simp; omega) hg4⟩
              case measure => simp [intOf]; omega
      · rw [hxt] at HW1
        have HE : Hid (leftM k x xs = []) := by
          refine hidP (left_in ?_)
          rw [List.any_eq_true]
          exact ⟨t, List.mem_of_getElem? HQ.out, hxt⟩
        go_wp2_with fail
        go_region_with (first | (go_at_call 37; refine (HW1.out _).mono ?_; rintro e w2 ⟨rfl, hb2⟩))
        all_goals
          have hr2 : Below wr.heap.size wr w2 := (Below.refl _ wr).drew.trans (hb2.mono (by simp))
          have HB2 := hidP (HBW.out.trans ((HBel.out.trans (hr2.mono hzr)).mono (by omega)))
          have hz2 : w.heap.size ≤ w2.heap.size := by have := hr2.size; omega
          clear hb2 hr2
          go_wp2_with fail
          go_ret
          rw [HE.out]
          exact ⟨_, _, rfl, own_zero w2 w.heap.size 27 hz2, HB2.out.alloc hz2 _⟩
    · have hin : i = n := by omega
      subst hin
      clear hbel
      have eT : xs.take i = xs := by rw [HN.out, List.take_length]
      rw [eT] at HM5 HOw HAny
      clear eT
      have HBr := hidP (HBW.out.trans (HBel.out.mono (by omega)))
      by_cases hm0 : m5 = 0
      · have HE : Hid (leftM k x xs = [x]) := hidP (left_all HAny.out (List.eq_nil_of_length_eq_zero (by rw [← HM5.out]; exact hm0)))
        subst hm0
        go_wp2_with fail
        go_ret
        rw [HE.out]
        have h1 := own_one wr w.heap.size 27 x.pre (by omega)
        unfold Sp.pre at h1
        rw [HK.out] at h1
        refine ⟨_, _, rfl, ?_, HBr.out.alloc (by omega) _⟩
        show OwnR _ _ _ _ [x.pre]
        unfold Sp.pre
        rw [HK.out]
        exact h1
      · have hne : xs.filter (fun t => wB t x) ≠ [] := fun h => hm0 (by rw [HM5.out, h]; rfl)
        obtain ⟨k', rfl⟩ : ∃ k', k = k' + 1 := by
          cases k with
          | zero => exact absurd (near_zero HK.out hne) (by rw [HAny.out]; simp)
          | succ k' => exact ⟨k', rfl⟩
        have HE := hidP (left_two (k := k') HAny.out hne)
        have hx := HX.out
        have hxn := HK.out
        have hlow := low_ok hx hxn
        have hupp := upp_ok hx hxn
        have hwd : x.n ≤ wd x.s := hx.2.1
        have hh : ∀ wx, Calls Try.prog 38 #[.agg #[.bool x.s, .int .i64 x.H.toInt, .int .i64 x.L.toInt, .int .i64 ((wd x.s : Int) - ((k' + 1 : Nat) : Int))]] wx fun e w' => e = .returned (.tuple #[.agg #[.bool x.s, .int .i64 x.H.toInt, .int .i64 x.L.toInt, .int .i64 ((wd x.s : Int) - (k' : Int))], .agg #[.bool x.s, .int .i64 (cH k' (fH (k' + 1) x.H)).toInt, .int .i64 (cL k' (fL (k' + 1) x.L)).toInt, .int .i64 ((wd x.s : Int) - (k' : Int))]]) ∧ Below wx.heap.size wx w' := fun wx => by
          have h := l2Halves_any x.s x.H x.L ((wd x.s : Int) - ((k' + 1 : Nat) : Int)) k' (by omega) hx.1 (by omega) wx
          rw [show (wd x.s : Int) - ((k' + 1 : Nat) : Int) + 1 = (wd x.s : Int) - (k' : Int) by omega] at h
          exact h
        have HH := hidP hh
        have hxs2 : ∀ t ∈ xs.filter (fun t => wB t x), t.ok := fun t ht => HXs.out t (List.mem_filter.1 ht).1
        have IHl := fun a cap w hR => HI.out k' (Nat.lt_succ_self k') (lowS x k') hlow rfl (xs.filter fun t => wB t x) hxs2 (by rw [← HM5.out]; omega) a cap w hR
        have IHu := fun a cap w hR => HI.out k' (Nat.lt_succ_self k') (uppS x k') hupp rfl (xs.filter fun t => wB t x) hxs2 (by rw [← HM5.out]; omega) a cap w hR
        have hb1 := left_le hlow (xs.filter fun t => wB t x) (by rw [← HM5.out]; omega)
        have hb2 := left_le hupp (xs.filter fun t => wB t x) (by rw [← HM5.out]; omega)
        rw [← HM5.out] at IHl IHu
        obtain ⟨l1, hl1⟩ : ∃ l1, l1 = leftM k' (lowS x k') (xs.filter fun t => wB t x) := ⟨_, rfl⟩
        obtain ⟨l2, hl2⟩ : ∃ l2, l2 = leftM k' (uppS x k') (xs.filter fun t => wB t x) := ⟨_, rfl⟩
        change (leftM k' (lowS x k') (xs.filter fun t => wB t x)).length ≤ 38401 at hb1
        change (leftM k' (uppS x k') (xs.filter fun t => wB t x)).length ≤ 38401 at hb2
        rw [← hl1] at hb1 IHl HE
        rw [← hl2] at hb2 IHu HE
        obtain ⟨H2, hH2⟩ : ∃ H2, H2 = cH k' (fH (k' + 1) x.H) := ⟨_, rfl⟩
        obtain ⟨L2, hL2⟩ : ∃ L2, L2 = cL k' (fL (k' + 1) x.L) := ⟨_, rfl⟩
        rw [← hH2, ← hL2] at HH
        have HIl : Hid (∀ (a : Option Addr) (cap : Nat) (w : World), Row w a ((xs.filter fun t => wB t x).map Sp.pre) → Calls Try.prog 17 #[.agg #[.bool x.s, .int .i64 x.H.toInt, .int .i64 x.L.toInt, .int .i64 ((wd x.s : Int) - (k' : Int))], .slice a m5 cap] w fun e w' => ∃ a' c', e = .returned (.slice a' l1.length c') ∧ OwnR 27 w' w.heap.size (.slice a' l1.length c') (l1.map Sp.pre) ∧ Below w.heap.size w w') := hidP IHl
        have HIu : Hid (∀ (a : Option Addr) (cap : Nat) (w : World), Row w a ((xs.filter fun t => wB t x).map Sp.pre) → Calls Try.prog 17 #[.agg #[.bool x.s, .int .i64 H2.toInt, .int .i64 L2.toInt, .int .i64 ((wd x.s : Int) - (k' : Int))], .slice a m5 cap] w fun e w' => ∃ a' c', e = .returned (.slice a' l2.length c') ∧ OwnR 27 w' w.heap.size (.slice a' l2.length c') (l2.map Sp.pre) ∧ Below w.heap.size w w') := by
          rw [hH2, hL2]; exact hidP IHu
        have hm1 : (((m5 : Nat) : Int) == 0) = false := by rw [beq_eq_false_iff_ne]; omega
        clear hne hx hxn hlow hupp hwd hh hxs2 IHl IHu hl1 hl2 hm0 hH2 hL2
        go_wp2_with fail
        refine (HH.out _).mono ?_
        rintro e w2 ⟨rfl, hb2'⟩
        have hz2 := hb2'.size
        have HRw := hidP ((HOw.out.row).later hb2')
        have HB2 := hidP (HBr.out.trans (hb2'.mono (by omega)))
        clear hb2' HOw HBr c0 c1 c2 c3
        go_wp2_with fail
        obtain ⟨p0, p1, p2, p3⟩ := box_cells w2 27 ⟨x.s, x.H, x.L, (wd x.s : Int) - (k' : Int)⟩
        obtain ⟨q0, q1, q2, q3⟩ := box_cells (w2.alloc (.cells #[.bool x.s, .int .i64 x.H.toInt, .int .i64 x.L.toInt, .int .i64 ((wd x.s : Int) - (k' : Int))] 27)) 27 ⟨x.s, H2, L2, (wd x.s : Int) - (k' : Int)⟩
        have hbb : Below w2.heap.size w2 ((w2.alloc (.cells #[.bool x.s, .int .i64 x.H.toInt, .int .i64 x.L.toInt, .int .i64 ((wd x.s : Int) - (k' : Int))] 27)).alloc (.cells #[.bool x.s, .int .i64 H2.toInt, .int .i64 L2.toInt, .int .i64 ((wd x.s : Int) - (k' : Int))] 27)) := ((Below.refl _ w2).alloc (Nat.le_refl _) _).alloc (by simp) _
        have hb1' : Below (w2.heap.size + 1) (w2.alloc (.cells #[.bool x.s, .int .i64 x.H.toInt, .int .i64 x.L.toInt, .int .i64 ((wd x.s : Int) - (k' : Int))] 27)) ((w2.alloc (.cells #[.bool x.s, .int .i64 x.H.toInt, .int .i64 x.L.toInt, .int .i64 ((wd x.s : Int) - (k' : Int))] 27)).alloc (.cells #[.bool x.s, .int .i64 H2.toInt, .int .i64 L2.toInt, .int .i64 ((wd x.s : Int) - (k' : Int))] 27)) := (Below.refl _ _).alloc (by simp) _
        have hsz : ((w2.alloc (.cells #[.bool x.s, .int .i64 x.H.toInt, .int .i64 x.L.toInt, .int .i64 ((wd x.s : Int) - (k' : Int))] 27)).alloc (.cells #[.bool x.s, .int .i64 H2.toInt, .int .i64 L2.toInt, .int .i64 ((wd x.s : Int) - (k' : Int))] 27)).heap.size = w2.heap.size + 2 := by simp
        have p0' := (hb1'.cell (Nat.lt_succ_self _)).trans p0
        have p1' := (hb1'.cell (Nat.lt_succ_self _)).trans p1
        have p2' := (hb1'.cell (Nat.lt_succ_self _)).trans p2
        have p3' := (hb1'.cell (Nat.lt_succ_self _)).trans p3
        simp only [heap_size_alloc'] at q0 q1 q2 q3
        generalize ((w2.alloc (.cells #[.bool x.s, .int .i64 x.H.toInt, .int .i64 x.L.toInt, .int .i64 ((wd x.s : Int) - (k' : Int))] 27)).alloc (.cells #[.bool x.s, .int .i64 H2.toInt, .int .i64 L2.toInt, .int .i64 ((wd x.s : Int) - (k' : Int))] 27)) = W at *
        have hc8 : W.cell? ⟨w2.heap.size, 0, none⟩ = some (.bool x.s) ∧ W.cell? ⟨w2.heap.size, 1, none⟩ = some (.int .i64 x.H.toInt) ∧ W.cell? ⟨w2.heap.size, 2, none⟩ = some (.int .i64 x.L.toInt) ∧ W.cell? ⟨w2.heap.size, 3, none⟩ = some (.int .i64 ((wd x.s : Int) - (k' : Int))) ∧ W.cell? ⟨w2.heap.size + 1, 0, none⟩ = some (.bool x.s) ∧ W.cell? ⟨w2.heap.size + 1, 1, none⟩ = some (.int .i64 H2.toInt) ∧ W.cell? ⟨w2.heap.size + 1, 2, none⟩ = some (.int .i64 L2.toInt) ∧ W.cell? ⟨w2.heap.size + 1, 3, none⟩ = some (.int .i64 ((wd x.s : Int) - (k' : Int))) ∧ Below W.heap.size W W := ⟨p0', p1', p2', p3', q0, q1, q2, q3, Below.refl _ W⟩
        have HRW := hidP (HRw.out.later hbb)
        have HBW2 := hidP (HB2.out.trans (hbb.mono (by omega)))
        clear p0 p1 p2 p3 q0 q1 q2 q3 hb1' hbb HRw p0' p1' p2' p3'
        have hg1 : w2.heap.size < W.heap.size := by omega
        have hg2 : w2.heap.size + 1 < W.heap.size := by omega
        go_region_held3 (fun w' => w'.cell? ⟨w2.heap.size, 0, none⟩ = some (.bool x.s) ∧ w'.cell? ⟨w2.heap.size, 1, none⟩ = some (.int .i64 x.H.toInt) ∧ w'.cell? ⟨w2.heap.size, 2, none⟩ = some (.int .i64 x.L.toInt) ∧ w'.cell? ⟨w2.heap.size, 3, none⟩ = some (.int .i64 ((wd x.s : Int) - (k' : Int))) ∧ w'.cell? ⟨w2.heap.size + 1, 0, none⟩ = some (.bool x.s) ∧ w'.cell? ⟨w2.heap.size + 1, 1, none⟩ = some (.int .i64 H2.toInt) ∧ w'.cell? ⟨w2.heap.size + 1, 2, none⟩ = some (.int .i64 L2.toInt) ∧ w'.cell? ⟨w2.heap.size + 1, 3, none⟩ = some (.int .i64 ((wd x.s : Int) - (k' : Int))) ∧ Below W.heap.size W w') (first | (with_reducible exact hc8) | (with_reducible exact keep8 (p := ⟨x.s, x.H, x.L, (wd x.s : Int) - (k' : Int)⟩) (q := ⟨x.s, H2, L2, (wd x.s : Int) - (k' : Int)⟩) hg1 hg2 hc8 b5) | (with_reducible exact keep8 (p := ⟨x.s, x.H, x.L, (wd x.s : Int) - (k' : Int)⟩) (q := ⟨x.s, H2, L2, (wd x.s : Int) - (k' : Int)⟩) hg1 hg2 hc8 b4) | (with_reducible exact keep8 (p := ⟨x.s, x.H, x.L, (wd x.s : Int) - (k' : Int)⟩) (q := ⟨x.s, H2, L2, (wd x.s : Int) - (k' : Int)⟩) hg1 hg2 hc8 b3) | (with_reducible exact keep8 (p := ⟨x.s, x.H, x.L, (wd x.s : Int) - (k' : Int)⟩) (q := ⟨x.s, H2, L2, (wd x.s : Int) - (k' : Int)⟩) hg1 hg2 hc8 (Below.refl _ _).drew))
          (first | (go_at_call_of 17 (Value.int IntKind.i64 x.H.toInt); refine (HIl.out a5 c5 _ (HRW.out.later (last8 (by assumption)))).mono ?_; rintro e w3 ⟨a3, c3, rfl, o3, h3⟩; have o3' := o3.mono (last8 (by assumption)).size; have b3 := (last8 (by assumption)).trans (h3.mono (last8 (by assumption)).size)) | (go_at_call_of 17 (Value.int IntKind.i64 H2.toInt); refine (HIu.out a5 c5 _ (HRW.out.later (last8 (by assumption)))).mono ?_; rintro e w4 ⟨a4, c4, rfl, o4, h4⟩; have b4 := (last8 (by assumption)).trans (h4.mono (last8 (by assumption)).size)) | (refine step_appR Try.fourP _ rfl (.tmp 48) (.tmp 51) 28 rfl W.heap.size a3 l1.length c3 l2.length (l1.map Sp.pre) (l2.map Sp.pre) (.slice a4 l2.length c4) rfl (by rw [List.length_map]) (by rw [List.length_map]) (o3'.later h4) rfl (src_row Try.fourP _ _ (by rw [List.length_map]) o4.row o4.caps.2.2.2) (by omega) b4.size ?_; intro a6 c6 w5 o5 r5 t5; have b5 := below_appR b4 (o3'.later h4) b4.size r5))
        all_goals
          have HF : Hid (OwnR 27 w5 w.heap.size (.slice a6 (l1.length + l2.length) c6) ((l1 ++ l2).map Sp.pre) ∧ Below w.heap.size w w5) := by
            refine hidP ⟨?_, HBW2.out.trans (b5.mono HBW2.out.size)⟩
            rw [List.map_append]
            exact o5.mono HBW2.out.size
          clear o3 o3' h3 b3 o4 h4 b4 o5 r5 t5 b5
          go_wp2_with fail
          go_ret
          rw [HE.out, List.length_append]
          exact ⟨_, _, rfl, HF.out.1, HF.out.2⟩
theorem l2Left_all (k : Nat) : SLeft k := Nat.strongRecOn k fun k ih => l2Left_step k ih

end Go.Proofs.Ytnlnigelecmobaa
namespace Go.Proofs.Ytnlnigelecmobaa
open Go.RowKit

theorem Try.fourS : Four Try.prog 71 46 := ⟨Try.underlying71, by kernel_rfl⟩

def Pf.pok (p : Pf) : Bool := pokB p.s p.H p.L p.b
def Pf.sp (p : Pf) : Pf := ⟨p.s, p.H, p.L, (wd p.s : Int) - p.b⟩
def rightP (ps : List Pf) : Bool := ps.all Pf.pok && decide (ps.length ≤ 300)

theorem copy_sp (ps : List Pf) (k : Nat) (q : Pf) (hk : k < ps.length) (hq : ps[k]? = some q) : ((ps.take k).map Pf.sp ++ List.replicate (ps.length - k) Pf.zero).set k q.sp = (ps.take (k + 1)).map Pf.sp ++ List.replicate (ps.length - (k + 1)) Pf.zero := by
  have h := copy_step (ps.map Pf.sp) k q.sp (by rw [List.length_map]; exact hk) (by rw [List.getElem?_map, hq]; rfl)
  rw [List.length_map] at h
  rw [List.map_take, List.map_take]; exact h

set_option maxHeartbeats 1000000 in
theorem spansOf_long (a : Option Addr) (n cap : Nat) (w : World) (hl : 300 < n) (hl' : n ≤ 1048576) :
    Calls Try.prog 42 #[.slice a n cap] w fun e w' => e = .returned (.tuple #[.slice none 0 0, .bool false]) ∧ Below w.heap.size w w' := by
  go_enter Try.func42, Try.ntmps42
  go_wp2
  go_ret2
  exact ⟨rfl, Below.refl _ _⟩

set_option maxRecDepth 10000 in
set_option maxHeartbeats 1000000 in
theorem spansOf_short (a : Option Addr) (cap : Nat) (ps : List Pf) (w : World) (hB : Row w a ps) (hl : ps.length ≤ 300) :
    Calls Try.prog 42 #[.slice a ps.length cap] w fun e w' => ((ps.all Pf.pok = true ∧ ∃ g, e = .returned (.tuple #[.slice (some ⟨g, 0, none⟩) ps.length ps.length, .bool true]) ∧ OwnR 46 w' w.heap.size (.slice (some ⟨g, 0, none⟩) ps.length ps.length) (ps.map Pf.sp)) ∨ (ps.all Pf.pok = false ∧ e = .returned (.tuple #[.slice none 0 0, .bool false]))) ∧ Below w.heap.size w w' := by
  obtain ⟨i0, hi, hz0, hz1, hz2⟩ := info_parts Try.fourS.2
  have HB := hidP hB
  clear hB
  obtain ⟨n, hn⟩ : ∃ n, n = ps.length := ⟨_, rfl⟩
  rw [← hn] at hl ⊢
  have HN := hidP hn
  clear hn
  go_enter Try.func42, Try.ntmps42
  have d1 : decide ((300 : Int) < (n : Int)) = false := decide_eq_false (by omega)
  go_wp2_with (refine wpList_make_full _ rfl (.tmp 13) (.tmp 13) 71 rfl w.heap.size 46 i0 _ 4 Try.fourS.1 hi hz0 hz1 .i64 .i64 n n n rfl rfl rfl rfl (by rw [hz2]; omega) (by unfold maxLen; omega) (Nat.le_refl _) ?_; intro w1 hown hgrow)
  have HO : Hid (OwnR 46 w1 w.heap.size (.slice (some ⟨w.heap.size, 0, none⟩) n n) ((ps.take 0).map Pf.sp ++ List.replicate (ps.length - 0) Pf.zero)) := by
    rw [made_four] at hown
    refine hidP ?_
    unfold OwnR
    rw [Nat.sub_zero, List.take_zero, List.map_nil, List.nil_append, List.length_replicate, ← HN.out]; exact hown
  have HW : Hid (Below w.heap.size w w1) := (Below.refl _ w).grown hgrow (Nat.le_refl _) (fun k hk => by cases hk)
  clear hown hgrow
  go_loopw [17] (fun t17 wr => ∃ k : Nat, k ≤ n ∧ t17 = .int .i64 k ∧ (ps.take k).all Pf.pok = true ∧ OwnR 46 wr w.heap.size (.slice (some ⟨w.heap.size, 0, none⟩) n n) ((ps.take k).map Pf.sp ++ List.replicate (ps.length - k) Pf.zero) ∧ Below w.heap.size w wr) (fun t17 _ => n - (intOf t17).toNat)
  case atStart => exact ⟨0, Nat.zero_le _, rfl, by simp, HO.out, HW.out⟩
  case round =>
    obtain ⟨k, hk, rfl, hall, hown, hbel⟩ := hrel
    by_cases hlt : k < n
    · obtain ⟨p, o, q, rfl, hp, hq, c0, c1, c2, c3⟩ := HB.out k (by rw [← HN.out]; exact hlt)
      have d0 := (hbel.cell hp).trans c0
      have d1' := (hbel.cell hp).trans c1
      have d2 := (hbel.cell hp).trans c2
      have d3 := (hbel.cell hp).trans c3
      have hpr : p < wr.heap.size := Nat.lt_of_lt_of_le hp hbel.size
      have HOw := hidP hown
      have HBel := hidP hbel
      have HQ := hidP hq
      have HAll := hidP hall
      have hwr : w.heap.size < wr.heap.size := (OwnR.lt hown _ rfl).2
      clear hown hbel c0 c1 c2 c3 hq hall HO HW
      have hlen : n = ((ps.take k).map Pf.sp ++ List.replicate (ps.length - k) Pf.zero).length := by rw [List.length_append, List.length_map, List.length_take, List.length_replicate]; have := HN.out; omega
      have HLen := hidP hlen
      clear hlen
      cases hpk : pokB q.s q.H q.L q.b
      · have HNo : Hid (ps.all Pf.pok = false) := by
          refine hidP ?_
          rw [List.all_eq_false]
          exact ⟨q, List.mem_of_getElem? HQ.out, by show ¬ pokB q.s q.H q.L q.b = true; rw [hpk]; simp⟩
        go_wp2_with fail
        refine (spanOf_no q.s q.H q.L q.b hpk _).mono ?_
        rintro e w2 ⟨rfl, hb2⟩
        have hz2 := hb2.size
        try simp at hz2
        have HB2 := hidP (hb2.mono (show w.heap.size ≤ _ by simp; omega))
        clear hb2
        go_wp2_with fail
        go_ret2
        exact ⟨Or.inr ⟨HNo.out, rfl⟩, ((HBel.out.alloc (by omega) _).trans HB2.out).alloc (by omega) _⟩
      · obtain ⟨m, hm⟩ : ∃ m : Nat, (m : Int) = (wd q.s : Int) - q.b := ⟨((wd q.s : Int) - q.b).toNat, by have := (pokB_parts hpk).2.1; omega⟩
        go_wp2_with fail
        refine (spanOf_yes q.s q.H q.L q.b m hm hpk _).mono ?_
        rintro e w2 ⟨rfl, hb2⟩
        have hz2 := hb2.size
        try simp at hz2
        have HB2 := hidP (hb2.mono (show w.heap.size ≤ _ by simp; omega))
        have ho2 := (HOw.out.alloc _).later hb2
        have hw2 : w.heap.size < w2.heap.size := by omega
        have hput := (ho2.put HLen.out k hlt).2 q.sp
        rw [copy_sp ps k q (by rw [← HN.out]; exact hlt) HQ.out] at hput
        have HP : Hid (OwnR 46 ((((w2.setCell ⟨w.heap.size, k * 4, none⟩ (.bool q.s)).setCell ⟨w.heap.size, k * 4 + 1, none⟩ (.int .i64 q.H.toInt)).setCell ⟨w.heap.size, k * 4 + 2, none⟩ (.int .i64 q.L.toInt)).setCell ⟨w.heap.size, k * 4 + 3, none⟩ (.int .i64 ((wd q.s : Int) - q.b))) w.heap.size (.slice (some ⟨w.heap.size, 0, none⟩) n n) ((ps.take (k + 1)).map Pf.sp ++ List.replicate (ps.length - (k + 1)) Pf.zero)) := hput
        obtain ⟨f0, f1, f2, f3⟩ := (ho2.put HLen.out k hlt).1
        obtain ⟨p', o', q', e', hp', _, e0, e1, e2, e3⟩ := ho2.row k (by rw [← HLen.out]; exact hlt)
        simp only [Option.some.injEq, Addr.mk.injEq, and_true] at e'
        obtain ⟨rfl, rfl⟩ := e'
        rw [Nat.zero_add] at e0 e1 e2 e3
        have HAll2 : Hid ((ps.take (k + 1)).all Pf.pok = true) := by
          refine hidP ?_
          rw [List.take_add_one, HQ.out, List.all_append, HAll.out]
          simp [Pf.pok, hpk]
        clear hb2 ho2 hput d0 d1' d2 d3 HOw
        go_wp2_with fail
        go_roundw
        case rel =>
          refine ⟨k + 1, by omega, by go_num, HAll2.out, ?_, ?_⟩
          · exact HP.out.alloc _
          · exact ((((((HBel.out.alloc (by omega) _).trans HB2.out).setCell (Nat.le_refl _) _).setCell (Nat.le_refl _) _).setCell (Nat.le_refl _) _).setCell (Nat.le_refl _) _).alloc (by simp; omega) _
        case measure => simp [intOf]; omega
    · have hkn : k = n := by omega
      subst hkn
      have HO2 : Hid (ps.all Pf.pok = true ∧ OwnR 46 wr w.heap.size (.slice (some ⟨w.heap.size, 0, none⟩) k k) (ps.map Pf.sp)) := by
        have e := HN.out
        rw [e, List.take_length, Nat.sub_self, List.replicate_zero, List.append_nil] at hown
        rw [e, List.take_length] at hall
        rw [← e] at hown
        exact hidP ⟨hall, hown⟩
      have HBel := hidP hbel
      clear hown hbel hall HO HW
      go_wp2
      go_ret2
      exact ⟨Or.inl ⟨HO2.out.1, _, rfl, HO2.out.2⟩, HBel.out⟩

end Go.Proofs.Ytnlnigelecmobaa
namespace Go.Proofs.Ytnlnigelecmobaa
open Go.RowKit

theorem right_pre (xs : List Sp) (hxs : ∀ t ∈ xs, t.ok) (hl : xs.length ≤ 300) : rightP (xs.map Sp.pre) = true := by
  unfold rightP
  rw [List.length_map, decide_eq_true hl, Bool.and_true, List.all_eq_true]
  intro p hp
  obtain ⟨t, ht, rfl⟩ := List.mem_map.1 hp
  exact (hxs t ht).pok

theorem spansOf_res (a : Option Addr) (cap : Nat) (ps : List Pf) (w : World) (hB : Row w a ps) (hl : ps.length ≤ 1048576) :
    Calls Try.prog 42 #[.slice a ps.length cap] w fun e w' => ∃ a' n' c', e = .returned (.tuple #[.slice a' n' c', .bool (rightP ps)]) ∧ Below w.heap.size w w' := by
  by_cases h : ps.length ≤ 300
  · refine (spansOf_short a cap ps w hB h).mono ?_
    rintro e w' ⟨h1 | h1, hb⟩
    · obtain ⟨h1, g, rfl, _⟩ := h1
      exact ⟨_, _, _, by unfold rightP; rw [h1, decide_eq_true h]; rfl, hb⟩
    · obtain ⟨h1, rfl⟩ := h1
      exact ⟨_, _, _, by unfold rightP; rw [h1]; rfl, hb⟩
  · refine (spansOf_long a ps.length cap w (by omega) hl).mono ?_
    rintro e w' ⟨rfl, hb⟩
    exact ⟨_, _, _, by unfold rightP; rw [decide_eq_false h, Bool.and_false], hb⟩

theorem sp_pre (xs : List Sp) : (xs.map Sp.pre).map Pf.sp = xs.map Sp.spn := by
  rw [List.map_map]
  refine List.map_congr_left fun x _ => ?_
  show (⟨x.s, x.H, x.L, (wd x.s : Int) - ((wd x.s : Int) - x.n)⟩ : Pf) = ⟨x.s, x.H, x.L, x.n⟩
  congr 1
  omega

end Go.Proofs.Ytnlnigelecmobaa
namespace Go.Proofs.Ytnlnigelecmobaa
open Go.RowKit

set_option maxHeartbeats 400000 in
theorem filled_any (s : Bool) (H L : BitVec 64) (n : Nat) (hn : n ≤ 128) (w : World) :
    Calls Try.prog 65 #[.agg #[.bool s, .int .i64 H.toInt, .int .i64 L.toInt], .int .i64 n] w fun e w' => e = .returned (.agg #[.bool s, .int .i64 (fH n H).toInt, .int .i64 (fL n L).toInt]) ∧ Below w.heap.size w w' := by
  go_enter Try.func65, Try.ntmps65
  go_wp2_with fail
  refine (lastBits_any n hn _).mono ?_
  rintro e w1 ⟨rfl, hb⟩
  obtain ⟨hc, hf⟩ := olds (n := w.heap.size + 2) (hb.mono (by simp))
  have hz1 : w.heap.size + 1 < w1.heap.size := by have := hb.size; simp at this; omega
  have hz0 : w.heap.size < w1.heap.size := by omega
  have b1 : Below w.heap.size w w1 := (((Below.refl _ w).alloc (Nat.le_refl _) _).alloc (by simp) _).trans (hb.mono (by simp; omega))
  go_wp2
  refine bodyPost_ret (v := .agg #[.bool s, .int .i64 (fH n H).toInt, .int .i64 (fL n L).toInt]) (by simp [results, Try.results65, go_sem, hc, bOr, fH, fL]) rfl ⟨rfl, ?_⟩
  repeat (first | with_reducible exact b1 | (with_reducible refine Below.setCell ?_ (by first | omega | (simp; done) | (simp; omega)) _) | (with_reducible refine Below.alloc ?_ (by first | omega | (simp; done) | (simp; omega)) _))

set_option maxHeartbeats 1000000 in
theorem last_any (s : Bool) (H L : BitVec 64) (n : Nat) (hn : n ≤ 128) (w : World) :
    Calls Try.prog 63 #[.agg #[.bool s, .int .i64 H.toInt, .int .i64 L.toInt, .int .i64 n]] w fun e w' => e = .returned (.agg #[.bool s, .int .i64 (fH n H).toInt, .int .i64 (fL n L).toInt]) ∧ Below w.heap.size w w' := by
  go_enter Try.func63, Try.ntmps63
  go_wp2_with fail
  refine (filled_any s H L n hn _).mono ?_
  rintro e w1 ⟨rfl, hb1⟩
  have hz1 := hb1.size
  try simp at hz1
  have f10 : w.heap.size < w1.heap.size := by omega
  have f11 : w.heap.size + 1 < w1.heap.size := by omega
  refine olds_k (w.heap.size + 2) hb1 ?_ ?_
  · first | omega | (simp; omega) | (simp; done)
  intro hc1 hf1
  go_wp2_with fail
  refine bodyPost_ret (v := .agg #[.bool s, .int .i64 (fH n H).toInt, .int .i64 (fL n L).toInt]) (by simp [results, Try.results63, go_sem, hc1]) rfl ⟨rfl, ?_⟩
  repeat (first | with_reducible exact Below.refl _ _ | (with_reducible refine Below.drew ?_) | (with_reducible refine Below.alloc ?_ ?_ _; rotate_left; (focus (first | omega | (simp; omega) | (simp; done)))) | (with_reducible refine Below.setCell ?_ ?_ _; rotate_left; (focus (first | omega | (simp; omega) | (simp; done)))) | (with_reducible refine Below.trans ?_ (hb1.mono ?_); rotate_left; (focus (first | omega | (simp; omega) | (simp; done)))))

end Go.Proofs.Ytnlnigelecmobaa
namespace Go.Proofs.Ytnlnigelecmobaa
open Go.RowKit

set_option maxHeartbeats 1000000 in
theorem halves_any (s : Bool) (H L : BitVec 64) (k : Nat) (hk : k + 1 ≤ 128) (w : World) :
    Calls Try.prog 57 #[.agg #[.bool s, .int .i64 H.toInt, .int .i64 L.toInt, .int .i64 ((k : Int) + 1)]] w fun e w' => e = .returned (.tuple #[.agg #[.bool s, .int .i64 H.toInt, .int .i64 L.toInt, .int .i64 k], .agg #[.bool s, .int .i64 (cH k (fH (k + 1) H)).toInt, .int .i64 (cL k (fL (k + 1) L)).toInt, .int .i64 k]]) ∧ Below w.heap.size w w' := by
  have hcl := last_any s H L (k + 1) hk
  simp only [Int.natCast_add, Int.natCast_one] at hcl
  have HL : Hid (∀ w, _) := hcl
  clear hcl
  have HC : Hid (∀ w, _) := cleared_any s (fH (k + 1) H) (fL (k + 1) L) k (by omega)
  go_enter Try.func57, Try.ntmps57
  go_wp2_with fail
  go_region_with (first | (go_at_call 63; refine (HL.out _).mono ?_; rintro e w1 ⟨rfl, hb1⟩; have hz1 := hb1.size; (try simp at hz1); (first | (refine ltk (w.heap.size) (w1.heap.size) ?_ ?_; (focus omega); intro f10) | skip); (first | (refine ltk (w.heap.size + 1) (w1.heap.size) ?_ ?_; (focus omega); intro f11) | skip); (first | (refine ltk (w.heap.size + 2) (w1.heap.size) ?_ ?_; (focus omega); intro f12) | skip); (refine olds_k (w.heap.size + 3) hb1 ?_ ?_; (focus (first | omega | (simp; omega) | (simp; done))); intro hc1 hf1)) | (go_at_call 55; refine (HC.out _).mono ?_; rintro e w2 ⟨rfl, hb2⟩; have hz2 := hb2.size; (try simp at hz2); (first | (refine ltk (w.heap.size) (w2.heap.size) ?_ ?_; (focus omega); intro f20) | skip); (first | (refine ltk (w.heap.size + 1) (w2.heap.size) ?_ ?_; (focus omega); intro f21) | skip); (first | (refine ltk (w.heap.size + 2) (w2.heap.size) ?_ ?_; (focus omega); intro f22) | skip); (refine olds_k (w.heap.size + 3) hb2 ?_ ?_; (focus (first | omega | (simp; omega) | (simp; done))); intro hc2 hf2)))
  all_goals
    go_wp2_with fail
    refine bodyPost_ret (v := .tuple #[.agg #[.bool s, .int .i64 H.toInt, .int .i64 L.toInt, .int .i64 k], .agg #[.bool s, .int .i64 (cH k (fH (k + 1) H)).toInt, .int .i64 (cL k (fL (k + 1) L)).toInt, .int .i64 k]]) (by simp [results, Try.results57, go_sem, hc1, hc2]) rfl ⟨rfl, ?_⟩
    repeat (first | with_reducible exact Below.refl _ _ | (with_reducible refine Below.drew ?_) | (with_reducible refine Below.alloc ?_ ?_ _; rotate_left; (focus (first | omega | (simp; omega) | (simp; done)))) | (with_reducible refine Below.setCell ?_ ?_ _; rotate_left; (focus (first | omega | (simp; omega) | (simp; done)))) | (with_reducible refine Below.trans ?_ (hb2.mono ?_); rotate_left; (focus (first | omega | (simp; omega) | (simp; done)))) | (with_reducible refine Below.trans ?_ (hb1.mono ?_); rotate_left; (focus (first | omega | (simp; omega) | (simp; done)))))

end Go.Proofs.Ytnlnigelecmobaa
namespace Go.Proofs.Ytnlnigelecmobaa
open Go.RowKit

/-- The blocks of M lie as they lay. -/
structure Kpt (M : Nat → Prop) (A B : World) : Prop where
  os : B.os = A.os
  tape : B.tape = A.tape
  output : B.output = A.output
  size : A.heap.size ≤ B.heap.size
  block : ∀ k, k < A.heap.size → M k → B.heap[k]? = A.heap[k]?

theorem Kpt.refl (M : Nat → Prop) (A : World) : Kpt M A A := ⟨rfl, rfl, rfl, Nat.le_refl _, fun _ _ _ => rfl⟩
theorem Kpt.mono {M N : Nat → Prop} {A B : World} (h : Kpt M A B) (hn : ∀ k, N k → M k) : Kpt N A B := ⟨h.os, h.tape, h.output, h.size, fun k hk hm => h.block k hk (hn k hm)⟩
theorem Kpt.trans {M : Nat → Prop} {A B C : World} (h : Kpt M A B) (g : Kpt M B C) : Kpt M A C :=
  ⟨g.os.trans h.os, g.tape.trans h.tape, g.output.trans h.output, Nat.le_trans h.size g.size, fun k hk hm => (g.block k (Nat.lt_of_lt_of_le hk h.size) hm).trans (h.block k hk hm)⟩
theorem Kpt.ofBelow {A B : World} (M : Nat → Prop) (h : Below A.heap.size A B) : Kpt M A B := ⟨h.os, h.tape, h.output, h.size, fun k hk _ => h.block k hk⟩
theorem Kpt.below {n : Nat} {A B : World} (h : Kpt (fun k => k < n) A B) (hn : n ≤ A.heap.size) : Below n A B := ⟨h.os, h.tape, h.output, h.size, fun k hk => h.block k (by omega) hk⟩
theorem Kpt.cell {M : Nat → Prop} {A B : World} (h : Kpt M A B) {p : Addr} (hp : p.block < A.heap.size) (hm : M p.block) : B.cell? p = A.cell? p := World.cell?_of_block (w := A) (h.block p.block hp hm)
theorem kpt_put (A : World) (l : Nat) (o : Obj) : Kpt (fun k => k ≠ l) A (A.putObj l o) := ⟨rfl, rfl, rfl, by simp, fun _ _ hk => World.putObj_heap_other hk⟩

/-- Behind a round (or a part of the iterator): what was none of M's lies; the new M' has of the old blocks none but M's. -/
structure Grw (M M' : Nat → Prop) (A B : World) : Prop where
  kept : Kpt (fun k => ¬ M k) A B
  old : ∀ k, M' k → k < A.heap.size → M k
  fit : ∀ k, M' k → k < B.heap.size

theorem Grw.trans {M M' M'' : Nat → Prop} {A B C : World} (h : Grw M M' A B) (g : Grw M' M'' B C) : Grw M M'' A C :=
  ⟨⟨g.kept.os.trans h.kept.os, g.kept.tape.trans h.kept.tape, g.kept.output.trans h.kept.output, Nat.le_trans h.kept.size g.kept.size, fun k hk hm =>
      (g.kept.block k (Nat.lt_of_lt_of_le hk h.kept.size) (fun h' => hm (h.old k h' hk))).trans (h.kept.block k hk hm)⟩,
    fun k hk hl => h.old k (g.old k hk (Nat.lt_of_lt_of_le hl h.kept.size)) hl, g.fit⟩
theorem Grw.ofBelow {M : Nat → Prop} {A B : World} (h : Below A.heap.size A B) (hf : ∀ k, M k → k < A.heap.size) : Grw M M A B :=
  ⟨Kpt.ofBelow _ h, fun _ hm _ => hm, fun k hm => Nat.lt_of_lt_of_le (hf k hm) h.size⟩
theorem Grw.refl {M : Nat → Prop} {A : World} (hf : ∀ k, M k → k < A.heap.size) : Grw M M A A := Grw.ofBelow (Below.refl _ A) hf

/-- The rounds of loop l, over xs: J b pre M W: pre have come; b: it goes on. -/
def Rnds {α : Type} (P : Program) (l : Nat) (encs : α → Array Value) (xs : List α) (J : Bool → List α → (Nat → Prop) → World → Prop) : Prop :=
  ∀ m pre x M W, J true pre M W → (∀ k, M k → k < W.heap.size) → pre ++ [x] <+: xs → YieldAt Fence.wide m P l (encs x) W fun e W' => ∃ b M', e = .returned (.bool b) ∧ J b (pre ++ [x]) M' W' ∧ Grw M M' W W'
def Abd {α : Type} (J : Bool → List α → (Nat → Prop) → World → Prop) : Prop := ∀ b pre M A B, J b pre M A → Kpt M A B → J b pre M B
/-- How an iterator may end that has been given pre ahead and has xs to hand out: all have come, or a round has said no. -/
def Ends {α : Type} (J : Bool → List α → (Nat → Prop) → World → Prop) (all xs : List α) (M : Nat → Prop) (W W' : World) (b : Bool) : Prop :=
  ∃ pre M', J b pre M' W' ∧ Grw M M' W W' ∧ (b = true → pre = xs) ∧ (b = false → pre <+: all)
/-- An iterator: it hands out xs, one by one; it reads the blocks of R. -/
def Iter {α : Type} (P : Program) (g : Nat) (lb : Array Value) (encs : α → Array Value) (xs : List α) (R : Nat → Prop) (w : World) : Prop :=
  ∀ (l : Nat) (J : Bool → List α → (Nat → Prop) → World → Prop) (M : Nat → Prop) (W : World), Kpt R w W → (∀ k, R k → ¬ M k) → (∀ k, M k → k < W.heap.size) → Abd J → Rnds P l encs xs J → J true [] M W →
    Calls P g (#[.func (.yield l) #[] #[]] ++ lb) W fun e W' => (∃ v, e = .returned v) ∧ ∃ b, Ends J xs xs M W W' b

/-- How the body of a round may be left. -/
def rndQ {α : Type} (I : List α → (Nat → Prop) → World → Prop) (Ix : Code → List α → (Nat → Prop) → World → Prop) (M : Nat → Prop) (ys : List α) (W : World) : Exit → Act → World → Prop
  | .normal, _, W' => ∃ M', I ys M' W' ∧ Grw M M' W W'
  | .ret, _, W' => ∃ M', Ix .ret ys M' W' ∧ Grw M M' W W'
  | .exit id, _, W' => ∃ M', Ix (.exit id) ys M' W' ∧ Grw M M' W W'
  | .goto t, _, W' => ∃ M', Ix (.goto t) ys M' W' ∧ Grw M M' W W'
  | .panic _, _, _ => False
  | .outgrown, _, _ => False

theorem wide_any {l m m' : Nat} {P : Program} {c : Code} {Q : Exit → Act → World → Prop} {a : Act} {w : World} (h : c.wpIn (Fence.wide.inRound l) m P Q a w) : c.wpIn (Fence.wide.inRound l) m' P Q a w :=
  fun b k cs hro hb _ => h b k cs hro hb (fun d hd => by simp [Fence.wide] at hd)

/-- The loop's own J. -/
def lpJ {α : Type} (rec : LoopState → Option Code → Loop) (D l : Nat) (I : List α → (Nat → Prop) → World → Prop) (Ix : Code → List α → (Nat → Prop) → World → Prop) (b : Bool) (pre : List α) (M : Nat → Prop) (W : World) : Prop :=
  ∃ M1, (∀ k, M k ↔ (M1 k ∨ k = D ∨ k = l)) ∧ ¬ M1 D ∧ ¬ M1 l ∧ W.heap[D]? = some (.deferred (some [])) ∧
    ((b = true ∧ I pre M1 W ∧ W.heap[l]? = some (.loop (rec .ready none))) ∨ (b = false ∧ ∃ c, Ix c pre M1 W ∧ W.heap[l]? = some (.loop (rec .done (some c)))))

theorem lp_abd {α : Type} {rec : LoopState → Option Code → Loop} {D l : Nat} {I : List α → (Nat → Prop) → World → Prop} {Ix : Code → List α → (Nat → Prop) → World → Prop}
    (hI : ∀ pre M A B, I pre M A → Kpt M A B → I pre M B) (hIx : ∀ c pre M A B, Ix c pre M A → Kpt M A B → Ix c pre M B) : Abd (lpJ rec D l I Ix) := by
  rintro b pre M A B ⟨M1, hM, h1, h2, hD, h⟩ hk
  have hk1 : Kpt M1 A B := hk.mono fun k h => (hM k).2 (Or.inl h)
  have lt : ∀ {k : Nat} {o : Obj}, A.heap[k]? = some o → k < A.heap.size := fun h => (Array.getElem?_eq_some_iff.1 h).1
  refine ⟨M1, hM, h1, h2, (hk.block D (lt hD) ((hM D).2 (Or.inr (Or.inl rfl)))).trans hD, ?_⟩
  rcases h with ⟨rfl, hi, hl⟩ | ⟨rfl, c, hi, hl⟩
  · exact Or.inl ⟨rfl, hI _ _ _ _ hi hk1, (hk.block l (lt hl) ((hM l).2 (Or.inr (Or.inr rfl)))).trans hl⟩
  · exact Or.inr ⟨rfl, c, hIx _ _ _ _ _ hi hk1, (hk.block l (lt hl) ((hM l).2 (Or.inr (Or.inr rfl)))).trans hl⟩

/-- The end of a round: the record is written anew, all else lies. -/
theorem lp_end {α : Type} {P : Program} {rec : LoopState → Option Code → Loop} {D l : Nat} {I : List α → (Nat → Prop) → World → Prop} {Ix : Code → List α → (Nat → Prop) → World → Prop}
    (hrec : ∀ s p s' p', { rec s p with state := s', pending := p' } = rec s' p')
    (hI : ∀ pre M A B, I pre M A → Kpt M A B → I pre M B) (hIx : ∀ c pre M A B, Ix c pre M A → Kpt M A B → Ix c pre M B)
    {M M1 M' : Nat → Prop} {W W2 W3 : World} {ys : List α} (hDl : D ≠ l) (hM : ∀ k, M k ↔ (M1 k ∨ k = D ∨ k = l)) (hD1 : ¬ M1 D) (hl1 : ¬ M1 l)
    (hWW : Kpt (fun k => k ≠ l) W W2) (hl2 : W2.heap[l]? = some (.loop (rec .busy none))) (hD2 : W2.heap[D]? = some (.deferred (some []))) (hg : Grw M1 M' W2 W3)
    (jump : Option Code) (hj : (jump = none ∧ I ys M' W3) ∨ ∃ c, jump = some c ∧ Ix c ys M' W3) :
    ∃ v w', (Instr.endRound l jump).run P W3 = .ok v w' ∧ ∃ b M'', Ending.returned v = .returned (.bool b) ∧ lpJ rec D l I Ix b ys M'' w' ∧ Grw M M'' W w' := by
  have lt : ∀ {A : World} {k : Nat} {o : Obj}, A.heap[k]? = some o → k < A.heap.size := fun h => (Array.getElem?_eq_some_iff.1 h).1
  have hl3 := (hg.kept.block l (lt hl2) hl1).trans hl2
  have hD3 := (hg.kept.block D (lt hD2) hD1).trans hD2
  have hlM : ¬ M' l := fun h => hl1 (hg.old l h (lt hl2))
  have hDM : ¬ M' D := fun h => hD1 (hg.old D h (lt hD2))
  have hrun := run_endRound (P := P) jump hl3
  rw [hrec] at hrun
  have kp : ∀ o, Kpt M' W3 (W3.putObj l o) := fun o => (kpt_put W3 l o).mono (fun k hk e => hlM (e ▸ hk))
  have hD4 : ∀ o, (W3.putObj l o).heap[D]? = some (.deferred (some [])) := fun o => (World.putObj_heap_other hDl).trans hD3
  have hl4 : ∀ o, (W3.putObj l o).heap[l]? = some o := fun o => World.putObj_heap_same (lt hl3)
  have hgr : ∀ o, Grw M (fun k => M' k ∨ k = D ∨ k = l) W (W3.putObj l o) := fun o =>
    ⟨⟨hg.kept.os.trans hWW.os, hg.kept.tape.trans hWW.tape, hg.kept.output.trans hWW.output, by have a := hWW.size; have b := hg.kept.size; simp; omega, fun k hk hn => by
        have n1 : ¬ M1 k := fun h => hn ((hM k).2 (Or.inl h))
        have n2 : k ≠ l := fun h => hn ((hM k).2 (Or.inr (Or.inr h)))
        exact (World.putObj_heap_other n2).trans ((hg.kept.block k (Nat.lt_of_lt_of_le hk hWW.size) n1).trans (hWW.block k hk n2))⟩,
      fun k hk hkw => (hM k).2 (hk.imp (fun h => hg.old k h (Nat.lt_of_lt_of_le hkw hWW.size)) id),
      fun k hk => by
        rw [World.putObj_size]
        rcases hk with h | rfl | rfl
        · exact hg.fit k h
        · exact lt hD3
        · exact lt hl3⟩
  refine ⟨_, _, hrun, ?_⟩
  rcases hj with ⟨rfl, hi⟩ | ⟨c, rfl, hi⟩
  · exact ⟨true, _, rfl, ⟨M', fun _ => Iff.rfl, hDM, hlM, hD4 _, Or.inl ⟨rfl, hI _ _ _ _ hi (kp _), hl4 _⟩⟩, hgr _⟩
  · exact ⟨false, _, rfl, ⟨M', fun _ => Iff.rfl, hDM, hlM, hD4 _, Or.inr ⟨rfl, c, hIx _ _ _ _ _ hi (kp _), hl4 _⟩⟩, hgr _⟩

theorem wp_range {α : Type} {n : Nat} {P : Program} {g : Operand} {ps : Array Tmp} {assign body : Code} {Q : Exit → Act → World → Prop} {a : Act} {w : World}
    {gf : Nat} {lb : Array Value} (hg : a.eval g = .func (.func gf) #[] lb) (eg : ∀ args w, (callFunc gf args).run P w = .ok (.enter gf args) w)
    {encs : α → Array Value} {xs : List α} {R : Nat → Prop} (hit : Iter P gf lb encs xs R w) (hps : ∀ x, (encs x).size = ps.size) (hR : ∀ k, R k → k < w.heap.size)
    (I : List α → (Nat → Prop) → World → Prop) (Ix : Code → List α → (Nat → Prop) → World → Prop)
    (hI : ∀ pre M A B, I pre M A → Kpt M A B → I pre M B) (hIx : ∀ c pre M A B, Ix c pre M A → Kpt M A B → Ix c pre M B)
    (M0 : Nat → Prop) (hM0 : ∀ k, M0 k → k < w.heap.size) (hRM : ∀ k, R k → ¬ M0 k) (h0 : I [] M0 w)
    (hround : ∀ l pre x M W, I pre M W → (∀ k, M k → k < W.heap.size) → ¬ M l → w.heap.size < l → l < W.heap.size → pre ++ [x] <+: xs →
      assign.wpIn (Fence.wide.inRound l) 9 P (Exit.then (fun a1 W1 => Below W.heap.size W W1 ∧ ∀ W2, Kpt (fun k => k ≠ l) W1 W2 → W2.heap.size = W1.heap.size → I pre M W2 →
        body.wpIn (Fence.wide.inRound l) 9 P (rndQ I Ix M (pre ++ [x]) W2) a1 W2) (fun _ _ _ => False)) { tmps := (ps.zip (encs x)).foldl (fun t (p, v) => t.setIfInBounds p v) a.tmps, defers := [] } W)
    (hdone : ∀ D M' W', w.heap.size ≤ D → D < W'.heap.size → ¬ M' D → I xs M' W' → Grw M0 M' w W' → W'.heap[D]? = some (.deferred (some [])) → Q .normal { a with defers := { target := .collected D, args := #[] } :: a.defers } W')
    (hstop : ∀ D c pre M' W', w.heap.size ≤ D → D < W'.heap.size → ¬ M' D → pre <+: xs → Ix c pre M' W' → Grw M0 M' w W' → W'.heap[D]? = some (.deferred (some [])) → c.wpIn Fence.wide n P Q { a with defers := { target := .collected D, args := #[] } :: a.defers } W') :
    (Code.rangeFunc g ps assign body).wpIn Fence.wide n P Q a w := by
  refine wpIn_rangeFunc ?_
  intro fn _
  obtain ⟨rec, hrec⟩ : ∃ rec : LoopState → Option Code → Loop, rec = fun st pe => { state := st, pending := pe, fn, tmps := a.tmps, params := ps, assign, body, defers := w.heap.size } := ⟨_, rfl⟩
  have hrr : ∀ s p s' p', { rec s p with state := s', pending := p' } = rec s' p' := by intro s p s' p'; rw [hrec]
  obtain ⟨W1, hW1⟩ : ∃ W1, (w.alloc (.deferred (some []))).alloc (.loop (rec .ready none)) = W1 := ⟨_, rfl⟩
  have hs1 : W1.heap.size = w.heap.size + 2 := by rw [← hW1]; simp
  have hl1 : W1.heap[w.heap.size + 1]? = some (.loop (rec .ready none)) := by
    rw [← hW1]; have := World.alloc_heap_new (w.alloc (.deferred (some []))) (.loop (rec .ready none)); rwa [World.size_alloc] at this
  have hD1 : W1.heap[w.heap.size]? = some (.deferred (some [])) := by
    rw [← hW1]; exact (Below.heap_alloc _ _ _ (by simp)).trans (World.alloc_heap_new w _)
  have hb1 : Below w.heap.size w W1 := by rw [← hW1]; exact ((Below.refl _ w).alloc (Nat.le_refl _) _).alloc (by simp) _
  have lt : ∀ {A : World} {k : Nat} {o : Obj}, A.heap[k]? = some o → k < A.heap.size := fun h => (Array.getElem?_eq_some_iff.1 h).1
  refine ⟨w.heap.size + 1, [{ target := .collected w.heap.size, args := #[] }], W1, { target := .fn (.func gf) lb, args := #[.func (.yield (w.heap.size + 1)) #[] #[]] }, W1, gf,
    #[.func (.yield (w.heap.size + 1)) #[] #[]] ++ lb, W1, ?_, ?_, fun _ _ => trivial, ?_, fun h => by simp [Fence.wide] at h, ?_⟩
  · rw [← hW1, hrec]; exact run_enterLoop_outer _ _ _ _ _
  · simp only [resolve, hg]
    simp [go_sem]
  · simp [invoke, go_sem, eg]
  · refine callsIn_wide.2 ?_
    refine (hit (w.heap.size + 1) (lpJ rec w.heap.size (w.heap.size + 1) I Ix) (fun k => M0 k ∨ k = w.heap.size ∨ k = w.heap.size + 1) W1 (Kpt.ofBelow _ hb1)
      (fun k hk h => h.elim (hRM k hk) fun h => by have := hR k hk; omega)
      (fun k h => h.elim (fun h => by have := hM0 k h; omega) fun h => by omega) (lp_abd hI hIx) ?_
      ⟨M0, fun _ => Iff.rfl, fun h => Nat.lt_irrefl _ (hM0 _ h), fun h => by have := hM0 _ h; omega, hD1, Or.inl ⟨rfl, hI _ _ _ _ h0 (Kpt.ofBelow _ hb1), hl1⟩⟩).mono ?_
    · rintro m pre x M W ⟨M1, hM, n1, n2, hD, ⟨_, hi, hl⟩ | ⟨hb, _⟩⟩ hfit hpre
      case inr => cases hb
      have hy := run_yield (P := P) (args := encs x) hl (by rw [hrec]; exact hps x)
      rw [hrec] at hy
      refine ⟨fn, _, assign, body, hy, roundIn_of_wpIn trivial (wide_any (wpIn_mono (hround _ pre x M1 W hi (fun k hk => hfit k ((hM k).2 (Or.inl hk))) n2 (Nat.lt_succ_self _) (lt hl) hpre) ?_))⟩
      intro e a1 V1 hV
      cases e with
      | normal =>
        obtain ⟨hb, hbody⟩ := hV
        have hl2 := (hb.block _ (lt hl)).trans hl
        have hD2 := (hb.block _ (lt hD)).trans hD
        have hbr := run_beginRound (P := P) hl2 (by rw [hrec])
        have e1 : { rec .ready none with state := .busy } = rec .busy none := by rw [hrec]
        rw [e1] at hbr
        have kp := kpt_put V1 (w.heap.size + 1) (.loop (rec .busy none))
        refine ⟨_, hbr, wide_any (wpIn_mono (hbody _ kp (by simp) (hI _ _ _ _ hi ((Kpt.ofBelow M1 hb).trans (kp.mono fun k hk h => n2 (h ▸ hk))))) ?_)⟩
        have hl3 : (V1.putObj (w.heap.size + 1) (.loop (rec .busy none))).heap[w.heap.size + 1]? = some (.loop (rec .busy none)) := World.putObj_heap_same (lt hl2)
        have hD3 : (V1.putObj (w.heap.size + 1) (.loop (rec .busy none))).heap[w.heap.size]? = some (.deferred (some [])) := (World.putObj_heap_other (by omega)).trans hD2
        have fin := fun {M' W3} (hg : Grw M1 M' (V1.putObj (w.heap.size + 1) (.loop (rec .busy none))) W3) => lp_end (P := P) (ys := pre ++ [x]) hrr hI hIx (by omega) hM n1 n2 ((Kpt.ofBelow _ hb).trans kp) hl3 hD3 hg
        rintro e a3 W3 hp
        cases e with
        | normal => obtain ⟨M', hi', hg'⟩ := hp; exact fin hg' none (Or.inl ⟨rfl, hi'⟩)
        | ret => obtain ⟨M', hi', hg'⟩ := hp; exact fin hg' (some .ret) (Or.inr ⟨_, rfl, hi'⟩)
        | exit id => obtain ⟨M', hi', hg'⟩ := hp; exact fin hg' (some (.exit id)) (Or.inr ⟨_, rfl, hi'⟩)
        | goto t => obtain ⟨M', hi', hg'⟩ := hp; exact fin hg' (some (.goto t)) (Or.inr ⟨_, rfl, hi'⟩)
        | panic ch => exact hp.elim
        | outgrown => exact hp.elim
      | exit id => exact hV.elim
      | goto t => exact hV.elim
      | ret => exact hV.elim
      | panic ch => exact hV.elim
      | outgrown => exact hV.elim
    · rintro e W2 ⟨⟨v, rfl⟩, b, pre, M, ⟨M1, hM, n1, n2, hD, h⟩, hg', ht, hf⟩
      have kp : ∀ o, Kpt M1 W2 (W2.putObj (w.heap.size + 1) o) := fun o => (kpt_put W2 _ o).mono fun k hk e => n2 (e ▸ hk)
      have hgr : ∀ o, Grw M0 M1 w (W2.putObj (w.heap.size + 1) o) := fun o =>
        ⟨⟨hg'.kept.os.trans hb1.os, hg'.kept.tape.trans hb1.tape, hg'.kept.output.trans hb1.output, by have := hg'.kept.size; simp; omega, fun k hk hn => by
            refine (World.putObj_heap_other (by omega)).trans ((hg'.kept.block k (by omega) ?_).trans (hb1.block k hk))
            rintro (h | h | h)
            · exact hn h
            · omega
            · omega⟩,
          fun k hk hkw => by
            rcases hg'.old k ((hM k).2 (Or.inl hk)) (by omega) with h | h | h
            · exact h
            · omega
            · omega,
          fun k hk => by rw [World.putObj_size]; exact hg'.fit k ((hM k).2 (Or.inl hk))⟩
      have hD2 : ∀ o, (W2.putObj (w.heap.size + 1) o).heap[w.heap.size]? = some (.deferred (some [])) := fun o => (World.putObj_heap_other (by omega)).trans hD
      rcases h with ⟨rfl, hi, hl⟩ | ⟨rfl, c, hi, hl⟩
      · refine ⟨none, _, by have := run_endLoop (P := P) hl (by rw [hrec]; simp); rw [hrec] at this; exact this, ?_⟩
        have := ht rfl
        subst this
        exact hdone _ M1 _ (Nat.le_refl _) (by rw [World.putObj_size]; exact lt hD) n1 (hI _ _ _ _ hi (kp _)) (hgr _) (hD2 _)
      · refine ⟨some c, _, by have := run_endLoop (P := P) hl (by rw [hrec]; simp); rw [hrec] at this; exact this, ?_⟩
        exact hstop _ c pre M1 _ (Nat.le_refl _) (by rw [World.putObj_size]; exact lt hD) n1 (hf rfl) (hIx _ _ _ _ _ hi (kp _)) (hgr _) (hD2 _)

theorem rnd_of {F : Fence} {n : Nat} {P : Program} {c : Code} {K : Act → World → Prop} {N : Exit → Act → World → Prop} {a : Act} {w : World}
    (h : ∀ K' : Act → World → Prop, Hid (∀ a1 W1, K a1 W1 → K' a1 W1) → c.wpIn F n P (Exit.then K' N) a w) : c.wpIn F n P (Exit.then K N) a w := h K (fun _ _ h => h)

end Go.Proofs.Ytnlnigelecmobaa
