/-
  The specification's HasAddr of a right prefix and a right address, by its plain twin; nothing old in memory turns.
-/
import Derived.Test.YtdbcdichmmcnbaaGreatZK8
import Derived.Deep.RegionWith
import Derived.Deep.DeepCutAuto
import Derived.Test.YtdbcdichmmcnbaaGreatZK1
namespace Go.Proofs.YtdbcdichmmcnbaaGreat
open Go.RowKit

set_option maxHeartbeats 1000000 in
theorem sHasAddr_ft (H L : BitVec 64) (b : Int) (H' L' : BitVec 64) (hp : pokB false H L b = true) (hok : okB true H'.toInt L'.toInt = true) (w : World) :
    Calls Tryz.prog 128 #[.agg #[.bool false, .int .i64 H.toInt, .int .i64 L.toInt, .int .i64 b], .agg #[.bool true, .int .i64 H'.toInt, .int .i64 L'.toInt]] w fun e w' => e = .returned (.bool false) ∧ Below w.heap.size w w' := by
  have HP : Hid (∀ w, _) := sPrefixOk_any false H L b
  rw [hp] at HP
  clear hp
  have HK : Hid (∀ w, _) := sAddrOk_any true H'.toInt L'.toInt
  rw [hok] at HK
  clear hok
  go_enter Tryz.func128, Tryz.ntmps128
  go_wp2_with fail
  refine wp_region_held_drew (S := (fun x => x.cell? ⟨w.heap.size, 0, none⟩ = some (.bool false) ∧ x.cell? ⟨w.heap.size, 1, none⟩ = some (.int .i64 H.toInt) ∧ x.cell? ⟨w.heap.size, 2, none⟩ = some (.int .i64 L.toInt) ∧ x.cell? ⟨w.heap.size, 3, none⟩ = some (.int .i64 b) ∧ x.cell? ⟨w.heap.size + 1, 0, none⟩ = some (.bool true) ∧ x.cell? ⟨w.heap.size + 1, 1, none⟩ = some (.int .i64 H'.toInt) ∧ x.cell? ⟨w.heap.size + 1, 2, none⟩ = some (.int .i64 L'.toInt))) (by kernel_rfl) ?_ (fun hHeld => ?_)
  · try dsimp only
    (refine seven_of_below (W := (w.alloc (.cells #[.bool false, .int .i64 H.toInt, .int .i64 L.toInt, .int .i64 b] 31)).alloc (.cells #[.bool true, .int .i64 H'.toInt, .int .i64 L'.toInt] 29)) (n := w.heap.size + 2) ?_ (by omega) (by omega) ⟨by simp [go_sem], by simp [go_sem], by simp [go_sem], by simp [go_sem], by simp [go_sem], by simp [go_sem], by simp [go_sem]⟩; repeat (first | with_reducible exact Below.refl _ _ | (with_reducible refine Below.drew ?_) | (with_reducible refine Below.alloc ?_ ?_ _; rotate_left; (focus (first | omega | (simp; omega) | (simp; done)))) | (with_reducible refine Below.setCell ?_ ?_ _; rotate_left; (focus (first | omega | (simp; omega) | (simp; done))))))
  refine tk 0 5 rfl ?_
  simp only [pa]
  refine wpAnyH_ready (rs := [1]) (by kernel_rfl) (by simp) ?_
  refine AllReadyH.cons rfl (fun K hK => ?_) AllReadyH.nil
  go_simp
  go_wp2_with ((go_at_call 42; refine (HP.out _).mono ?_; rintro e w1 ⟨rfl, hb1⟩; have hz1 := hb1.size; (try simp at hz1); (first | (refine ltk (w.heap.size) (w1.heap.size) ?_ ?_; (focus omega); intro f10) | skip); (first | (refine ltk (w.heap.size + 1) (w1.heap.size) ?_ ?_; (focus omega); intro f11) | skip); (refine olds_k (w.heap.size + 2) hb1 ?_ ?_; (focus (first | omega | (simp; omega) | (simp; done))); intro hc1 hf1)))
  refine hK.out _ _ ?_ (fun hHeld => ?_)
  · try dsimp only
    (refine seven_of_below (W := (w.alloc (.cells #[.bool false, .int .i64 H.toInt, .int .i64 L.toInt, .int .i64 b] 31)).alloc (.cells #[.bool true, .int .i64 H'.toInt, .int .i64 L'.toInt] 29)) (n := w.heap.size + 2) ?_ (by omega) (by omega) ⟨by simp [go_sem], by simp [go_sem], by simp [go_sem], by simp [go_sem], by simp [go_sem], by simp [go_sem], by simp [go_sem]⟩; repeat (first | with_reducible exact Below.refl _ _ | (with_reducible refine Below.drew ?_) | (with_reducible refine Below.alloc ?_ ?_ _; rotate_left; (focus (first | omega | (simp; omega) | (simp; done)))) | (with_reducible refine Below.setCell ?_ ?_ _; rotate_left; (focus (first | omega | (simp; omega) | (simp; done)))) | (with_reducible refine Below.trans ?_ (hb1.mono ?_); rotate_left; (focus (first | omega | (simp; omega) | (simp; done))))))
  clear hK K
  refine tk 2 7 rfl ?_
  simp only [pa]
  refine tk 3 8 rfl ?_
  simp only [pa]
  refine wpAnyH_ready (rs := [4]) (by kernel_rfl) (by simp) ?_
  refine AllReadyH.cons rfl (fun K hK => ?_) AllReadyH.nil
  go_simp
  go_wp2_with ((go_at_call 91; refine (HK.out _).mono ?_; rintro e w2 ⟨rfl, hb2⟩; have hz2 := hb2.size; (try simp at hz2); (first | (refine ltk (w.heap.size) (w2.heap.size) ?_ ?_; (focus omega); intro f20) | skip); (first | (refine ltk (w.heap.size + 1) (w2.heap.size) ?_ ?_; (focus omega); intro f21) | skip); (refine olds_k (w.heap.size + 2) hb2 ?_ ?_; (focus (first | omega | (simp; omega) | (simp; done))); intro hc2 hf2)))
  refine hK.out _ _ ?_ (fun hHeld => ?_)
  · try dsimp only
    (refine seven_of_below (W := (w.alloc (.cells #[.bool false, .int .i64 H.toInt, .int .i64 L.toInt, .int .i64 b] 31)).alloc (.cells #[.bool true, .int .i64 H'.toInt, .int .i64 L'.toInt] 29)) (n := w.heap.size + 2) ?_ (by omega) (by omega) ⟨by simp [go_sem], by simp [go_sem], by simp [go_sem], by simp [go_sem], by simp [go_sem], by simp [go_sem], by simp [go_sem]⟩; repeat (first | with_reducible exact Below.refl _ _ | (with_reducible refine Below.drew ?_) | (with_reducible refine Below.alloc ?_ ?_ _; rotate_left; (focus (first | omega | (simp; omega) | (simp; done)))) | (with_reducible refine Below.setCell ?_ ?_ _; rotate_left; (focus (first | omega | (simp; omega) | (simp; done)))) | (with_reducible refine Below.trans ?_ (hb2.mono ?_); rotate_left; (focus (first | omega | (simp; omega) | (simp; done)))) | (with_reducible refine Below.trans ?_ (hb1.mono ?_); rotate_left; (focus (first | omega | (simp; omega) | (simp; done))))))
  clear hK K
  refine tk 5 10 rfl ?_
  simp only [pa]
  refine tk 6 11 rfl ?_
  simp only [pa]
  refine tk 7 12 rfl ?_
  simp only [pa]
  refine tk 8 13 rfl ?_
  simp only [pa]
  refine tk 9 14 rfl ?_
  simp only [pa]
  refine tk 10 15 rfl ?_
  simp only [pa]
  refine tk 11 16 rfl ?_
  simp only [pa]
  refine tk 12 17 rfl ?_
  simp only [pa]
  refine tk 13 18 rfl ?_
  simp only [pa]
  refine tk 14 19 rfl ?_
  simp only [pa]
  refine sk 15 20 rfl ?_
  simp only [pa]
  refine sk 16 21 rfl ?_
  simp only [pa]
  refine sk 17 22 rfl ?_
  simp only [pa]
  refine sk 19 24 rfl ?_
  simp only [pa]
  refine sk 20 25 rfl ?_
  simp only [pa]
  refine wpAnyH_ready (rs := [18]) (by kernel_rfl) (by simp) ?_
  refine AllReadyH.cons rfl (fun K hK => ?_) AllReadyH.nil
  go_simp
  refine hK.out _ _ ?_ (fun hHeld => ?_)
  · try dsimp only
    (refine seven_of_below (W := (w.alloc (.cells #[.bool false, .int .i64 H.toInt, .int .i64 L.toInt, .int .i64 b] 31)).alloc (.cells #[.bool true, .int .i64 H'.toInt, .int .i64 L'.toInt] 29)) (n := w.heap.size + 2) ?_ (by omega) (by omega) ⟨by simp [go_sem], by simp [go_sem], by simp [go_sem], by simp [go_sem], by simp [go_sem], by simp [go_sem], by simp [go_sem]⟩; repeat (first | with_reducible exact Below.refl _ _ | (with_reducible refine Below.drew ?_) | (with_reducible refine Below.alloc ?_ ?_ _; rotate_left; (focus (first | omega | (simp; omega) | (simp; done)))) | (with_reducible refine Below.setCell ?_ ?_ _; rotate_left; (focus (first | omega | (simp; omega) | (simp; done)))) | (with_reducible refine Below.trans ?_ (hb2.mono ?_); rotate_left; (focus (first | omega | (simp; omega) | (simp; done)))) | (with_reducible refine Below.trans ?_ (hb1.mono ?_); rotate_left; (focus (first | omega | (simp; omega) | (simp; done))))))
  clear hK K
  refine sk 21 26 rfl ?_
  simp only [pa]
  refine tk 22 27 rfl ?_
  simp only [pa]
  refine tk 23 4 rfl ?_
  simp only [pa]
  refine wpAnyH_done (by kernel_rfl) ?_ _
  go_wp2_with fail
  go_ret
  refine ⟨rfl, ?_⟩
  repeat (first | with_reducible exact Below.refl _ _ | (with_reducible refine Below.drew ?_) | (with_reducible refine Below.alloc ?_ ?_ _; rotate_left; (focus (first | omega | (simp; omega) | (simp; done)))) | (with_reducible refine Below.setCell ?_ ?_ _; rotate_left; (focus (first | omega | (simp; omega) | (simp; done)))) | (with_reducible refine Below.trans ?_ (hb2.mono ?_); rotate_left; (focus (first | omega | (simp; omega) | (simp; done)))) | (with_reducible refine Below.trans ?_ (hb1.mono ?_); rotate_left; (focus (first | omega | (simp; omega) | (simp; done)))))

set_option maxHeartbeats 1000000 in
theorem sHasAddr_tf (H L : BitVec 64) (b : Int) (H' L' : BitVec 64) (hp : pokB true H L b = true) (hok : okB false H'.toInt L'.toInt = true) (w : World) :
    Calls Tryz.prog 128 #[.agg #[.bool true, .int .i64 H.toInt, .int .i64 L.toInt, .int .i64 b], .agg #[.bool false, .int .i64 H'.toInt, .int .i64 L'.toInt]] w fun e w' => e = .returned (.bool false) ∧ Below w.heap.size w w' := by
  have HP : Hid (∀ w, _) := sPrefixOk_any true H L b
  rw [hp] at HP
  clear hp
  have HK : Hid (∀ w, _) := sAddrOk_any false H'.toInt L'.toInt
  rw [hok] at HK
  clear hok
  go_enter Tryz.func128, Tryz.ntmps128
  go_wp2_with fail
  refine wp_region_held_drew (S := (fun x => x.cell? ⟨w.heap.size, 0, none⟩ = some (.bool true) ∧ x.cell? ⟨w.heap.size, 1, none⟩ = some (.int .i64 H.toInt) ∧ x.cell? ⟨w.heap.size, 2, none⟩ = some (.int .i64 L.toInt) ∧ x.cell? ⟨w.heap.size, 3, none⟩ = some (.int .i64 b) ∧ x.cell? ⟨w.heap.size + 1, 0, none⟩ = some (.bool false) ∧ x.cell? ⟨w.heap.size + 1, 1, none⟩ = some (.int .i64 H'.toInt) ∧ x.cell? ⟨w.heap.size + 1, 2, none⟩ = some (.int .i64 L'.toInt))) (by kernel_rfl) ?_ (fun hHeld => ?_)
  · try dsimp only
    (refine seven_of_below (W := (w.alloc (.cells #[.bool true, .int .i64 H.toInt, .int .i64 L.toInt, .int .i64 b] 31)).alloc (.cells #[.bool false, .int .i64 H'.toInt, .int .i64 L'.toInt] 29)) (n := w.heap.size + 2) ?_ (by omega) (by omega) ⟨by simp [go_sem], by simp [go_sem], by simp [go_sem], by simp [go_sem], by simp [go_sem], by simp [go_sem], by simp [go_sem]⟩; repeat (first | with_reducible exact Below.refl _ _ | (with_reducible refine Below.drew ?_) | (with_reducible refine Below.alloc ?_ ?_ _; rotate_left; (focus (first | omega | (simp; omega) | (simp; done)))) | (with_reducible refine Below.setCell ?_ ?_ _; rotate_left; (focus (first | omega | (simp; omega) | (simp; done))))))
  refine tk 0 5 rfl ?_
  simp only [pa]
  refine wpAnyH_ready (rs := [1]) (by kernel_rfl) (by simp) ?_
  refine AllReadyH.cons rfl (fun K hK => ?_) AllReadyH.nil
  go_simp
  go_wp2_with ((go_at_call 42; refine (HP.out _).mono ?_; rintro e w1 ⟨rfl, hb1⟩; have hz1 := hb1.size; (try simp at hz1); (first | (refine ltk (w.heap.size) (w1.heap.size) ?_ ?_; (focus omega); intro f10) | skip); (first | (refine ltk (w.heap.size + 1) (w1.heap.size) ?_ ?_; (focus omega); intro f11) | skip); (refine olds_k (w.heap.size + 2) hb1 ?_ ?_; (focus (first | omega | (simp; omega) | (simp; done))); intro hc1 hf1)))
  refine hK.out _ _ ?_ (fun hHeld => ?_)
  · try dsimp only
    (refine seven_of_below (W := (w.alloc (.cells #[.bool true, .int .i64 H.toInt, .int .i64 L.toInt, .int .i64 b] 31)).alloc (.cells #[.bool false, .int .i64 H'.toInt, .int .i64 L'.toInt] 29)) (n := w.heap.size + 2) ?_ (by omega) (by omega) ⟨by simp [go_sem], by simp [go_sem], by simp [go_sem], by simp [go_sem], by simp [go_sem], by simp [go_sem], by simp [go_sem]⟩; repeat (first | with_reducible exact Below.refl _ _ | (with_reducible refine Below.drew ?_) | (with_reducible refine Below.alloc ?_ ?_ _; rotate_left; (focus (first | omega | (simp; omega) | (simp; done)))) | (with_reducible refine Below.setCell ?_ ?_ _; rotate_left; (focus (first | omega | (simp; omega) | (simp; done)))) | (with_reducible refine Below.trans ?_ (hb1.mono ?_); rotate_left; (focus (first | omega | (simp; omega) | (simp; done))))))
  clear hK K
  refine tk 2 7 rfl ?_
  simp only [pa]
  refine tk 3 8 rfl ?_
  simp only [pa]
  refine wpAnyH_ready (rs := [4]) (by kernel_rfl) (by simp) ?_
  refine AllReadyH.cons rfl (fun K hK => ?_) AllReadyH.nil
  go_simp
  go_wp2_with ((go_at_call 91; refine (HK.out _).mono ?_; rintro e w2 ⟨rfl, hb2⟩; have hz2 := hb2.size; (try simp at hz2); (first | (refine ltk (w.heap.size) (w2.heap.size) ?_ ?_; (focus omega); intro f20) | skip); (first | (refine ltk (w.heap.size + 1) (w2.heap.size) ?_ ?_; (focus omega); intro f21) | skip); (refine olds_k (w.heap.size + 2) hb2 ?_ ?_; (focus (first | omega | (simp; omega) | (simp; done))); intro hc2 hf2)))
  refine hK.out _ _ ?_ (fun hHeld => ?_)
  · try dsimp only
    (refine seven_of_below (W := (w.alloc (.cells #[.bool true, .int .i64 H.toInt, .int .i64 L.toInt, .int .i64 b] 31)).alloc (.cells #[.bool false, .int .i64 H'.toInt, .int .i64 L'.toInt] 29)) (n := w.heap.size + 2) ?_ (by omega) (by omega) ⟨by simp [go_sem], by simp [go_sem], by simp [go_sem], by simp [go_sem], by simp [go_sem], by simp [go_sem], by simp [go_sem]⟩; repeat (first | with_reducible exact Below.refl _ _ | (with_reducible refine Below.drew ?_) | (with_reducible refine Below.alloc ?_ ?_ _; rotate_left; (focus (first | omega | (simp; omega) | (simp; done)))) | (with_reducible refine Below.setCell ?_ ?_ _; rotate_left; (focus (first | omega | (simp; omega) | (simp; done)))) | (with_reducible refine Below.trans ?_ (hb2.mono ?_); rotate_left; (focus (first | omega | (simp; omega) | (simp; done)))) | (with_reducible refine Below.trans ?_ (hb1.mono ?_); rotate_left; (focus (first | omega | (simp; omega) | (simp; done))))))
  clear hK K
  refine tk 5 10 rfl ?_
  simp only [pa]
  refine tk 6 11 rfl ?_
  simp only [pa]
  refine tk 7 12 rfl ?_
  simp only [pa]
  refine tk 8 13 rfl ?_
  simp only [pa]
  refine tk 9 14 rfl ?_
  simp only [pa]
  refine tk 10 15 rfl ?_
  simp only [pa]
  refine tk 11 16 rfl ?_
  simp only [pa]
  refine tk 12 17 rfl ?_
  simp only [pa]
  refine tk 13 18 rfl ?_
  simp only [pa]
  refine tk 14 19 rfl ?_
  simp only [pa]
  refine sk 15 20 rfl ?_
  simp only [pa]
  refine sk 16 21 rfl ?_
  simp only [pa]
  refine sk 17 22 rfl ?_
  simp only [pa]
  refine sk 19 24 rfl ?_
  simp only [pa]
  refine sk 20 25 rfl ?_
  simp only [pa]
  refine wpAnyH_ready (rs := [18]) (by kernel_rfl) (by simp) ?_
  refine AllReadyH.cons rfl (fun K hK => ?_) AllReadyH.nil
  go_simp
  refine hK.out _ _ ?_ (fun hHeld => ?_)
  · try dsimp only
    (refine seven_of_below (W := (w.alloc (.cells #[.bool true, .int .i64 H.toInt, .int .i64 L.toInt, .int .i64 b] 31)).alloc (.cells #[.bool false, .int .i64 H'.toInt, .int .i64 L'.toInt] 29)) (n := w.heap.size + 2) ?_ (by omega) (by omega) ⟨by simp [go_sem], by simp [go_sem], by simp [go_sem], by simp [go_sem], by simp [go_sem], by simp [go_sem], by simp [go_sem]⟩; repeat (first | with_reducible exact Below.refl _ _ | (with_reducible refine Below.drew ?_) | (with_reducible refine Below.alloc ?_ ?_ _; rotate_left; (focus (first | omega | (simp; omega) | (simp; done)))) | (with_reducible refine Below.setCell ?_ ?_ _; rotate_left; (focus (first | omega | (simp; omega) | (simp; done)))) | (with_reducible refine Below.trans ?_ (hb2.mono ?_); rotate_left; (focus (first | omega | (simp; omega) | (simp; done)))) | (with_reducible refine Below.trans ?_ (hb1.mono ?_); rotate_left; (focus (first | omega | (simp; omega) | (simp; done))))))
  clear hK K
  refine sk 21 26 rfl ?_
  simp only [pa]
  refine tk 22 27 rfl ?_
  simp only [pa]
  refine tk 23 4 rfl ?_
  simp only [pa]
  refine wpAnyH_done (by kernel_rfl) ?_ _
  go_wp2_with fail
  go_ret
  refine ⟨rfl, ?_⟩
  repeat (first | with_reducible exact Below.refl _ _ | (with_reducible refine Below.drew ?_) | (with_reducible refine Below.alloc ?_ ?_ _; rotate_left; (focus (first | omega | (simp; omega) | (simp; done)))) | (with_reducible refine Below.setCell ?_ ?_ _; rotate_left; (focus (first | omega | (simp; omega) | (simp; done)))) | (with_reducible refine Below.trans ?_ (hb2.mono ?_); rotate_left; (focus (first | omega | (simp; omega) | (simp; done)))) | (with_reducible refine Below.trans ?_ (hb1.mono ?_); rotate_left; (focus (first | omega | (simp; omega) | (simp; done)))))

set_option maxHeartbeats 1000000 in
theorem sHasAddr_same (s : Bool) (H L : BitVec 64) (b : Int) (n : Nat) (H' L' : BitVec 64) (hp : pokB s H L b = true) (hok : okB s H'.toInt L'.toInt = true) (hn : n ≤ wd s) (hb : b = (wd s : Int) - (n : Int)) (w : World) :
    Calls Tryz.prog 128 #[.agg #[.bool s, .int .i64 H.toInt, .int .i64 L.toInt, .int .i64 b], .agg #[.bool s, .int .i64 H'.toInt, .int .i64 L'.toInt]] w fun e w' => e = .returned (.bool (hasB s H L n s H' L')) ∧ Below w.heap.size w w' := by
  have HM : Hid (∀ w, _) := l2Mask_any s H' L' n b hok hn hb
  have hq := hasEq s H L n s H' L'
  have HP : Hid (∀ w, _) := sPrefixOk_any s H L b
  rw [hp] at HP
  clear hp
  have HK : Hid (∀ w, _) := sAddrOk_any s H'.toInt L'.toInt
  rw [hok] at HK
  clear hok
  clear hn hb
  generalize hasB s H L n s H' L' = B at hq ⊢
  go_enter Tryz.func128, Tryz.ntmps128
  go_wp2_with fail
  go_region_held3 (fun x => x.cell? ⟨w.heap.size, 0, none⟩ = some (.bool s) ∧ x.cell? ⟨w.heap.size, 1, none⟩ = some (.int .i64 H.toInt) ∧ x.cell? ⟨w.heap.size, 2, none⟩ = some (.int .i64 L.toInt) ∧ x.cell? ⟨w.heap.size, 3, none⟩ = some (.int .i64 b) ∧ x.cell? ⟨w.heap.size + 1, 0, none⟩ = some (.bool s) ∧ x.cell? ⟨w.heap.size + 1, 1, none⟩ = some (.int .i64 H'.toInt) ∧ x.cell? ⟨w.heap.size + 1, 2, none⟩ = some (.int .i64 L'.toInt)) ((refine seven_of_below (W := (w.alloc (.cells #[.bool s, .int .i64 H.toInt, .int .i64 L.toInt, .int .i64 b] 31)).alloc (.cells #[.bool s, .int .i64 H'.toInt, .int .i64 L'.toInt] 29)) (n := w.heap.size + 2) ?_ (by omega) (by omega) ⟨by simp [go_sem], by simp [go_sem], by simp [go_sem], by simp [go_sem], by simp [go_sem], by simp [go_sem], by simp [go_sem]⟩; repeat (first | with_reducible exact Below.refl _ _ | (with_reducible refine Below.drew ?_) | (with_reducible refine Below.alloc ?_ ?_ _; rotate_left; (focus (first | omega | (simp; omega) | (simp; done)))) | (with_reducible refine Below.setCell ?_ ?_ _; rotate_left; (focus (first | omega | (simp; omega) | (simp; done)))) | (with_reducible refine Below.trans ?_ (hb3.mono ?_); rotate_left; (focus (first | omega | (simp; omega) | (simp; done)))) | (with_reducible refine Below.trans ?_ (hb2.mono ?_); rotate_left; (focus (first | omega | (simp; omega) | (simp; done)))) | (with_reducible refine Below.trans ?_ (hb1.mono ?_); rotate_left; (focus (first | omega | (simp; omega) | (simp; done))))))) (first | (go_at_call 42; refine (HP.out _).mono ?_; rintro e w1 ⟨rfl, hb1⟩; have hz1 := hb1.size; (try simp at hz1); (first | (refine ltk (w.heap.size) (w1.heap.size) ?_ ?_; (focus omega); intro f10) | skip); (first | (refine ltk (w.heap.size + 1) (w1.heap.size) ?_ ?_; (focus omega); intro f11) | skip); (refine olds_k (w.heap.size + 2) hb1 ?_ ?_; (focus (first | omega | (simp; omega) | (simp; done))); intro hc1 hf1)) | (go_at_call 91; refine (HK.out _).mono ?_; rintro e w2 ⟨rfl, hb2⟩; have hz2 := hb2.size; (try simp at hz2); (first | (refine ltk (w.heap.size) (w2.heap.size) ?_ ?_; (focus omega); intro f20) | skip); (first | (refine ltk (w.heap.size + 1) (w2.heap.size) ?_ ?_; (focus omega); intro f21) | skip); (refine olds_k (w.heap.size + 2) hb2 ?_ ?_; (focus (first | omega | (simp; omega) | (simp; done))); intro hc2 hf2)) | (go_at_call 94; refine (HM.out _).mono ?_; rintro e w3 ⟨rfl, hb3⟩; have hz3 := hb3.size; (try simp at hz3); (first | (refine ltk (w.heap.size) (w3.heap.size) ?_ ?_; (focus omega); intro f30) | skip); (first | (refine ltk (w.heap.size + 1) (w3.heap.size) ?_ ?_; (focus omega); intro f31) | skip); (refine olds_k (w.heap.size + 2) hb3 ?_ ?_; (focus (first | omega | (simp; omega) | (simp; done))); intro hc3 hf3)))
  all_goals
    go_wp2_with fail
    go_ret
    refine ⟨rfl, ?_⟩
    repeat (first | with_reducible exact Below.refl _ _ | (with_reducible refine Below.drew ?_) | (with_reducible refine Below.alloc ?_ ?_ _; rotate_left; (focus (first | omega | (simp; omega) | (simp; done)))) | (with_reducible refine Below.setCell ?_ ?_ _; rotate_left; (focus (first | omega | (simp; omega) | (simp; done)))) | (with_reducible refine Below.trans ?_ (hb3.mono ?_); rotate_left; (focus (first | omega | (simp; omega) | (simp; done)))) | (with_reducible refine Below.trans ?_ (hb2.mono ?_); rotate_left; (focus (first | omega | (simp; omega) | (simp; done)))) | (with_reducible refine Below.trans ?_ (hb1.mono ?_); rotate_left; (focus (first | omega | (simp; omega) | (simp; done)))))

end Go.Proofs.YtdbcdichmmcnbaaGreat
