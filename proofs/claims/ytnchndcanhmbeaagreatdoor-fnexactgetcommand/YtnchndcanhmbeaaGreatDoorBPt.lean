/-
  Both PrefixText, by one plain twin: the address's text, a stroke and the digits of the bits; nothing old in memory turns.
-/
import Derived.Test.YtnchndcanhmbeaaGreatDoorDSSix
import Derived.Test.YtnchndcanhmbeaaGreatDoorDEq
import Derived.Test.YtnchndcanhmbeaaGreatDoorBIPok
import Derived.Deep.RegionHeld3
import Derived.Deep.RegionWith
import Derived.Deep.DeepCutAuto
namespace Go.Proofs.YtnchndcanhmbeaaGreatDoor
open Go.RowKit

theorem txt4_len (L : Int) : (txt4 L).length ≤ 100 := by
  have h1 := decs_len (L / 16777216 % 256); have h2 := decs_len (L / 65536 % 256); have h3 := decs_len (L / 256 % 256); have h4 := decs_len (L % 256)
  simp [txt4]; omega
theorem txt8_len (g : Nat → Int) : (txt8 g).length ≤ 100 := by
  have bd := lrow_bd g 8
  unfold txt8
  split
  · exact Nat.le_trans (join_len g 0 8 (by omega)) (by omega)
  · have h1 := join_len g 0 (lrow g 8).1 (by omega)
    have h2 := join_len g (lrow g 8).2.1 (8 - (lrow g 8).2.1) (by omega)
    simp only [List.length_append, List.length_cons, List.length_nil]
    omega

/-- The digits that the library writes of a number below 256, and what it leaves. -/
theorem itoaP (z : Int) (h0 : 0 ≤ z) (h1 : z < 256) (w : World) (ht : Tabs w) :
    Calls Tryz.prog 88 #[.int .i64 z] w fun e w' => e = .returned (.string ⟨(decs z).toArray⟩) ∧ Below w.heap.size w w' := by
  refine (Tryz.strconv_Itoa z (by omega) (by omega) w ht.pow).mono ?_
  rintro e w' ⟨rfl, k, os, rfl⟩
  rw [itoa_decs z h0 h1]
  exact ⟨rfl, below_grow w k os⟩
set_option maxHeartbeats 1000000 in
theorem iPText_no (s : Bool) (H L : BitVec 64) (b : Int) (hp : pokB s H L b = false) (w : World) :
    Calls Tryz.prog 84 #[.agg #[.bool s, .int .i64 H.toInt, .int .i64 L.toInt, .int .i64 b]] w fun e w' => e = .returned (.string ⟨#[]⟩) ∧ Below w.heap.size w w' := by
  have HP : Hid (∀ w, _) := iPrefixOk_any s H L b
  rw [hp] at HP
  clear hp
  go_enter Tryz.func84, Tryz.ntmps84
  go_wp2_with fail
  refine (HP.out _).mono ?_
  rintro e w1 ⟨rfl, hb1⟩
  have hz1 := hb1.size
  try simp at hz1
  have f10 : w.heap.size < w1.heap.size := by omega
  refine olds_k (w.heap.size + 1) hb1 ?_ ?_
  · first | omega | (simp; omega) | (simp; done)
  intro hc1 hf1
  go_wp2_with fail
  go_ret
  refine ⟨rfl, ?_⟩
  repeat (first | with_reducible exact Below.refl _ _ | (with_reducible refine Below.drew ?_) | (with_reducible refine Below.alloc ?_ ?_ _; rotate_left; (focus (first | omega | (simp; omega) | (simp; done)))) | (with_reducible refine Below.setCell ?_ ?_ _; rotate_left; (focus (first | omega | (simp; omega) | (simp; done)))) | (with_reducible refine Below.trans ?_ (hb1.mono ?_); rotate_left; (focus (first | omega | (simp; omega) | (simp; done)))))

set_option maxHeartbeats 1000000 in
theorem iPText_yes (s : Bool) (H L : BitVec 64) (b : Int) (T D : List UInt8) (hb0 : 0 ≤ b) (hb1 : b ≤ 128) (hT : T.length ≤ 100) (hD : D.length ≤ 3) (hd : D = decs b) (ht : (∀ w : World, Tabs w → Calls Tryz.prog 87 #[.agg #[.bool s, .int .i64 H.toInt, .int .i64 L.toInt]] w fun e w' => e = .returned (.string ⟨T.toArray⟩) ∧ Below w.heap.size w w')) (hp : pokB s H L b = true) (w : World) (hw : Tabs w) :
    Calls Tryz.prog 84 #[.agg #[.bool s, .int .i64 H.toInt, .int .i64 L.toInt, .int .i64 b]] w fun e w' => e = .returned (.string ⟨(T ++ [47] ++ D).toArray⟩) ∧ Below w.heap.size w w' := by
  have hf : ∀ w : World, Tabs w → Calls Tryz.prog 88 #[.int .i64 b] w fun e w' => e = .returned (.string ⟨D.toArray⟩) ∧ Below w.heap.size w w' := fun w h => by rw [hd]; exact itoaP b hb0 (by omega) w h
  have HF : Hid (∀ w : World, _) := hf
  have HT : Hid (∀ w : World, _) := ht
  have HW : Hid (Tabs w) := hw
  clear hd ht hb1 hb0 hf hw
  have HP : Hid (∀ w, _) := iPrefixOk_any s H L b
  rw [hp] at HP
  clear hp
  go_enter Tryz.func84, Tryz.ntmps84
  go_wp2_with fail
  refine (HP.out _).mono ?_
  rintro e w1 ⟨rfl, hb1⟩
  have hz1 := hb1.size
  try simp at hz1
  have f10 : w.heap.size < w1.heap.size := by omega
  refine olds_k (w.heap.size + 1) hb1 ?_ ?_
  · first | omega | (simp; omega) | (simp; done)
  intro hc1 hf1
  go_wp2_with fail
  go_region_with (first | (go_at_call 87; refine (HT.out _ ?_).mono ?_; (focus (refine HW.out.below ?_; repeat (first | with_reducible exact Below.refl _ _ | (with_reducible refine Below.drew ?_) | (with_reducible refine Below.alloc ?_ ?_ _; rotate_left; (focus (first | omega | (simp; omega) | (simp; done)))) | (with_reducible refine Below.setCell ?_ ?_ _; rotate_left; (focus (first | omega | (simp; omega) | (simp; done)))) | (with_reducible refine Below.trans ?_ (hb1.mono ?_); rotate_left; (focus (first | omega | (simp; omega) | (simp; done))))))); rintro e w2 ⟨rfl, hb2⟩; have hz2 := hb2.size; (try simp at hz2); (first | (refine ltk (w.heap.size) (w2.heap.size) ?_ ?_; (focus omega); intro f20) | skip); (refine olds_k (w.heap.size + 1) hb2 ?_ ?_; (focus (first | omega | (simp; omega) | (simp; done))); intro hc2 hf2)) | (go_at_call 88; refine (HF.out _ ?_).mono ?_; (focus (refine HW.out.below ?_; repeat (first | with_reducible exact Below.refl _ _ | (with_reducible refine Below.drew ?_) | (with_reducible refine Below.alloc ?_ ?_ _; rotate_left; (focus (first | omega | (simp; omega) | (simp; done)))) | (with_reducible refine Below.setCell ?_ ?_ _; rotate_left; (focus (first | omega | (simp; omega) | (simp; done)))) | (with_reducible refine Below.trans ?_ (hb2.mono ?_); rotate_left; (focus (first | omega | (simp; omega) | (simp; done)))) | (with_reducible refine Below.trans ?_ (hb1.mono ?_); rotate_left; (focus (first | omega | (simp; omega) | (simp; done))))))); rintro e w3 ⟨rfl, hb3⟩; have hz3 := hb3.size; (try simp at hz3); (first | (refine ltk (w.heap.size) (w3.heap.size) ?_ ?_; (focus omega); intro f30) | skip); (refine olds_k (w.heap.size + 1) hb3 ?_ ?_; (focus (first | omega | (simp; omega) | (simp; done))); intro hc3 hf3)))
  all_goals
    go_wp2_with fail
    go_ret
    refine ⟨ret_ba (ba3 T [47] D), ?_⟩
    repeat (first | with_reducible exact Below.refl _ _ | (with_reducible refine Below.drew ?_) | (with_reducible refine Below.alloc ?_ ?_ _; rotate_left; (focus (first | omega | (simp; omega) | (simp; done)))) | (with_reducible refine Below.setCell ?_ ?_ _; rotate_left; (focus (first | omega | (simp; omega) | (simp; done)))) | (with_reducible refine Below.trans ?_ (hb3.mono ?_); rotate_left; (focus (first | omega | (simp; omega) | (simp; done)))) | (with_reducible refine Below.trans ?_ (hb2.mono ?_); rotate_left; (focus (first | omega | (simp; omega) | (simp; done)))) | (with_reducible refine Below.trans ?_ (hb1.mono ?_); rotate_left; (focus (first | omega | (simp; omega) | (simp; done)))))

end Go.Proofs.YtnchndcanhmbeaaGreatDoor
