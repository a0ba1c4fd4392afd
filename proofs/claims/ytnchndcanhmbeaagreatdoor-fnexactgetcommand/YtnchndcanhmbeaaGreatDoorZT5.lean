/-
  For every row of bytes the two GetCommand answer alike and leave the bytes as they were, so the exact law of GetCommand returns true; the card ties the library's tables to the program's text; no other condition.
-/
import Derived.Test.YtnchndcanhmbeaaGreatDoorZT1
import Derived.Test.YtnchndcanhmbeaaGreatDoorZT2
import Derived.Test.YtnchndcanhmbeaaGreatDoorZT3
import Derived.Test.YtnchndcanhmbeaaGreatDoorZT4
import Derived.Test.YtnchndcanhmbeaaGreatDoorGEq
import Derived.Test.YtnchndcanhmbeaaGreatDoorCByt
import Derived.Test.YtnchndcanhmbeaaGreatDoorAOk
import Derived.Deep.RegionWith
import Derived.Deep.DeepCutAuto
import Derived.ProofKit
import Derived.Lib.SmallJoins
import Derived.Carry
import Derived.Deep.Slices
import Derived.ChangeMaps5
import Derived.Test.YtnchndcanhmbeaaGreatDoorCards
import Derived.Test.YtnchndcanhmbeaaGreatDoorTie
import Derived.OpenShut
import Derived.Deep.DeepHandedRow
import Derived.Lib.LaidTab
import Derived.LaidSub
namespace Go.Proofs.YtnchndcanhmbeaaGreatDoor
open Go.RowKit

set_option maxRecDepth 10000 in
set_option maxHeartbeats 2000000 in
theorem ro_no (k : Int) (s q n : Int) (aS : Bool) (aH aL : BitVec 64) (ab b : Int) (hS : Bool) (hH hL : Int) (o : ByteArray) (t sp : Int) (y : World) (e1 : (k == 1) = false) (e2 : (k == 2) = false) (e3 : (k == 3) = false) (e4 : (k == 4) = false) (e5 : (k == 5) = false) (e6 : (k == 6) = false) (e7 : (k == 7) = false) (e8 : (k == 8) = false) (e9 : (k == 9) = false) (e10 : (k == 10) = false) (e11 : (k == 11) = false) :
    Calls Tryz.prog 47 #[.agg #[.int .i64 k, .int .i64 s, .int .i64 q, .int .i64 n, .bool aS, .int .i64 aH.toInt, .int .i64 aL.toInt, .int .i64 ab, .int .i64 b, .bool hS, .int .i64 hH, .int .i64 hL, .string o, .int .i64 t, .int .i64 sp]] y fun e w' => e = .returned (.tuple #[.nilIface, .bool false]) ∧ Below y.heap.size y w' := by
  have HO := hidP (fun x h => oo_no y.heap.size k s q n aS aH.toInt aL.toInt ab b hS hH hL o t sp x h e1 e2 e3 e4 e5 e6 e7 e8 e9 e10 e11)
  clear e1 e2 e3 e4 e5 e6 e7 e8 e9 e10 e11
  go_enter Tryz.func47, Tryz.ntmps47
  go_wp2_with fail
  have HX0 := hidP (Bx.new y [.int .i64 k, .int .i64 s, .int .i64 q, .int .i64 n, .bool aS, .int .i64 aH.toInt, .int .i64 aL.toInt, .int .i64 ab, .int .i64 b, .bool hS, .int .i64 hH, .int .i64 hL, .string o, .int .i64 t, .int .i64 sp] 35)
  have HU := hidP ((Below.refl y.heap.size y).alloc (Nat.le_refl _) (.cells #[.int .i64 k, .int .i64 s, .int .i64 q, .int .i64 n, .bool aS, .int .i64 aH.toInt, .int .i64 aL.toInt, .int .i64 ab, .int .i64 b, .bool hS, .int .i64 hH, .int .i64 hL, .string o, .int .i64 t, .int .i64 sp] 35))
  refine (HO.out _ HX0.out).mono ?_
  rintro e w1 ⟨rfl, _, hk⟩
  have HB1 := hidP (HU.out.trans hk.low)
  clear hk
  go_wp2_with fail
  go_ret2
  exact ⟨rfl, HB1.out⟩

set_option maxHeartbeats 1000000 in
theorem iCmd_of (k : Int) (s q n : Int) (aS : Bool) (aH aL : BitVec 64) (ab b : Int) (hS : Bool) (hH hL : Int) (o : ByteArray) (t sp : Int) (r : Bool) (hr : ∀ w : World, Tabs w → Calls Tryz.prog 47 #[.agg #[.int .i64 k, .int .i64 s, .int .i64 q, .int .i64 n, .bool aS, .int .i64 aH.toInt, .int .i64 aL.toInt, .int .i64 ab, .int .i64 b, .bool hS, .int .i64 hH, .int .i64 hL, .string o, .int .i64 t, .int .i64 sp]] w fun e w' => (∃ v, e = .returned (.tuple #[v, .bool r])) ∧ Below w.heap.size w w') (y : World) (ht : Tabs y) :
    Calls Tryz.prog 24 #[.agg #[.int .i64 k, .int .i64 s, .int .i64 q, .int .i64 n, .bool aS, .int .i64 aH.toInt, .int .i64 aL.toInt, .int .i64 ab, .int .i64 b, .bool hS, .int .i64 hH, .int .i64 hL, .string o, .int .i64 t, .int .i64 sp]] y fun e w' => e = .returned (.bool r) ∧ Below y.heap.size y w' := by
  have HR := hidP hr
  have HT := hidP ht
  have ab := (Below.refl y.heap.size y).alloc (Nat.le_refl _) (.cells #[.int .i64 k, .int .i64 s, .int .i64 q, .int .i64 n, .bool aS, .int .i64 aH.toInt, .int .i64 aL.toInt, .int .i64 ab, .int .i64 b, .bool hS, .int .i64 hH, .int .i64 hL, .string o, .int .i64 t, .int .i64 sp] 35)
  clear hr ht
  go_enter Tryz.func24, Tryz.ntmps24
  go_wp2_with fail
  refine (HR.out _ (HT.out.below ab)).mono ?_
  rintro e w1 ⟨⟨v, rfl⟩, hb⟩
  have HB := hidP (ab.trans (hb.mono (by simp)))
  clear hb
  go_wp2_with fail
  go_ret
  exact ⟨rfl, HB.out⟩

/-- The program's text of an address, of 100 bytes at most. -/
theorem text_I (s : Bool) (h l : Int) (wh : -9223372036854775808 ≤ h ∧ h ≤ 9223372036854775807) (wl : -9223372036854775808 ≤ l ∧ l ≤ 9223372036854775807) :
    ∃ T : List UInt8, T.length ≤ 100 ∧ True ∧ (∀ w : World, Tabs w → Calls Tryz.prog 87 #[.agg #[.bool s, .int .i64 h, .int .i64 l]] w fun e w' => e = .returned (.string ⟨T.toArray⟩) ∧ Below w.heap.size w w') := by
  obtain ⟨S, H, L, hz, _, _, hS⟩ := Nrm_ex s h l wh wl
  cases S
  · obtain ⟨_, h0, h1⟩ := hS rfl
    exact ⟨txt4 L, txt4_len L, trivial, fun w ht => iText_four s h l H L hz h0 h1 w ht⟩
  · exact ⟨txt8 (grp H L), txt8_len _, trivial, fun w ht => iText_six s h l H L hz w ht⟩

theorem ptxt (s : Bool) (H L : BitVec 64) (b : Int) : ∃ T : List UInt8, T.length ≤ 200 ∧ ∀ w : World, Tabs w → Calls Tryz.prog 84 #[.agg #[.bool s, .int .i64 H.toInt, .int .i64 L.toInt, .int .i64 b]] w fun e w' => e = .returned (.string ⟨T.toArray⟩) ∧ Below w.heap.size w w' := by
  cases hp : pokB s H L b
  · exact ⟨[], by simp, fun w _ => iPText_no s H L b hp w⟩
  · have bd : ∀ x : BitVec 64, -9223372036854775808 ≤ x.toInt ∧ x.toInt ≤ 9223372036854775807 := fun x => by
      have h1 := BitVec.toInt_lt (x := x); have h2 := BitVec.le_toInt (x := x); simp at h1 h2; omega
    obtain ⟨T, hT, _, hi⟩ := text_I s H.toInt L.toInt (bd H) (bd L)
    have hb := (pokB_parts hp).2.1
    have hw : (wd s : Int) ≤ 128 := by cases s <;> decide
    have hd := decs_len b
    exact ⟨T ++ [47] ++ decs b, by simp; omega, fun w ht => iPText_yes s H L b T _ hb.1 (by omega) hT hd rfl hi hp w ht⟩
theorem atxt (s : Bool) (H L : Int) (bH : I6 H) (bL : I6 L) : ∃ T : List UInt8, T.length ≤ 200 ∧ ∀ w : World, Tabs w → Calls Tryz.prog 87 #[.agg #[.bool s, .int .i64 H, .int .i64 L]] w fun e w' => e = .returned (.string ⟨T.toArray⟩) ∧ Below w.heap.size w w' := by
  obtain ⟨T, hT, _, hi⟩ := text_I s H L bH bL
  exact ⟨T, by omega, hi⟩

theorem cmd_both (k : Int) (s q n : Int) (aS : Bool) (aH aL : BitVec 64) (ab b : Int) (hS : Bool) (hH hL : Int) (o : ByteArray) (t sp : Int) (HI : CmI s q n b t sp o) (bH : I6 hH) (bL : I6 hL) :
    ∃ r : Bool, (∀ w : World, Calls Tryz.prog 16 #[.agg #[.int .i64 k, .int .i64 s, .int .i64 q, .int .i64 n, .bool aS, .int .i64 aH.toInt, .int .i64 aL.toInt, .int .i64 ab, .int .i64 b, .bool hS, .int .i64 hH, .int .i64 hL, .string o, .int .i64 t, .int .i64 sp]] w fun e w' => e = .returned (.bool r) ∧ Below w.heap.size w w') ∧
      (∀ w : World, Tabs w → Calls Tryz.prog 24 #[.agg #[.int .i64 k, .int .i64 s, .int .i64 q, .int .i64 n, .bool aS, .int .i64 aH.toInt, .int .i64 aL.toInt, .int .i64 ab, .int .i64 b, .bool hS, .int .i64 hH, .int .i64 hL, .string o, .int .i64 t, .int .i64 sp]] w fun e w' => e = .returned (.bool r) ∧ Below w.heap.size w w') := by
  obtain ⟨TA, hA⟩ := ptxt aS aH aL ab
  obtain ⟨TH, hH'⟩ := atxt hS hH hL bH bL
  by_cases e1 : k = 1
  · subst e1
    refine ⟨spC ⟨#[]⟩ 1 s q n aS aH aL ab b hS hH hL o t sp, fun w => sCmd ⟨#[]⟩ (by decide) 1 s q n aS aH aL ab b hS hH hL o t sp HI.o has_1 w, fun w ht => iCmd_of 1 s q n aS aH aL ab b hS hH hL o t sp _ (fun w h => ?_) w ht⟩
    refine (ro_1 s q n aS aH aL ab b hS hH hL o t sp TA TH HI hA hH' w h).mono ?_
    rintro e w' ⟨⟨h1, rfl⟩ | ⟨h1, rfl⟩, hb⟩
    · rw [← eq_1 s q n aS aH aL ab b hS hH hL o t sp TA TH, h1]; exact ⟨⟨_, rfl⟩, hb⟩
    · rw [← eq_1 s q n aS aH aL ab b hS hH hL o t sp TA TH, h1]; exact ⟨⟨_, rfl⟩, hb⟩
  by_cases e2 : k = 2
  · subst e2
    refine ⟨spC ⟨#[115]⟩ 2 s q n aS aH aL ab b hS hH hL o t sp, fun w => sCmd ⟨#[115]⟩ (by decide) 2 s q n aS aH aL ab b hS hH hL o t sp HI.o has_2 w, fun w ht => iCmd_of 2 s q n aS aH aL ab b hS hH hL o t sp _ (fun w h => ?_) w ht⟩
    refine (ro_2 s q n aS aH aL ab b hS hH hL o t sp TA TH HI hA hH' w h).mono ?_
    rintro e w' ⟨⟨h1, rfl⟩ | ⟨h1, rfl⟩, hb⟩
    · rw [← eq_2 s q n aS aH aL ab b hS hH hL o t sp TA TH, h1]; exact ⟨⟨_, rfl⟩, hb⟩
    · rw [← eq_2 s q n aS aH aL ab b hS hH hL o t sp TA TH, h1]; exact ⟨⟨_, rfl⟩, hb⟩
  by_cases e3 : k = 3
  · subst e3
    refine ⟨spC ⟨#[115, 113, 97, 98]⟩ 3 s q n aS aH aL ab b hS hH hL o t sp, fun w => sCmd ⟨#[115, 113, 97, 98]⟩ (by decide) 3 s q n aS aH aL ab b hS hH hL o t sp HI.o has_3 w, fun w ht => iCmd_of 3 s q n aS aH aL ab b hS hH hL o t sp _ (fun w h => ?_) w ht⟩
    refine (ro_3 s q n aS aH aL ab b hS hH hL o t sp TA TH HI hA hH' w h).mono ?_
    rintro e w' ⟨⟨h1, rfl⟩ | ⟨h1, rfl⟩, hb⟩
    · rw [← eq_3 s q n aS aH aL ab b hS hH hL o t sp TA TH, h1]; exact ⟨⟨_, rfl⟩, hb⟩
    · rw [← eq_3 s q n aS aH aL ab b hS hH hL o t sp TA TH, h1]; exact ⟨⟨_, rfl⟩, hb⟩
  by_cases e4 : k = 4
  · subst e4
    refine ⟨spC ⟨#[115, 113, 97]⟩ 4 s q n aS aH aL ab b hS hH hL o t sp, fun w => sCmd ⟨#[115, 113, 97]⟩ (by decide) 4 s q n aS aH aL ab b hS hH hL o t sp HI.o has_4 w, fun w ht => iCmd_of 4 s q n aS aH aL ab b hS hH hL o t sp _ (fun w h => ?_) w ht⟩
    refine (ro_4 s q n aS aH aL ab b hS hH hL o t sp TA TH HI hA hH' w h).mono ?_
    rintro e w' ⟨⟨h1, rfl⟩ | ⟨h1, rfl⟩, hb⟩
    · rw [← eq_4 s q n aS aH aL ab b hS hH hL o t sp TA TH, h1]; exact ⟨⟨_, rfl⟩, hb⟩
    · rw [← eq_4 s q n aS aH aL ab b hS hH hL o t sp TA TH, h1]; exact ⟨⟨_, rfl⟩, hb⟩
  by_cases e5 : k = 5
  · subst e5
    refine ⟨spC ⟨#[115, 113, 97, 111]⟩ 5 s q n aS aH aL ab b hS hH hL o t sp, fun w => sCmd ⟨#[115, 113, 97, 111]⟩ (by decide) 5 s q n aS aH aL ab b hS hH hL o t sp HI.o has_5 w, fun w ht => iCmd_of 5 s q n aS aH aL ab b hS hH hL o t sp _ (fun w h => ?_) w ht⟩
    refine (ro_5 s q n aS aH aL ab b hS hH hL o t sp TA TH HI hA hH' w h).mono ?_
    rintro e w' ⟨⟨h1, rfl⟩ | ⟨h1, rfl⟩, hb⟩
    · rw [← eq_5 s q n aS aH aL ab b hS hH hL o t sp TA TH, h1]; exact ⟨⟨_, rfl⟩, hb⟩
    · rw [← eq_5 s q n aS aH aL ab b hS hH hL o t sp TA TH, h1]; exact ⟨⟨_, rfl⟩, hb⟩
  by_cases e6 : k = 6
  · subst e6
    refine ⟨spC ⟨#[115, 113, 97, 111]⟩ 6 s q n aS aH aL ab b hS hH hL o t sp, fun w => sCmd ⟨#[115, 113, 97, 111]⟩ (by decide) 6 s q n aS aH aL ab b hS hH hL o t sp HI.o has_6 w, fun w ht => iCmd_of 6 s q n aS aH aL ab b hS hH hL o t sp _ (fun w h => ?_) w ht⟩
    refine (ro_6 s q n aS aH aL ab b hS hH hL o t sp TA TH HI hA hH' w h).mono ?_
    rintro e w' ⟨⟨h1, rfl⟩ | ⟨h1, rfl⟩, hb⟩
    · rw [← eq_6 s q n aS aH aL ab b hS hH hL o t sp TA TH, h1]; exact ⟨⟨_, rfl⟩, hb⟩
    · rw [← eq_6 s q n aS aH aL ab b hS hH hL o t sp TA TH, h1]; exact ⟨⟨_, rfl⟩, hb⟩
  by_cases e7 : k = 7
  · subst e7
    refine ⟨spC ⟨#[115, 113, 97, 111, 112]⟩ 7 s q n aS aH aL ab b hS hH hL o t sp, fun w => sCmd ⟨#[115, 113, 97, 111, 112]⟩ (by decide) 7 s q n aS aH aL ab b hS hH hL o t sp HI.o has_7 w, fun w ht => iCmd_of 7 s q n aS aH aL ab b hS hH hL o t sp _ (fun w h => ?_) w ht⟩
    refine (ro_7 s q n aS aH aL ab b hS hH hL o t sp TA TH HI hA hH' w h).mono ?_
    rintro e w' ⟨⟨h1, rfl⟩ | ⟨h1, rfl⟩, hb⟩
    · rw [← eq_7 s q n aS aH aL ab b hS hH hL o t sp TA TH, h1]; exact ⟨⟨_, rfl⟩, hb⟩
    · rw [← eq_7 s q n aS aH aL ab b hS hH hL o t sp TA TH, h1]; exact ⟨⟨_, rfl⟩, hb⟩
  by_cases e8 : k = 8
  · subst e8
    refine ⟨spC ⟨#[115, 113, 104, 111, 112]⟩ 8 s q n aS aH aL ab b hS hH hL o t sp, fun w => sCmd ⟨#[115, 113, 104, 111, 112]⟩ (by decide) 8 s q n aS aH aL ab b hS hH hL o t sp HI.o has_8 w, fun w ht => iCmd_of 8 s q n aS aH aL ab b hS hH hL o t sp _ (fun w h => ?_) w ht⟩
    refine (ro_8 s q n aS aH aL ab b hS hH hL o t sp TA TH HI hA hH' w h).mono ?_
    rintro e w' ⟨⟨h1, rfl⟩ | ⟨h1, rfl⟩, hb⟩
    · rw [← eq_8 s q n aS aH aL ab b hS hH hL o t sp TA TH, h1]; exact ⟨⟨_, rfl⟩, hb⟩
    · rw [← eq_8 s q n aS aH aL ab b hS hH hL o t sp TA TH, h1]; exact ⟨⟨_, rfl⟩, hb⟩
  by_cases e9 : k = 9
  · subst e9
    refine ⟨spC ⟨#[115, 113, 104, 116, 112]⟩ 9 s q n aS aH aL ab b hS hH hL o t sp, fun w => sCmd ⟨#[115, 113, 104, 116, 112]⟩ (by decide) 9 s q n aS aH aL ab b hS hH hL o t sp HI.o has_9 w, fun w ht => iCmd_of 9 s q n aS aH aL ab b hS hH hL o t sp _ (fun w h => ?_) w ht⟩
    refine (ro_9 s q n aS aH aL ab b hS hH hL o t sp TA TH HI hA hH' w h).mono ?_
    rintro e w' ⟨⟨h1, rfl⟩ | ⟨h1, rfl⟩, hb⟩
    · rw [← eq_9 s q n aS aH aL ab b hS hH hL o t sp TA TH, h1]; exact ⟨⟨_, rfl⟩, hb⟩
    · rw [← eq_9 s q n aS aH aL ab b hS hH hL o t sp TA TH, h1]; exact ⟨⟨_, rfl⟩, hb⟩
  by_cases e10 : k = 10
  · subst e10
    refine ⟨spC ⟨#[115, 113, 104, 116]⟩ 10 s q n aS aH aL ab b hS hH hL o t sp, fun w => sCmd ⟨#[115, 113, 104, 116]⟩ (by decide) 10 s q n aS aH aL ab b hS hH hL o t sp HI.o has_10 w, fun w ht => iCmd_of 10 s q n aS aH aL ab b hS hH hL o t sp _ (fun w h => ?_) w ht⟩
    refine (ro_10 s q n aS aH aL ab b hS hH hL o t sp TA TH HI hA hH' w h).mono ?_
    rintro e w' ⟨⟨h1, rfl⟩ | ⟨h1, rfl⟩, hb⟩
    · rw [← eq_10 s q n aS aH aL ab b hS hH hL o t sp TA TH, h1]; exact ⟨⟨_, rfl⟩, hb⟩
    · rw [← eq_10 s q n aS aH aL ab b hS hH hL o t sp TA TH, h1]; exact ⟨⟨_, rfl⟩, hb⟩
  by_cases e11 : k = 11
  · subst e11
    refine ⟨spC ⟨#[]⟩ 11 s q n aS aH aL ab b hS hH hL o t sp, fun w => sCmd ⟨#[]⟩ (by decide) 11 s q n aS aH aL ab b hS hH hL o t sp HI.o has_11 w, fun w ht => iCmd_of 11 s q n aS aH aL ab b hS hH hL o t sp _ (fun w h => ?_) w ht⟩
    refine (ro_11 s q n aS aH aL ab b hS hH hL o t sp TA TH HI hA hH' w h).mono ?_
    rintro e w' ⟨⟨h1, rfl⟩ | ⟨h1, rfl⟩, hb⟩
    · rw [← eq_11 s q n aS aH aL ab b hS hH hL o t sp TA TH, h1]; exact ⟨⟨_, rfl⟩, hb⟩
    · rw [← eq_11 s q n aS aH aL ab b hS hH hL o t sp TA TH, h1]; exact ⟨⟨_, rfl⟩, hb⟩
  have hz : spC ⟨#[]⟩ k s q n aS aH aL ab b hS hH hL o t sp = false := by
    unfold spC
    have : rB 1 k 11 = false := by unfold rB; rw [Bool.and_eq_false_iff, decide_eq_false_iff_not, decide_eq_false_iff_not]; omega
    rw [this, Bool.false_and]
  refine ⟨false, fun w => ?_, fun w ht => iCmd_of k s q n aS aH aL ab b hS hH hL o t sp _ (fun w h => ?_) w ht⟩
  · have := sCmd ⟨#[]⟩ (by decide) k s q n aS aH aL ab b hS hH hL o t sp HI.o (fun w => has_no k w (by simp [e2]) (by simp [e3]) (by simp [e4]) (by simp [e5]) (by simp [e6]) (by simp [e7]) (by simp [e8]) (by simp [e9]) (by simp [e10])) w
    rw [hz] at this
    exact this
  · refine (ro_no k s q n aS aH aL ab b hS hH hL o t sp w (by simp [e1]) (by simp [e2]) (by simp [e3]) (by simp [e4]) (by simp [e5]) (by simp [e6]) (by simp [e7]) (by simp [e8]) (by simp [e9]) (by simp [e10]) (by simp [e11])).mono ?_
    rintro e w' ⟨rfl, hb⟩
    exact ⟨⟨_, rfl⟩, hb⟩

end Go.Proofs.YtnchndcanhmbeaaGreatDoor
namespace Go.Proofs.YtnchndcanhmbeaaGreatDoor
open Go.RowKit

theorem cmdZ_len (k s q n : Int) (aS : Bool) (aH aL : BitVec 64) (ab b : Int) (hS : Bool) (hH hL : Int) (o : ByteArray) (t sp : Int) (ho : o.size ≤ 1048576) : ([numsB [k, s, q, n], adrB aS aH.toInt aL.toInt, numsB [ab, b], adrB hS hH hL, txtB o, numsB [t, sp]].flatten).length ≤ 2000000 := by
  have h1 := numsB_len [k, s, q, n]
  have h2 := adrB_len aS aH.toInt aL.toInt
  have h3 := numsB_len [ab, b]
  have h4 := adrB_len hS hH hL
  have h5 : (txtB o).length ≤ 10 + o.size := by unfold txtB; rw [List.length_append, bys_len]; have := numB_ten _ (u64_lt (o.size : Int)); omega
  have h6 := numsB_len [t, sp]
  simp only [List.flatten_cons, List.flatten_nil, List.length_append, List.length_nil, List.length_cons] at *
  omega
set_option maxRecDepth 10000 in
set_option maxHeartbeats 2000000 in
theorem sPut_no (k s q n : Int) (aS : Bool) (aH aL : BitVec 64) (ab b : Int) (hS : Bool) (hH hL : Int) (o : ByteArray) (t sp : Int) (Zf : List Int) (hZf : [] = Zf) (w : World) (hr : ∀ W : World, Below w.heap.size w W → Calls Tryz.prog 16 #[.agg #[.int .i64 k, .int .i64 s, .int .i64 q, .int .i64 n, .bool aS, .int .i64 aH.toInt, .int .i64 aL.toInt, .int .i64 ab, .int .i64 b, .bool hS, .int .i64 hH, .int .i64 hL, .string o, .int .i64 t, .int .i64 sp]] W fun e w' => e = .returned (.bool false) ∧ Below W.heap.size W w') :
    Calls Tryz.prog 6 #[.agg #[.int .i64 k, .int .i64 s, .int .i64 q, .int .i64 n, .bool aS, .int .i64 aH.toInt, .int .i64 aL.toInt, .int .i64 ab, .int .i64 b, .bool hS, .int .i64 hH, .int .i64 hL, .string o, .int .i64 t, .int .i64 sp]] w fun e w' => ∃ g c, e = .returned (.slice (some ⟨g, 0, none⟩) Zf.length c) ∧ Own w' w.heap.size (.slice (some ⟨g, 0, none⟩) Zf.length c) Zf ∧ Below w.heap.size w w' := by
  subst hZf
  have HR := hidP hr
  clear hr
  go_enter Tryz.func6, Tryz.ntmps6
  go_wp2_with fail
  refine (HR.out _ (alloc_below w _)).mono ?_
  rintro e W ⟨rfl, hb⟩
  have HB := hidP ((alloc_below w _).trans (hb.mono (alloc_below w _).size))
  have hz := HB.out.size
  clear hb
  go_wp2_with fail
  go_ret
  exact ⟨W.heap.size, 0, rfl, own_nil W _ hz, HB.out.alloc hz _⟩

set_option maxRecDepth 10000 in
set_option maxHeartbeats 2000000 in
theorem iPut_no (k s q n : Int) (aS : Bool) (aH aL : BitVec 64) (ab b : Int) (hS : Bool) (hH hL : Int) (o : ByteArray) (t sp : Int) (Zf : List Int) (hZf : [] = Zf) (w : World) (hr : ∀ W : World, Below w.heap.size w W → Calls Tryz.prog 24 #[.agg #[.int .i64 k, .int .i64 s, .int .i64 q, .int .i64 n, .bool aS, .int .i64 aH.toInt, .int .i64 aL.toInt, .int .i64 ab, .int .i64 b, .bool hS, .int .i64 hH, .int .i64 hL, .string o, .int .i64 t, .int .i64 sp]] W fun e w' => e = .returned (.bool false) ∧ Below W.heap.size W w') :
    Calls Tryz.prog 8 #[.agg #[.int .i64 k, .int .i64 s, .int .i64 q, .int .i64 n, .bool aS, .int .i64 aH.toInt, .int .i64 aL.toInt, .int .i64 ab, .int .i64 b, .bool hS, .int .i64 hH, .int .i64 hL, .string o, .int .i64 t, .int .i64 sp]] w fun e w' => ∃ g c, e = .returned (.slice (some ⟨g, 0, none⟩) Zf.length c) ∧ Own w' w.heap.size (.slice (some ⟨g, 0, none⟩) Zf.length c) Zf ∧ Below w.heap.size w w' := by
  subst hZf
  have HR := hidP hr
  clear hr
  go_enter Tryz.func8, Tryz.ntmps8
  go_wp2_with fail
  refine (HR.out _ (alloc_below w _)).mono ?_
  rintro e W ⟨rfl, hb⟩
  have HB := hidP ((alloc_below w _).trans (hb.mono (alloc_below w _).size))
  have hz := HB.out.size
  clear hb
  go_wp2_with fail
  go_ret
  exact ⟨W.heap.size, 0, rfl, own_nil W _ hz, HB.out.alloc hz _⟩

end Go.Proofs.YtnchndcanhmbeaaGreatDoor
namespace Go.Proofs.YtnchndcanhmbeaaGreatDoor
open Go.RowKit

theorem chain_good {zs : List Int} {k : Int} {s : Int} {q : Int} {n : Int} {aS : Bool} {aH : Int} {aL : Int} {ab : Int} {b : Int} {hS : Bool} {hH : Int} {hL : Int} {o : ByteArray} {t : Int} {sp : Int} {p1 p2 p3 p4 p5 p6 p7 p8 p9 p10 p11 : Nat} {b1 b2 b3 b4 b5 b6 b7 b8 b9 b10 b11 : Bool}
    (h1 : RdE (rNum zs 0) false k p1 b1) (h2 : RdE (rNum zs p1) b1 s p2 b2) (h3 : RdE (rNum zs p2) b2 q p3 b3) (h4 : RdE (rNum zs p3) b3 n p4 b4) (h5 : RdE (rAdr zs p4) b4 (aS, aH, aL) p5 b5) (h6 : RdE (rNum zs p5) b5 ab p6 b6) (h7 : RdE (rNum zs p6) b6 b p7 b7) (h8 : RdE (rAdr zs p7) b7 (hS, hH, hL) p8 b8) (h9 : RdE (rTxt zs p8) b8 o p9 b9) (h10 : RdE (rNum zs p9) b9 t p10 b10) (h11 : RdE (rNum zs p10) b10 sp p11 b11) :
    (b11 = false → rdC zs = some (⟨k, s, q, n, aS, aH, aL, ab, b, hS, hH, hL, o, t, sp⟩, p11)) ∧ (b11 = true → rdC zs = none) := by
  constructor
  · intro e
    obtain ⟨e10, g11⟩ := h11.1 e
    obtain ⟨e9, g10⟩ := h10.1 e10
    obtain ⟨e8, g9⟩ := h9.1 e9
    obtain ⟨e7, g8⟩ := h8.1 e8
    obtain ⟨e6, g7⟩ := h7.1 e7
    obtain ⟨e5, g6⟩ := h6.1 e6
    obtain ⟨e4, g5⟩ := h5.1 e5
    obtain ⟨e3, g4⟩ := h4.1 e4
    obtain ⟨e2, g3⟩ := h3.1 e3
    obtain ⟨e1, g2⟩ := h2.1 e2
    obtain ⟨e0, g1⟩ := h1.1 e1
    simp only [rdC, g1, g2, g3, g4, g5, g6, g7, g8, g9, g10, g11]
  · intro e
    cases hb1 : b1
    rotate_left
    · rcases h1.2 hb1 with h | h
      · cases h
      · simp only [rdC, h]
    obtain ⟨_, g1⟩ := h1.1 hb1
    cases hb2 : b2
    rotate_left
    · rcases h2.2 hb2 with h | h
      · rw [hb1] at h; cases h
      · simp only [rdC, g1, h]
    obtain ⟨_, g2⟩ := h2.1 hb2
    cases hb3 : b3
    rotate_left
    · rcases h3.2 hb3 with h | h
      · rw [hb2] at h; cases h
      · simp only [rdC, g1, g2, h]
    obtain ⟨_, g3⟩ := h3.1 hb3
    cases hb4 : b4
    rotate_left
    · rcases h4.2 hb4 with h | h
      · rw [hb3] at h; cases h
      · simp only [rdC, g1, g2, g3, h]
    obtain ⟨_, g4⟩ := h4.1 hb4
    cases hb5 : b5
    rotate_left
    · rcases h5.2 hb5 with h | h
      · rw [hb4] at h; cases h
      · simp only [rdC, g1, g2, g3, g4, h]
    obtain ⟨_, g5⟩ := h5.1 hb5
    cases hb6 : b6
    rotate_left
    · rcases h6.2 hb6 with h | h
      · rw [hb5] at h; cases h
      · simp only [rdC, g1, g2, g3, g4, g5, h]
    obtain ⟨_, g6⟩ := h6.1 hb6
    cases hb7 : b7
    rotate_left
    · rcases h7.2 hb7 with h | h
      · rw [hb6] at h; cases h
      · simp only [rdC, g1, g2, g3, g4, g5, g6, h]
    obtain ⟨_, g7⟩ := h7.1 hb7
    cases hb8 : b8
    rotate_left
    · rcases h8.2 hb8 with h | h
      · rw [hb7] at h; cases h
      · simp only [rdC, g1, g2, g3, g4, g5, g6, g7, h]
    obtain ⟨_, g8⟩ := h8.1 hb8
    cases hb9 : b9
    rotate_left
    · rcases h9.2 hb9 with h | h
      · rw [hb8] at h; cases h
      · simp only [rdC, g1, g2, g3, g4, g5, g6, g7, g8, h]
    obtain ⟨_, g9⟩ := h9.1 hb9
    cases hb10 : b10
    rotate_left
    · rcases h10.2 hb10 with h | h
      · rw [hb9] at h; cases h
      · simp only [rdC, g1, g2, g3, g4, g5, g6, g7, g8, g9, h]
    obtain ⟨_, g10⟩ := h10.1 hb10
    cases hb11 : b11
    rotate_left
    · rcases h11.2 hb11 with h | h
      · rw [hb10] at h; cases h
      · simp only [rdC, g1, g2, g3, g4, g5, g6, g7, g8, g9, g10, h]
    obtain ⟨_, g11⟩ := h11.1 hb11
    rw [hb11] at e; cases e

set_option maxRecDepth 10000 in
theorem sget_res {W : World} {ts : Array Value} {R : Nat} {ok : Bool} {v0 v1 v2 v3 v4 v5 v6 v7 v8 v9 v10 v11 v12 v13 v14 : Value} (h2 : ts[2]?.getD undef = .pointer (some ⟨R, 0, none⟩)) (h3 : ts[3]?.getD undef = .bool ok) (h : Bx W R [v0, v1, v2, v3, v4, v5, v6, v7, v8, v9, v10, v11, v12, v13, v14]) : (results Tryz.f12 ts).run Tryz.prog W = .ok (.tuple #[.agg #[v0, v1, v2, v3, v4, v5, v6, v7, v8, v9, v10, v11, v12, v13, v14], .bool ok]) W := by
  have a0 := h.cel 0 _ rfl
  have a1 := h.cel 1 _ rfl
  have a2 := h.cel 2 _ rfl
  have a3 := h.cel 3 _ rfl
  have a4 := h.cel 4 _ rfl
  have a5 := h.cel 5 _ rfl
  have a6 := h.cel 6 _ rfl
  have a7 := h.cel 7 _ rfl
  have a8 := h.cel 8 _ rfl
  have a9 := h.cel 9 _ rfl
  have a10 := h.cel 10 _ rfl
  have a11 := h.cel 11 _ rfl
  have a12 := h.cel 12 _ rfl
  have a13 := h.cel 13 _ rfl
  have a14 := h.cel 14 _ rfl
  simp [results, Tryz.results12, go_sem, h2, h3, a0, a1, a2, a3, a4, a5, a6, a7, a8, a9, a10, a11, a12, a13, a14]

set_option maxRecDepth 20000 in
set_option maxHeartbeats 16000000 in
theorem sGet_of (Q : Ending → World → Prop) (a : Option Addr) (cap : Nat) (zs : List Int) (w : World) (hB : Byt w a zs) (ho : Oct zs) (hl : zs.length ≤ 2000000) (hnc : zs.length ≤ cap) (hcap : cap ≤ 1000000000)
    (hbad : ∀ w', rdC zs = none → Below w.heap.size w w' → Q (.returned (.tuple #[.agg #[.int .i64 0, .int .i64 0, .int .i64 0, .int .i64 0, .bool false, .int .i64 0, .int .i64 0, .int .i64 0, .int .i64 0, .bool false, .int .i64 0, .int .i64 0, .string ⟨#[]⟩, .int .i64 0, .int .i64 0], .bool false])) w')
    (hgood : ∀ (c : Cmd) (j : Nat), rdC zs = some (c, j) → ∃ (r : Bool) (Zf : List Int), Zf.length ≤ 2000000 ∧
      (∀ W : World, Calls Tryz.prog 16 #[.agg #[.int .i64 c.k, .int .i64 c.s, .int .i64 c.q, .int .i64 c.n, .bool c.aS, .int .i64 c.aH, .int .i64 c.aL, .int .i64 c.ab, .int .i64 c.b, .bool c.hS, .int .i64 c.hH, .int .i64 c.hL, .string c.o, .int .i64 c.t, .int .i64 c.sp]] W fun e w' => e = .returned (.bool r) ∧ Below W.heap.size W w') ∧
      (∀ W : World, Calls Tryz.prog 6 #[.agg #[.int .i64 c.k, .int .i64 c.s, .int .i64 c.q, .int .i64 c.n, .bool c.aS, .int .i64 c.aH, .int .i64 c.aL, .int .i64 c.ab, .int .i64 c.b, .bool c.hS, .int .i64 c.hH, .int .i64 c.hL, .string c.o, .int .i64 c.t, .int .i64 c.sp]] W fun e w' => ∃ g cp, e = .returned (.slice (some ⟨g, 0, none⟩) Zf.length cp) ∧ Own w' W.heap.size (.slice (some ⟨g, 0, none⟩) Zf.length cp) Zf ∧ Below W.heap.size W w') ∧
      (∀ w', (r && eqL Zf zs) = true → Below w.heap.size w w' → Q (.returned (.tuple #[.agg #[.int .i64 c.k, .int .i64 c.s, .int .i64 c.q, .int .i64 c.n, .bool c.aS, .int .i64 c.aH, .int .i64 c.aL, .int .i64 c.ab, .int .i64 c.b, .bool c.hS, .int .i64 c.hH, .int .i64 c.hL, .string c.o, .int .i64 c.t, .int .i64 c.sp], .bool true])) w') ∧
      (∀ w', (r && eqL Zf zs) = false → Below w.heap.size w w' → Q (.returned (.tuple #[.agg #[.int .i64 0, .int .i64 0, .int .i64 0, .int .i64 0, .bool false, .int .i64 0, .int .i64 0, .int .i64 0, .int .i64 0, .bool false, .int .i64 0, .int .i64 0, .string ⟨#[]⟩, .int .i64 0, .int .i64 0], .bool false])) w')) :
    Calls Tryz.prog 12 #[.slice a zs.length cap] w Q := by
  have HGd := hidP hgood
  have HBd := hidP hbad
  have HBy := hidP hB
  have z1 : (w.alloc (.cells #[.int .i64 0, .int .i64 0, .int .i64 0, .int .i64 0, .bool false, .int .i64 0, .int .i64 0, .int .i64 0, .int .i64 0, .bool false, .int .i64 0, .int .i64 0, .string ⟨#[]⟩, .int .i64 0, .int .i64 0] 35)).heap.size = w.heap.size + 1 := by simp
  have HA := hidP (Bx.alloc (Bx.new w [.int .i64 0, .int .i64 0, .int .i64 0, .int .i64 0, .bool false, .int .i64 0, .int .i64 0, .int .i64 0, .int .i64 0, .bool false, .int .i64 0, .int .i64 0, .string ⟨#[]⟩, .int .i64 0, .int .i64 0] 35) (.cells #[.slice a zs.length cap, .int .i64 0, .bool false] 58))
  have hx := Bx.new (w.alloc (.cells #[.int .i64 0, .int .i64 0, .int .i64 0, .int .i64 0, .bool false, .int .i64 0, .int .i64 0, .int .i64 0, .int .i64 0, .bool false, .int .i64 0, .int .i64 0, .string ⟨#[]⟩, .int .i64 0, .int .i64 0] 35)) [.slice a zs.length cap, .int .i64 (0 : Nat), .bool false] 58
  rw [z1] at hx
  have HX := hidP hx
  have HL := hidP (((Below.refl w.heap.size w).alloc (Nat.le_refl _) (.cells #[.int .i64 0, .int .i64 0, .int .i64 0, .int .i64 0, .bool false, .int .i64 0, .int .i64 0, .int .i64 0, .int .i64 0, .bool false, .int .i64 0, .int .i64 0, .string ⟨#[]⟩, .int .i64 0, .int .i64 0] 35)).alloc (by simp) (.cells #[.slice a zs.length cap, .int .i64 0, .bool false] 58))
  clear hgood hbad hB z1 hx
  go_enter Tryz.func12, Tryz.ntmps12
  go_wp2_with fail
  try simp only [Array.size_toArray, List.length_cons, List.length_nil] 
  generalize (w.alloc (.cells #[.int .i64 0, .int .i64 0, .int .i64 0, .int .i64 0, .bool false, .int .i64 0, .int .i64 0, .int .i64 0, .int .i64 0, .bool false, .int .i64 0, .int .i64 0, .string ⟨#[]⟩, .int .i64 0, .int .i64 0] 35)).alloc (.cells #[.slice a zs.length cap, .int .i64 0, .bool false] 58) = X0 at *
  refine (l8Get_any (w.heap.size + 1) a cap zs (0) false _ HX.out (HBy.out.later HL.out) ho hl (Nat.zero_le _) hnc hcap).mono ?_
  rintro e W0 ⟨k, p1, b1, rfl, hx, hp1, hr, hg⟩
  have HR1 := hidP hr
  clear hr
  have HL1 := hidP (HL.out.grown hg HL.out.size (fun k hk => by cases hk; omega))
  have HA1 := hidP (HA.out.grownR hg (by omega))
  have HX1 := hidP hx
  clear HL HA HX hx hg
  have HL := hidP HL1.out
  have HA := hidP HA1.out
  have HX := hidP HX1.out
  clear HL1 HA1 HX1
  go_wp2_with fail
  refine (l8Get_any (w.heap.size + 1) a cap zs (p1) b1 _ HX.out (HBy.out.later HL.out) ho hl hp1 hnc hcap).mono ?_
  rintro e W1 ⟨s, p2, b2, rfl, hx, hp2, hr, hg⟩
  have HR2 := hidP hr
  clear hr
  have HL1 := hidP (HL.out.grown hg HL.out.size (fun k hk => by cases hk; omega))
  have HA1 := hidP (HA.out.grownR hg (by omega))
  have HX1 := hidP hx
  clear HL HA HX hx hg
  have HL := hidP HL1.out
  have HA := hidP HA1.out
  have HX := hidP HX1.out
  clear HL1 HA1 HX1
  go_wp2_with fail
  refine (l8Get_any (w.heap.size + 1) a cap zs (p2) b2 _ HX.out (HBy.out.later HL.out) ho hl hp2 hnc hcap).mono ?_
  rintro e W2 ⟨q, p3, b3, rfl, hx, hp3, hr, hg⟩
  have HR3 := hidP hr
  clear hr
  have HL1 := hidP (HL.out.grown hg HL.out.size (fun k hk => by cases hk; omega))
  have HA1 := hidP (HA.out.grownR hg (by omega))
  have HX1 := hidP hx
  clear HL HA HX hx hg
  have HL := hidP HL1.out
  have HA := hidP HA1.out
  have HX := hidP HX1.out
  clear HL1 HA1 HX1
  go_wp2_with fail
  refine (l8Get_any (w.heap.size + 1) a cap zs (p3) b3 _ HX.out (HBy.out.later HL.out) ho hl hp3 hnc hcap).mono ?_
  rintro e W3 ⟨n, p4, b4, rfl, hx, hp4, hr, hg⟩
  have HR4 := hidP hr
  clear hr
  have HL1 := hidP (HL.out.grown hg HL.out.size (fun k hk => by cases hk; omega))
  have HA1 := hidP (HA.out.grownR hg (by omega))
  have HX1 := hidP hx
  clear HL HA HX hx hg
  have hC : w.heap.size + 1 < W3.heap.size := HX1.out.lt
  generalize hCe : W3.heap.size = C at *
  have HQ : Hid (Bx (W3.alloc (.cells #[.int .i64 k, .int .i64 s, .int .i64 q, .int .i64 n, .bool false, .int .i64 0, .int .i64 0, .int .i64 0, .int .i64 0, .bool false, .int .i64 0, .int .i64 0, .string ⟨#[]⟩, .int .i64 0, .int .i64 0] 35)) C [.int .i64 k, .int .i64 s, .int .i64 q, .int .i64 n, .bool false, .int .i64 0, .int .i64 0, .int .i64 0, .int .i64 0, .bool false, .int .i64 0, .int .i64 0, .string ⟨#[]⟩, .int .i64 0, .int .i64 0]) := hidP (by have h := Bx.new W3 [.int .i64 k, .int .i64 s, .int .i64 q, .int .i64 n, .bool false, .int .i64 0, .int .i64 0, .int .i64 0, .int .i64 0, .bool false, .int .i64 0, .int .i64 0, .string ⟨#[]⟩, .int .i64 0, .int .i64 0] 35; rw [hCe] at h; exact h)
  have HL := hidP (HL1.out.alloc (by omega) (.cells #[.int .i64 k, .int .i64 s, .int .i64 q, .int .i64 n, .bool false, .int .i64 0, .int .i64 0, .int .i64 0, .int .i64 0, .bool false, .int .i64 0, .int .i64 0, .string ⟨#[]⟩, .int .i64 0, .int .i64 0] 35))
  have HA := hidP (HA1.out.alloc (.cells #[.int .i64 k, .int .i64 s, .int .i64 q, .int .i64 n, .bool false, .int .i64 0, .int .i64 0, .int .i64 0, .int .i64 0, .bool false, .int .i64 0, .int .i64 0, .string ⟨#[]⟩, .int .i64 0, .int .i64 0] 35))
  have HX := hidP (HX1.out.alloc (.cells #[.int .i64 k, .int .i64 s, .int .i64 q, .int .i64 n, .bool false, .int .i64 0, .int .i64 0, .int .i64 0, .int .i64 0, .bool false, .int .i64 0, .int .i64 0, .string ⟨#[]⟩, .int .i64 0, .int .i64 0] 35))
  clear HL1 HA1 HX1
  go_wp2_with fail
  try rw [hCe]
  generalize W3.alloc (.cells #[.int .i64 k, .int .i64 s, .int .i64 q, .int .i64 n, .bool false, .int .i64 0, .int .i64 0, .int .i64 0, .int .i64 0, .bool false, .int .i64 0, .int .i64 0, .string ⟨#[]⟩, .int .i64 0, .int .i64 0] 35) = X3 at *
  clear hCe
  refine (l8GetPrefix_any (w.heap.size + 1) a cap zs (p4) b4 _ HX.out (fun y hg => HBy.out.later (HL.out.grown hg HL.out.size (fun k hk => by cases hk; omega))) ho hl hp4 hnc hcap).mono ?_
  rintro e W4 ⟨aS, aH, aL, ab, p5, p6, b5, b6, rfl, hx, hp6, hr1, hr2, hg⟩
  have HR5 := hidP hr1
  have HR6 := hidP hr2
  clear hr1 hr2
  have HL1 := hidP (HL.out.grown hg HL.out.size (fun k hk => by cases hk; omega))
  have HA1 := hidP (HA.out.grownR hg (by omega))
  have HQ1 := hidP (HQ.out.grownR hg (by omega))
  have HX1 := hidP hx
  clear HL HA HX hx hg HQ
  have c4 := HQ1.out.cel 4 _ rfl
  have f4 := HQ1.out.frz 4
  have c5 := HQ1.out.cel 5 _ rfl
  have f5 := HQ1.out.frz 5
  have c6 := HQ1.out.cel 6 _ rfl
  have f6 := HQ1.out.frz 6
  have c7 := HQ1.out.cel 7 _ rfl
  have f7 := HQ1.out.frz 7
  have HQ : Hid (Bx ((((W4.setCell ⟨C, 4, none⟩ (.bool aS)).setCell ⟨C, 5, none⟩ (.int .i64 aH)).setCell ⟨C, 6, none⟩ (.int .i64 aL)).setCell ⟨C, 7, none⟩ (.int .i64 ab)) C [.int .i64 k, .int .i64 s, .int .i64 q, .int .i64 n, .bool aS, .int .i64 aH, .int .i64 aL, .int .i64 ab, .int .i64 0, .bool false, .int .i64 0, .int .i64 0, .string ⟨#[]⟩, .int .i64 0, .int .i64 0]) := hidP ((((HQ1.out.set 4 _ (.bool aS) rfl).set 5 _ (.int .i64 aH) rfl).set 6 _ (.int .i64 aL) rfl).set 7 _ (.int .i64 ab) rfl)
  have HL := hidP ((((HL1.out.setCell (p := ⟨C, 4, none⟩) (by show w.heap.size ≤ C; omega) (.bool aS)).setCell (p := ⟨C, 5, none⟩) (by show w.heap.size ≤ C; omega) (.int .i64 aH)).setCell (p := ⟨C, 6, none⟩) (by show w.heap.size ≤ C; omega) (.int .i64 aL)).setCell (p := ⟨C, 7, none⟩) (by show w.heap.size ≤ C; omega) (.int .i64 ab))
  have HA := hidP ((((HA1.out.far (b := C) (i := 4) (by omega) (.bool aS)).far (b := C) (i := 5) (by omega) (.int .i64 aH)).far (b := C) (i := 6) (by omega) (.int .i64 aL)).far (b := C) (i := 7) (by omega) (.int .i64 ab))
  have HX := hidP ((((HX1.out.far (b := C) (i := 4) (by omega) (.bool aS)).far (b := C) (i := 5) (by omega) (.int .i64 aH)).far (b := C) (i := 6) (by omega) (.int .i64 aL)).far (b := C) (i := 7) (by omega) (.int .i64 ab))
  clear HQ1 HL1 HA1 HX1
  go_wp2_with fail
  clear c4 f4 c5 f5 c6 f6 c7 f7
  generalize (((W4.setCell ⟨C, 4, none⟩ (.bool aS)).setCell ⟨C, 5, none⟩ (.int .i64 aH)).setCell ⟨C, 6, none⟩ (.int .i64 aL)).setCell ⟨C, 7, none⟩ (.int .i64 ab) = X4 at *
  refine (l8Get_any (w.heap.size + 1) a cap zs (p6) b6 _ HX.out (HBy.out.later HL.out) ho hl hp6 hnc hcap).mono ?_
  rintro e W5 ⟨b, p7, b7, rfl, hx, hp7, hr, hg⟩
  have HR7 := hidP hr
  clear hr
  have HL1 := hidP (HL.out.grown hg HL.out.size (fun k hk => by cases hk; omega))
  have HA1 := hidP (HA.out.grownR hg (by omega))
  have HQ1 := hidP (HQ.out.grownR hg (by omega))
  have HX1 := hidP hx
  clear HL HA HX hx hg HQ
  have c8 := HQ1.out.cel 8 _ rfl
  have f8 := HQ1.out.frz 8
  have HQ : Hid (Bx (W5.setCell ⟨C, 8, none⟩ (.int .i64 b)) C [.int .i64 k, .int .i64 s, .int .i64 q, .int .i64 n, .bool aS, .int .i64 aH, .int .i64 aL, .int .i64 ab, .int .i64 b, .bool false, .int .i64 0, .int .i64 0, .string ⟨#[]⟩, .int .i64 0, .int .i64 0]) := hidP (HQ1.out.set 8 _ (.int .i64 b) rfl)
  have HL := hidP (HL1.out.setCell (p := ⟨C, 8, none⟩) (by show w.heap.size ≤ C; omega) (.int .i64 b))
  have HA := hidP (HA1.out.far (b := C) (i := 8) (by omega) (.int .i64 b))
  have HX := hidP (HX1.out.far (b := C) (i := 8) (by omega) (.int .i64 b))
  clear HQ1 HL1 HA1 HX1
  go_wp2_with fail
  clear c8 f8
  generalize W5.setCell ⟨C, 8, none⟩ (.int .i64 b) = X5 at *
  refine (l8Addr_any (w.heap.size + 1) a cap zs (p7) b7 _ HX.out (HBy.out.later HL.out) ho hl hp7).mono ?_
  rintro e W6 ⟨hS, hH, hL, p8, b8, rfl, hx, hp8, hr, hg⟩
  have HR8 := hidP hr
  clear hr
  have HL1 := hidP (HL.out.grown hg HL.out.size (fun k hk => by cases hk; omega))
  have HA1 := hidP (HA.out.grownR hg (by omega))
  have HQ1 := hidP (HQ.out.grownR hg (by omega))
  have HX1 := hidP hx
  clear HL HA HX hx hg HQ
  have c9 := HQ1.out.cel 9 _ rfl
  have f9 := HQ1.out.frz 9
  have c10 := HQ1.out.cel 10 _ rfl
  have f10 := HQ1.out.frz 10
  have c11 := HQ1.out.cel 11 _ rfl
  have f11 := HQ1.out.frz 11
  have HQ : Hid (Bx (((W6.setCell ⟨C, 9, none⟩ (.bool hS)).setCell ⟨C, 10, none⟩ (.int .i64 hH)).setCell ⟨C, 11, none⟩ (.int .i64 hL)) C [.int .i64 k, .int .i64 s, .int .i64 q, .int .i64 n, .bool aS, .int .i64 aH, .int .i64 aL, .int .i64 ab, .int .i64 b, .bool hS, .int .i64 hH, .int .i64 hL, .string ⟨#[]⟩, .int .i64 0, .int .i64 0]) := hidP (((HQ1.out.set 9 _ (.bool hS) rfl).set 10 _ (.int .i64 hH) rfl).set 11 _ (.int .i64 hL) rfl)
  have HL := hidP (((HL1.out.setCell (p := ⟨C, 9, none⟩) (by show w.heap.size ≤ C; omega) (.bool hS)).setCell (p := ⟨C, 10, none⟩) (by show w.heap.size ≤ C; omega) (.int .i64 hH)).setCell (p := ⟨C, 11, none⟩) (by show w.heap.size ≤ C; omega) (.int .i64 hL))
  have HA := hidP (((HA1.out.far (b := C) (i := 9) (by omega) (.bool hS)).far (b := C) (i := 10) (by omega) (.int .i64 hH)).far (b := C) (i := 11) (by omega) (.int .i64 hL))
  have HX := hidP (((HX1.out.far (b := C) (i := 9) (by omega) (.bool hS)).far (b := C) (i := 10) (by omega) (.int .i64 hH)).far (b := C) (i := 11) (by omega) (.int .i64 hL))
  clear HQ1 HL1 HA1 HX1
  go_wp2_with fail
  clear c9 f9 c10 f10 c11 f11
  generalize ((W6.setCell ⟨C, 9, none⟩ (.bool hS)).setCell ⟨C, 10, none⟩ (.int .i64 hH)).setCell ⟨C, 11, none⟩ (.int .i64 hL) = X6 at *
  refine (l8Text_any (w.heap.size + 1) a cap zs (p8) b8 _ HX.out (HBy.out.later HL.out) ho hp8 hnc hcap).mono ?_
  rintro e W7 ⟨o, p9, b9, rfl, hx, hp9, hr, hg⟩
  have HR9 := hidP hr
  clear hr
  have HL1 := hidP (HL.out.grown hg HL.out.size (fun k hk => by cases hk; omega))
  have HA1 := hidP (HA.out.grownR hg (by omega))
  have HQ1 := hidP (HQ.out.grownR hg (by omega))
  have HX1 := hidP hx
  clear HL HA HX hx hg HQ
  have c12 := HQ1.out.cel 12 _ rfl
  have f12 := HQ1.out.frz 12
  have HQ : Hid (Bx (W7.setCell ⟨C, 12, none⟩ (.string o)) C [.int .i64 k, .int .i64 s, .int .i64 q, .int .i64 n, .bool aS, .int .i64 aH, .int .i64 aL, .int .i64 ab, .int .i64 b, .bool hS, .int .i64 hH, .int .i64 hL, .string o, .int .i64 0, .int .i64 0]) := hidP (HQ1.out.set 12 _ (.string o) rfl)
  have HL := hidP (HL1.out.setCell (p := ⟨C, 12, none⟩) (by show w.heap.size ≤ C; omega) (.string o))
  have HA := hidP (HA1.out.far (b := C) (i := 12) (by omega) (.string o))
  have HX := hidP (HX1.out.far (b := C) (i := 12) (by omega) (.string o))
  clear HQ1 HL1 HA1 HX1
  go_wp2_with fail
  clear c12 f12
  generalize W7.setCell ⟨C, 12, none⟩ (.string o) = X7 at *
  refine (l8Get_any (w.heap.size + 1) a cap zs (p9) b9 _ HX.out (HBy.out.later HL.out) ho hl hp9 hnc hcap).mono ?_
  rintro e W8 ⟨t, p10, b10, rfl, hx, hp10, hr, hg⟩
  have HR10 := hidP hr
  clear hr
  have HL1 := hidP (HL.out.grown hg HL.out.size (fun k hk => by cases hk; omega))
  have HA1 := hidP (HA.out.grownR hg (by omega))
  have HQ1 := hidP (HQ.out.grownR hg (by omega))
  have HX1 := hidP hx
  clear HL HA HX hx hg HQ
  have c13 := HQ1.out.cel 13 _ rfl
  have f13 := HQ1.out.frz 13
  have HQ : Hid (Bx (W8.setCell ⟨C, 13, none⟩ (.int .i64 t)) C [.int .i64 k, .int .i64 s, .int .i64 q, .int .i64 n, .bool aS, .int .i64 aH, .int .i64 aL, .int .i64 ab, .int .i64 b, .bool hS, .int .i64 hH, .int .i64 hL, .string o, .int .i64 t, .int .i64 0]) := hidP (HQ1.out.set 13 _ (.int .i64 t) rfl)
  have HL := hidP (HL1.out.setCell (p := ⟨C, 13, none⟩) (by show w.heap.size ≤ C; omega) (.int .i64 t))
  have HA := hidP (HA1.out.far (b := C) (i := 13) (by omega) (.int .i64 t))
  have HX := hidP (HX1.out.far (b := C) (i := 13) (by omega) (.int .i64 t))
  clear HQ1 HL1 HA1 HX1
  go_wp2_with fail
  clear c13 f13
  generalize W8.setCell ⟨C, 13, none⟩ (.int .i64 t) = X8 at *
  refine (l8Get_any (w.heap.size + 1) a cap zs (p10) b10 _ HX.out (HBy.out.later HL.out) ho hl hp10 hnc hcap).mono ?_
  rintro e W9 ⟨sp, p11, b11, rfl, hx, hp11, hr, hg⟩
  have HR11 := hidP hr
  clear hr
  have HL1 := hidP (HL.out.grown hg HL.out.size (fun k hk => by cases hk; omega))
  have HA1 := hidP (HA.out.grownR hg (by omega))
  have HQ1 := hidP (HQ.out.grownR hg (by omega))
  have HX1 := hidP hx
  clear HL HA HX hx hg HQ
  have c14 := HQ1.out.cel 14 _ rfl
  have f14 := HQ1.out.frz 14
  have HQ : Hid (Bx (W9.setCell ⟨C, 14, none⟩ (.int .i64 sp)) C [.int .i64 k, .int .i64 s, .int .i64 q, .int .i64 n, .bool aS, .int .i64 aH, .int .i64 aL, .int .i64 ab, .int .i64 b, .bool hS, .int .i64 hH, .int .i64 hL, .string o, .int .i64 t, .int .i64 sp]) := hidP (HQ1.out.set 14 _ (.int .i64 sp) rfl)
  have HL := hidP (HL1.out.setCell (p := ⟨C, 14, none⟩) (by show w.heap.size ≤ C; omega) (.int .i64 sp))
  have HA := hidP (HA1.out.far (b := C) (i := 14) (by omega) (.int .i64 sp))
  have HX := hidP (HX1.out.far (b := C) (i := 14) (by omega) (.int .i64 sp))
  have x2 := HX1.out.cel 2 _ rfl
  have n1 : ¬ C = w.heap.size := by omega
  have n2 : ¬ w.heap.size = C := by omega
  have n3 : ¬ C = w.heap.size + 1 := by omega
  have n4 : ¬ w.heap.size + 1 = C := by omega
  clear HX1 HL1
  have HCh := hidP (chain_good HR1.out HR2.out HR3.out HR4.out HR5.out HR6.out HR7.out HR8.out HR9.out HR10.out HR11.out)
  clear HR1 HR2 HR3 HR4 HR5 HR6 HR7 HR8 HR9 HR10 HR11 hp1 hp2 hp3 hp4 hp6 hp7 hp8 hp9 hp10
  cases b11
  rotate_left
  · have EN := hidP (HCh.out.2 rfl)
    clear HCh HGd HQ
    have a0 := HA1.out.cel 0 _ rfl
    have g0 := HA1.out.frz 0
    have a1 := HA1.out.cel 1 _ rfl
    have g1 := HA1.out.frz 1
    have a2 := HA1.out.cel 2 _ rfl
    have g2 := HA1.out.frz 2
    have a3 := HA1.out.cel 3 _ rfl
    have g3 := HA1.out.frz 3
    have a4 := HA1.out.cel 4 _ rfl
    have g4 := HA1.out.frz 4
    have a5 := HA1.out.cel 5 _ rfl
    have g5 := HA1.out.frz 5
    have a6 := HA1.out.cel 6 _ rfl
    have g6 := HA1.out.frz 6
    have a7 := HA1.out.cel 7 _ rfl
    have g7 := HA1.out.frz 7
    have a8 := HA1.out.cel 8 _ rfl
    have g8 := HA1.out.frz 8
    have a9 := HA1.out.cel 9 _ rfl
    have g9 := HA1.out.frz 9
    have a10 := HA1.out.cel 10 _ rfl
    have g10 := HA1.out.frz 10
    have a11 := HA1.out.cel 11 _ rfl
    have g11 := HA1.out.frz 11
    have a12 := HA1.out.cel 12 _ rfl
    have g12 := HA1.out.frz 12
    have a13 := HA1.out.cel 13 _ rfl
    have g13 := HA1.out.frz 13
    have a14 := HA1.out.cel 14 _ rfl
    have g14 := HA1.out.frz 14
    have HBf := hidP (((((((((((((((HA.out.set 0 _ (.int .i64 0) rfl).set 1 _ (.int .i64 0) rfl).set 2 _ (.int .i64 0) rfl).set 3 _ (.int .i64 0) rfl).set 4 _ (.bool false) rfl).set 5 _ (.int .i64 0) rfl).set 6 _ (.int .i64 0) rfl).set 7 _ (.int .i64 0) rfl).set 8 _ (.int .i64 0) rfl).set 9 _ (.bool false) rfl).set 10 _ (.int .i64 0) rfl).set 11 _ (.int .i64 0) rfl).set 12 _ (.string ⟨#[]⟩) rfl).set 13 _ (.int .i64 0) rfl).set 14 _ (.int .i64 0) rfl)
    have HLf := hidP (((((((((((((((HL.out.setCell (p := ⟨w.heap.size, 0, none⟩) (Nat.le_refl _) (.int .i64 0)).setCell (p := ⟨w.heap.size, 1, none⟩) (Nat.le_refl _) (.int .i64 0)).setCell (p := ⟨w.heap.size, 2, none⟩) (Nat.le_refl _) (.int .i64 0)).setCell (p := ⟨w.heap.size, 3, none⟩) (Nat.le_refl _) (.int .i64 0)).setCell (p := ⟨w.heap.size, 4, none⟩) (Nat.le_refl _) (.bool false)).setCell (p := ⟨w.heap.size, 5, none⟩) (Nat.le_refl _) (.int .i64 0)).setCell (p := ⟨w.heap.size, 6, none⟩) (Nat.le_refl _) (.int .i64 0)).setCell (p := ⟨w.heap.size, 7, none⟩) (Nat.le_refl _) (.int .i64 0)).setCell (p := ⟨w.heap.size, 8, none⟩) (Nat.le_refl _) (.int .i64 0)).setCell (p := ⟨w.heap.size, 9, none⟩) (Nat.le_refl _) (.bool false)).setCell (p := ⟨w.heap.size, 10, none⟩) (Nat.le_refl _) (.int .i64 0)).setCell (p := ⟨w.heap.size, 11, none⟩) (Nat.le_refl _) (.int .i64 0)).setCell (p := ⟨w.heap.size, 12, none⟩) (Nat.le_refl _) (.string ⟨#[]⟩)).setCell (p := ⟨w.heap.size, 13, none⟩) (Nat.le_refl _) (.int .i64 0)).setCell (p := ⟨w.heap.size, 14, none⟩) (Nat.le_refl _) (.int .i64 0))
    clear HL HA HA1 HQ1 HX
    go_wp2_with fail
    exact bodyPost_ret (sget_res (by rfl) (by rfl) HBf.out) (by rfl) (HBd.out _ EN.out HLf.out)
  obtain ⟨r, Zf, hZl, hok, hput, hyes, hno⟩ := HGd.out _ _ (HCh.out.1 rfl)
  try dsimp only at hok hput hyes hno
  have HOk := hidP hok
  have HPut := hidP hput
  have HY := hidP hyes
  have HN := hidP hno
  clear hok hput hyes hno HGd HBd HCh
  have q0 := HQ1.out.cel 0 _ rfl
  have q1 := HQ1.out.cel 1 _ rfl
  have q2 := HQ1.out.cel 2 _ rfl
  have q3 := HQ1.out.cel 3 _ rfl
  have q4 := HQ1.out.cel 4 _ rfl
  have q5 := HQ1.out.cel 5 _ rfl
  have q6 := HQ1.out.cel 6 _ rfl
  have q7 := HQ1.out.cel 7 _ rfl
  have q8 := HQ1.out.cel 8 _ rfl
  have q9 := HQ1.out.cel 9 _ rfl
  have q10 := HQ1.out.cel 10 _ rfl
  have q11 := HQ1.out.cel 11 _ rfl
  have q12 := HQ1.out.cel 12 _ rfl
  have q13 := HQ1.out.cel 13 _ rfl
  clear HQ1 HA1
  go_wp2_with fail
  clear q0 q1 q2 q3 q4 q5 q6 q7 q8 q9 q10 q11 q12 q13 c14 f14 x2 HX
  generalize W9.setCell ⟨C, 14, none⟩ (.int .i64 sp) = X9 at *
  refine (HOk.out _).mono ?_
  rintro e V ⟨rfl, hb⟩
  have HA2 := hidP (HA.out.later hb)
  have HQ2 := hidP (HQ.out.later hb)
  have HL2 := hidP (HL.out.trans (hb.mono HL.out.size))
  clear hb HA HQ HL
  cases r
  · have HNf := hidP (fun w' hb => HN.out w' rfl hb)
    have a0 := HA2.out.cel 0 _ rfl
    have g0 := HA2.out.frz 0
    have a1 := HA2.out.cel 1 _ rfl
    have g1 := HA2.out.frz 1
    have a2 := HA2.out.cel 2 _ rfl
    have g2 := HA2.out.frz 2
    have a3 := HA2.out.cel 3 _ rfl
    have g3 := HA2.out.frz 3
    have a4 := HA2.out.cel 4 _ rfl
    have g4 := HA2.out.frz 4
    have a5 := HA2.out.cel 5 _ rfl
    have g5 := HA2.out.frz 5
    have a6 := HA2.out.cel 6 _ rfl
    have g6 := HA2.out.frz 6
    have a7 := HA2.out.cel 7 _ rfl
    have g7 := HA2.out.frz 7
    have a8 := HA2.out.cel 8 _ rfl
    have g8 := HA2.out.frz 8
    have a9 := HA2.out.cel 9 _ rfl
    have g9 := HA2.out.frz 9
    have a10 := HA2.out.cel 10 _ rfl
    have g10 := HA2.out.frz 10
    have a11 := HA2.out.cel 11 _ rfl
    have g11 := HA2.out.frz 11
    have a12 := HA2.out.cel 12 _ rfl
    have g12 := HA2.out.frz 12
    have a13 := HA2.out.cel 13 _ rfl
    have g13 := HA2.out.frz 13
    have a14 := HA2.out.cel 14 _ rfl
    have g14 := HA2.out.frz 14
    have HBf := hidP (((((((((((((((HA2.out.set 0 _ (.int .i64 0) rfl).set 1 _ (.int .i64 0) rfl).set 2 _ (.int .i64 0) rfl).set 3 _ (.int .i64 0) rfl).set 4 _ (.bool false) rfl).set 5 _ (.int .i64 0) rfl).set 6 _ (.int .i64 0) rfl).set 7 _ (.int .i64 0) rfl).set 8 _ (.int .i64 0) rfl).set 9 _ (.bool false) rfl).set 10 _ (.int .i64 0) rfl).set 11 _ (.int .i64 0) rfl).set 12 _ (.string ⟨#[]⟩) rfl).set 13 _ (.int .i64 0) rfl).set 14 _ (.int .i64 0) rfl)
    have HLf := hidP (((((((((((((((HL2.out.setCell (p := ⟨w.heap.size, 0, none⟩) (Nat.le_refl _) (.int .i64 0)).setCell (p := ⟨w.heap.size, 1, none⟩) (Nat.le_refl _) (.int .i64 0)).setCell (p := ⟨w.heap.size, 2, none⟩) (Nat.le_refl _) (.int .i64 0)).setCell (p := ⟨w.heap.size, 3, none⟩) (Nat.le_refl _) (.int .i64 0)).setCell (p := ⟨w.heap.size, 4, none⟩) (Nat.le_refl _) (.bool false)).setCell (p := ⟨w.heap.size, 5, none⟩) (Nat.le_refl _) (.int .i64 0)).setCell (p := ⟨w.heap.size, 6, none⟩) (Nat.le_refl _) (.int .i64 0)).setCell (p := ⟨w.heap.size, 7, none⟩) (Nat.le_refl _) (.int .i64 0)).setCell (p := ⟨w.heap.size, 8, none⟩) (Nat.le_refl _) (.int .i64 0)).setCell (p := ⟨w.heap.size, 9, none⟩) (Nat.le_refl _) (.bool false)).setCell (p := ⟨w.heap.size, 10, none⟩) (Nat.le_refl _) (.int .i64 0)).setCell (p := ⟨w.heap.size, 11, none⟩) (Nat.le_refl _) (.int .i64 0)).setCell (p := ⟨w.heap.size, 12, none⟩) (Nat.le_refl _) (.string ⟨#[]⟩)).setCell (p := ⟨w.heap.size, 13, none⟩) (Nat.le_refl _) (.int .i64 0)).setCell (p := ⟨w.heap.size, 14, none⟩) (Nat.le_refl _) (.int .i64 0))
    clear HL2 HA2 HQ2 HPut HY HN HOk
    go_wp2_with fail
    exact bodyPost_ret (sget_res (by rfl) (by rfl) HBf.out) (by rfl) (HNf.out _ HLf.out)
  have q0 := HQ2.out.cel 0 _ rfl
  have q1 := HQ2.out.cel 1 _ rfl
  have q2 := HQ2.out.cel 2 _ rfl
  have q3 := HQ2.out.cel 3 _ rfl
  have q4 := HQ2.out.cel 4 _ rfl
  have q5 := HQ2.out.cel 5 _ rfl
  have q6 := HQ2.out.cel 6 _ rfl
  have q7 := HQ2.out.cel 7 _ rfl
  have q8 := HQ2.out.cel 8 _ rfl
  have q9 := HQ2.out.cel 9 _ rfl
  have q10 := HQ2.out.cel 10 _ rfl
  have q11 := HQ2.out.cel 11 _ rfl
  have q12 := HQ2.out.cel 12 _ rfl
  have q13 := HQ2.out.cel 13 _ rfl
  have q14 := HQ2.out.cel 14 _ rfl
  go_wp2_with fail
  clear q0 q1 q2 q3 q4 q5 q6 q7 q8 q9 q10 q11 q12 q13 q14
  refine (HPut.out _).mono ?_
  rintro e V2 ⟨g, cp, rfl, hown, hb⟩
  have HA3 := hidP (HA2.out.later hb)
  have HQ3 := hidP (HQ2.out.later hb)
  have HL3 := hidP (HL2.out.trans (hb.mono HL2.out.size))
  have HOw := hidP hown.bytA
  clear hb hown HA2 HQ2 HL2
  go_wp2_with fail
  refine (l3Same_any _ _ cp cap Zf zs _ HOw.out (HBy.out.later HL3.out) (by omega) (by omega)).mono ?_
  rintro e V3 ⟨rfl, hb⟩
  have HA4 := hidP (HA3.out.later hb)
  have HQ4 := hidP (HQ3.out.later hb)
  have HL4 := hidP (HL3.out.trans (hb.mono HL3.out.size))
  clear hb HA3 HQ3 HL3 HOw
  cases he : eqL Zf zs
  · have HNf := hidP (fun w' hb => HN.out w' (by rw [he]; rfl) hb)
    clear he
    have a0 := HA4.out.cel 0 _ rfl
    have g0 := HA4.out.frz 0
    have a1 := HA4.out.cel 1 _ rfl
    have g1 := HA4.out.frz 1
    have a2 := HA4.out.cel 2 _ rfl
    have g2 := HA4.out.frz 2
    have a3 := HA4.out.cel 3 _ rfl
    have g3 := HA4.out.frz 3
    have a4 := HA4.out.cel 4 _ rfl
    have g4 := HA4.out.frz 4
    have a5 := HA4.out.cel 5 _ rfl
    have g5 := HA4.out.frz 5
    have a6 := HA4.out.cel 6 _ rfl
    have g6 := HA4.out.frz 6
    have a7 := HA4.out.cel 7 _ rfl
    have g7 := HA4.out.frz 7
    have a8 := HA4.out.cel 8 _ rfl
    have g8 := HA4.out.frz 8
    have a9 := HA4.out.cel 9 _ rfl
    have g9 := HA4.out.frz 9
    have a10 := HA4.out.cel 10 _ rfl
    have g10 := HA4.out.frz 10
    have a11 := HA4.out.cel 11 _ rfl
    have g11 := HA4.out.frz 11
    have a12 := HA4.out.cel 12 _ rfl
    have g12 := HA4.out.frz 12
    have a13 := HA4.out.cel 13 _ rfl
    have g13 := HA4.out.frz 13
    have a14 := HA4.out.cel 14 _ rfl
    have g14 := HA4.out.frz 14
    have HBf := hidP (((((((((((((((HA4.out.set 0 _ (.int .i64 0) rfl).set 1 _ (.int .i64 0) rfl).set 2 _ (.int .i64 0) rfl).set 3 _ (.int .i64 0) rfl).set 4 _ (.bool false) rfl).set 5 _ (.int .i64 0) rfl).set 6 _ (.int .i64 0) rfl).set 7 _ (.int .i64 0) rfl).set 8 _ (.int .i64 0) rfl).set 9 _ (.bool false) rfl).set 10 _ (.int .i64 0) rfl).set 11 _ (.int .i64 0) rfl).set 12 _ (.string ⟨#[]⟩) rfl).set 13 _ (.int .i64 0) rfl).set 14 _ (.int .i64 0) rfl)
    have HLf := hidP (((((((((((((((HL4.out.setCell (p := ⟨w.heap.size, 0, none⟩) (Nat.le_refl _) (.int .i64 0)).setCell (p := ⟨w.heap.size, 1, none⟩) (Nat.le_refl _) (.int .i64 0)).setCell (p := ⟨w.heap.size, 2, none⟩) (Nat.le_refl _) (.int .i64 0)).setCell (p := ⟨w.heap.size, 3, none⟩) (Nat.le_refl _) (.int .i64 0)).setCell (p := ⟨w.heap.size, 4, none⟩) (Nat.le_refl _) (.bool false)).setCell (p := ⟨w.heap.size, 5, none⟩) (Nat.le_refl _) (.int .i64 0)).setCell (p := ⟨w.heap.size, 6, none⟩) (Nat.le_refl _) (.int .i64 0)).setCell (p := ⟨w.heap.size, 7, none⟩) (Nat.le_refl _) (.int .i64 0)).setCell (p := ⟨w.heap.size, 8, none⟩) (Nat.le_refl _) (.int .i64 0)).setCell (p := ⟨w.heap.size, 9, none⟩) (Nat.le_refl _) (.bool false)).setCell (p := ⟨w.heap.size, 10, none⟩) (Nat.le_refl _) (.int .i64 0)).setCell (p := ⟨w.heap.size, 11, none⟩) (Nat.le_refl _) (.int .i64 0)).setCell (p := ⟨w.heap.size, 12, none⟩) (Nat.le_refl _) (.string ⟨#[]⟩)).setCell (p := ⟨w.heap.size, 13, none⟩) (Nat.le_refl _) (.int .i64 0)).setCell (p := ⟨w.heap.size, 14, none⟩) (Nat.le_refl _) (.int .i64 0))
    clear HL4 HA4 HQ4 HPut HY HN HOk
    go_wp2_with fail
    exact bodyPost_ret (sget_res (by rfl) (by rfl) HBf.out) (by rfl) (HNf.out _ HLf.out)
  · have HYf := hidP (fun w' hb => HY.out w' (by rw [he]; rfl) hb)
    clear he
    have a0 := HA4.out.cel 0 _ rfl
    have g0 := HA4.out.frz 0
    have a1 := HA4.out.cel 1 _ rfl
    have g1 := HA4.out.frz 1
    have a2 := HA4.out.cel 2 _ rfl
    have g2 := HA4.out.frz 2
    have a3 := HA4.out.cel 3 _ rfl
    have g3 := HA4.out.frz 3
    have a4 := HA4.out.cel 4 _ rfl
    have g4 := HA4.out.frz 4
    have a5 := HA4.out.cel 5 _ rfl
    have g5 := HA4.out.frz 5
    have a6 := HA4.out.cel 6 _ rfl
    have g6 := HA4.out.frz 6
    have a7 := HA4.out.cel 7 _ rfl
    have g7 := HA4.out.frz 7
    have a8 := HA4.out.cel 8 _ rfl
    have g8 := HA4.out.frz 8
    have a9 := HA4.out.cel 9 _ rfl
    have g9 := HA4.out.frz 9
    have a10 := HA4.out.cel 10 _ rfl
    have g10 := HA4.out.frz 10
    have a11 := HA4.out.cel 11 _ rfl
    have g11 := HA4.out.frz 11
    have a12 := HA4.out.cel 12 _ rfl
    have g12 := HA4.out.frz 12
    have a13 := HA4.out.cel 13 _ rfl
    have g13 := HA4.out.frz 13
    have a14 := HA4.out.cel 14 _ rfl
    have g14 := HA4.out.frz 14
    have HBf := hidP (((((((((((((((HA4.out.set 0 _ (.int .i64 k) rfl).set 1 _ (.int .i64 s) rfl).set 2 _ (.int .i64 q) rfl).set 3 _ (.int .i64 n) rfl).set 4 _ (.bool aS) rfl).set 5 _ (.int .i64 aH) rfl).set 6 _ (.int .i64 aL) rfl).set 7 _ (.int .i64 ab) rfl).set 8 _ (.int .i64 b) rfl).set 9 _ (.bool hS) rfl).set 10 _ (.int .i64 hH) rfl).set 11 _ (.int .i64 hL) rfl).set 12 _ (.string o) rfl).set 13 _ (.int .i64 t) rfl).set 14 _ (.int .i64 sp) rfl)
    have HLf := hidP (((((((((((((((HL4.out.setCell (p := ⟨w.heap.size, 0, none⟩) (Nat.le_refl _) (.int .i64 k)).setCell (p := ⟨w.heap.size, 1, none⟩) (Nat.le_refl _) (.int .i64 s)).setCell (p := ⟨w.heap.size, 2, none⟩) (Nat.le_refl _) (.int .i64 q)).setCell (p := ⟨w.heap.size, 3, none⟩) (Nat.le_refl _) (.int .i64 n)).setCell (p := ⟨w.heap.size, 4, none⟩) (Nat.le_refl _) (.bool aS)).setCell (p := ⟨w.heap.size, 5, none⟩) (Nat.le_refl _) (.int .i64 aH)).setCell (p := ⟨w.heap.size, 6, none⟩) (Nat.le_refl _) (.int .i64 aL)).setCell (p := ⟨w.heap.size, 7, none⟩) (Nat.le_refl _) (.int .i64 ab)).setCell (p := ⟨w.heap.size, 8, none⟩) (Nat.le_refl _) (.int .i64 b)).setCell (p := ⟨w.heap.size, 9, none⟩) (Nat.le_refl _) (.bool hS)).setCell (p := ⟨w.heap.size, 10, none⟩) (Nat.le_refl _) (.int .i64 hH)).setCell (p := ⟨w.heap.size, 11, none⟩) (Nat.le_refl _) (.int .i64 hL)).setCell (p := ⟨w.heap.size, 12, none⟩) (Nat.le_refl _) (.string o)).setCell (p := ⟨w.heap.size, 13, none⟩) (Nat.le_refl _) (.int .i64 t)).setCell (p := ⟨w.heap.size, 14, none⟩) (Nat.le_refl _) (.int .i64 sp))
    have q0 := HQ4.out.cel 0 _ rfl
    have q1 := HQ4.out.cel 1 _ rfl
    have q2 := HQ4.out.cel 2 _ rfl
    have q3 := HQ4.out.cel 3 _ rfl
    have q4 := HQ4.out.cel 4 _ rfl
    have q5 := HQ4.out.cel 5 _ rfl
    have q6 := HQ4.out.cel 6 _ rfl
    have q7 := HQ4.out.cel 7 _ rfl
    have q8 := HQ4.out.cel 8 _ rfl
    have q9 := HQ4.out.cel 9 _ rfl
    have q10 := HQ4.out.cel 10 _ rfl
    have q11 := HQ4.out.cel 11 _ rfl
    have q12 := HQ4.out.cel 12 _ rfl
    have q13 := HQ4.out.cel 13 _ rfl
    have q14 := HQ4.out.cel 14 _ rfl
    clear HL4 HA4 HQ4 HPut HY HN HOk
    go_wp2_with fail
    exact bodyPost_ret (sget_res (by rfl) (by rfl) HBf.out) (by rfl) (HYf.out _ HLf.out)

end Go.Proofs.YtnchndcanhmbeaaGreatDoor
namespace Go.Proofs.YtnchndcanhmbeaaGreatDoor
open Go.RowKit

set_option maxRecDepth 10000 in
theorem iget_res {W : World} {ts : Array Value} {R : Nat} {ok : Bool} {v0 v1 v2 v3 v4 v5 v6 v7 v8 v9 v10 v11 v12 v13 v14 : Value} (h2 : ts[2]?.getD undef = .pointer (some ⟨R, 0, none⟩)) (h3 : ts[3]?.getD undef = .bool ok) (h : Bx W R [v0, v1, v2, v3, v4, v5, v6, v7, v8, v9, v10, v11, v12, v13, v14]) : (results Tryz.f14 ts).run Tryz.prog W = .ok (.tuple #[.agg #[v0, v1, v2, v3, v4, v5, v6, v7, v8, v9, v10, v11, v12, v13, v14], .bool ok]) W := by
  have a0 := h.cel 0 _ rfl
  have a1 := h.cel 1 _ rfl
  have a2 := h.cel 2 _ rfl
  have a3 := h.cel 3 _ rfl
  have a4 := h.cel 4 _ rfl
  have a5 := h.cel 5 _ rfl
  have a6 := h.cel 6 _ rfl
  have a7 := h.cel 7 _ rfl
  have a8 := h.cel 8 _ rfl
  have a9 := h.cel 9 _ rfl
  have a10 := h.cel 10 _ rfl
  have a11 := h.cel 11 _ rfl
  have a12 := h.cel 12 _ rfl
  have a13 := h.cel 13 _ rfl
  have a14 := h.cel 14 _ rfl
  simp [results, Tryz.results14, go_sem, h2, h3, a0, a1, a2, a3, a4, a5, a6, a7, a8, a9, a10, a11, a12, a13, a14]

set_option maxRecDepth 20000 in
set_option maxHeartbeats 16000000 in
theorem iGet_of (Q : Ending → World → Prop) (a : Option Addr) (cap : Nat) (zs : List Int) (w : World) (hB : Byt w a zs) (ho : Oct zs) (hl : zs.length ≤ 2000000) (hnc : zs.length ≤ cap) (hcap : cap ≤ 1000000000)
    (hbad : ∀ w', rdC zs = none → Below w.heap.size w w' → Q (.returned (.tuple #[.agg #[.int .i64 0, .int .i64 0, .int .i64 0, .int .i64 0, .bool false, .int .i64 0, .int .i64 0, .int .i64 0, .int .i64 0, .bool false, .int .i64 0, .int .i64 0, .string ⟨#[]⟩, .int .i64 0, .int .i64 0], .bool false])) w')
    (hgood : ∀ (c : Cmd) (j : Nat), rdC zs = some (c, j) → ∃ (Zf : List Int), Zf.length ≤ 2000000 ∧
      (∀ W : World, Below w.heap.size w W → Calls Tryz.prog 8 #[.agg #[.int .i64 c.k, .int .i64 c.s, .int .i64 c.q, .int .i64 c.n, .bool c.aS, .int .i64 c.aH, .int .i64 c.aL, .int .i64 c.ab, .int .i64 c.b, .bool c.hS, .int .i64 c.hH, .int .i64 c.hL, .string c.o, .int .i64 c.t, .int .i64 c.sp]] W fun e w' => ∃ g cp, e = .returned (.slice (some ⟨g, 0, none⟩) Zf.length cp) ∧ Own w' W.heap.size (.slice (some ⟨g, 0, none⟩) Zf.length cp) Zf ∧ Below W.heap.size W w') ∧
      (∀ w', eqL Zf zs = true → Below w.heap.size w w' → Q (.returned (.tuple #[.agg #[.int .i64 c.k, .int .i64 c.s, .int .i64 c.q, .int .i64 c.n, .bool c.aS, .int .i64 c.aH, .int .i64 c.aL, .int .i64 c.ab, .int .i64 c.b, .bool c.hS, .int .i64 c.hH, .int .i64 c.hL, .string c.o, .int .i64 c.t, .int .i64 c.sp], .bool true])) w') ∧
      (∀ w', eqL Zf zs = false → Below w.heap.size w w' → Q (.returned (.tuple #[.agg #[.int .i64 0, .int .i64 0, .int .i64 0, .int .i64 0, .bool false, .int .i64 0, .int .i64 0, .int .i64 0, .int .i64 0, .bool false, .int .i64 0, .int .i64 0, .string ⟨#[]⟩, .int .i64 0, .int .i64 0], .bool false])) w')) :
    Calls Tryz.prog 14 #[.slice a zs.length cap] w Q := by
  have HGd := hidP hgood
  have HBd := hidP hbad
  have HBy := hidP hB
  have HA := hidP (Bx.new w [.int .i64 0, .int .i64 0, .int .i64 0, .int .i64 0, .bool false, .int .i64 0, .int .i64 0, .int .i64 0, .int .i64 0, .bool false, .int .i64 0, .int .i64 0, .string ⟨#[]⟩, .int .i64 0, .int .i64 0] 35)
  have HL := hidP ((Below.refl w.heap.size w).alloc (Nat.le_refl _) (.cells #[.int .i64 0, .int .i64 0, .int .i64 0, .int .i64 0, .bool false, .int .i64 0, .int .i64 0, .int .i64 0, .int .i64 0, .bool false, .int .i64 0, .int .i64 0, .string ⟨#[]⟩, .int .i64 0, .int .i64 0] 35))
  clear hgood hbad hB
  go_enter Tryz.func14, Tryz.ntmps14
  go_wp2_with fail
  generalize w.alloc (.cells #[.int .i64 0, .int .i64 0, .int .i64 0, .int .i64 0, .bool false, .int .i64 0, .int .i64 0, .int .i64 0, .int .i64 0, .bool false, .int .i64 0, .int .i64 0, .string ⟨#[]⟩, .int .i64 0, .int .i64 0] 35) = X0 at *
  refine readAtC_of _ a zs.length cap zs X0 (HBy.out.later HL.out) ho rfl hnc ⟨by omega, by omega⟩ ?_ ?_
  · intro c j W hE hb
    obtain ⟨Zf, hZl, hput, hyes, hno⟩ := HGd.out c j hE
    obtain ⟨k, s, q, n, aS, aH, aL, ab, b, hS, hH, hL, o, t, sp⟩ := c
    try dsimp only at hput hyes hno
    try dsimp only
    have HPut := hidP hput
    have HY := hidP hyes
    have HN := hidP hno
    have HL1 := hidP ((HL.out.trans (hb.mono HL.out.size)).alloc (Nat.le_trans HL.out.size hb.size) (.cells #[.int .i64 k, .int .i64 s, .int .i64 q, .int .i64 n, .bool aS, .int .i64 aH, .int .i64 aL, .int .i64 ab, .int .i64 b, .bool hS, .int .i64 hH, .int .i64 hL, .string o, .int .i64 t, .int .i64 sp] 35))
    have HA1 := hidP ((HA.out.later hb).alloc (.cells #[.int .i64 k, .int .i64 s, .int .i64 q, .int .i64 n, .bool aS, .int .i64 aH, .int .i64 aL, .int .i64 ab, .int .i64 b, .bool hS, .int .i64 hH, .int .i64 hL, .string o, .int .i64 t, .int .i64 sp] 35))
    have HQ1 := hidP (Bx.new W [.int .i64 k, .int .i64 s, .int .i64 q, .int .i64 n, .bool aS, .int .i64 aH, .int .i64 aL, .int .i64 ab, .int .i64 b, .bool hS, .int .i64 hH, .int .i64 hL, .string o, .int .i64 t, .int .i64 sp] 35)
    have hs : w.heap.size < W.heap.size := (HA.out.later hb).lt
    clear hput hyes hno hE hb HGd HBd HL HA
    go_wp2_with fail
    generalize W.alloc (.cells #[.int .i64 k, .int .i64 s, .int .i64 q, .int .i64 n, .bool aS, .int .i64 aH, .int .i64 aL, .int .i64 ab, .int .i64 b, .bool hS, .int .i64 hH, .int .i64 hL, .string o, .int .i64 t, .int .i64 sp] 35) = X1 at *
    refine (HPut.out _ HL1.out).mono ?_
    rintro e V ⟨g, cp, rfl, hown, hb⟩
    have HA2 := hidP (HA1.out.later hb)
    have HQ2 := hidP (HQ1.out.later hb)
    have HL2 := hidP (HL1.out.trans (hb.mono HL1.out.size))
    have HOw := hidP hown.bytA
    clear hb hown HA1 HQ1 HL1 HPut
    go_wp2_with fail
    refine (equal_any _ _ cp cap Zf zs _ HOw.out (HBy.out.later HL2.out) (by omega) (by omega)).mono ?_
    rintro e V3 ⟨rfl, hb⟩
    have HA4 := hidP (HA2.out.later hb)
    have HQ4 := hidP (HQ2.out.later hb)
    have HL4 := hidP (HL2.out.trans (hb.mono HL2.out.size))
    clear hb HA2 HQ2 HL2 HOw
    cases he : eqL Zf zs
    · have HNf := hidP (fun w' hb => HN.out w' he hb)
      clear he
      have a0 := HA4.out.cel 0 _ rfl
      have g0 := HA4.out.frz 0
      have a1 := HA4.out.cel 1 _ rfl
      have g1 := HA4.out.frz 1
      have a2 := HA4.out.cel 2 _ rfl
      have g2 := HA4.out.frz 2
      have a3 := HA4.out.cel 3 _ rfl
      have g3 := HA4.out.frz 3
      have a4 := HA4.out.cel 4 _ rfl
      have g4 := HA4.out.frz 4
      have a5 := HA4.out.cel 5 _ rfl
      have g5 := HA4.out.frz 5
      have a6 := HA4.out.cel 6 _ rfl
      have g6 := HA4.out.frz 6
      have a7 := HA4.out.cel 7 _ rfl
      have g7 := HA4.out.frz 7
      have a8 := HA4.out.cel 8 _ rfl
      have g8 := HA4.out.frz 8
      have a9 := HA4.out.cel 9 _ rfl
      have g9 := HA4.out.frz 9
      have a10 := HA4.out.cel 10 _ rfl
      have g10 := HA4.out.frz 10
      have a11 := HA4.out.cel 11 _ rfl
      have g11 := HA4.out.frz 11
      have a12 := HA4.out.cel 12 _ rfl
      have g12 := HA4.out.frz 12
      have a13 := HA4.out.cel 13 _ rfl
      have g13 := HA4.out.frz 13
      have a14 := HA4.out.cel 14 _ rfl
      have g14 := HA4.out.frz 14
      have HBf := hidP (((((((((((((((HA4.out.set 0 _ (.int .i64 0) rfl).set 1 _ (.int .i64 0) rfl).set 2 _ (.int .i64 0) rfl).set 3 _ (.int .i64 0) rfl).set 4 _ (.bool false) rfl).set 5 _ (.int .i64 0) rfl).set 6 _ (.int .i64 0) rfl).set 7 _ (.int .i64 0) rfl).set 8 _ (.int .i64 0) rfl).set 9 _ (.bool false) rfl).set 10 _ (.int .i64 0) rfl).set 11 _ (.int .i64 0) rfl).set 12 _ (.string ⟨#[]⟩) rfl).set 13 _ (.int .i64 0) rfl).set 14 _ (.int .i64 0) rfl)
      have HLf := hidP (((((((((((((((HL4.out.setCell (p := ⟨w.heap.size, 0, none⟩) (Nat.le_refl _) (.int .i64 0)).setCell (p := ⟨w.heap.size, 1, none⟩) (Nat.le_refl _) (.int .i64 0)).setCell (p := ⟨w.heap.size, 2, none⟩) (Nat.le_refl _) (.int .i64 0)).setCell (p := ⟨w.heap.size, 3, none⟩) (Nat.le_refl _) (.int .i64 0)).setCell (p := ⟨w.heap.size, 4, none⟩) (Nat.le_refl _) (.bool false)).setCell (p := ⟨w.heap.size, 5, none⟩) (Nat.le_refl _) (.int .i64 0)).setCell (p := ⟨w.heap.size, 6, none⟩) (Nat.le_refl _) (.int .i64 0)).setCell (p := ⟨w.heap.size, 7, none⟩) (Nat.le_refl _) (.int .i64 0)).setCell (p := ⟨w.heap.size, 8, none⟩) (Nat.le_refl _) (.int .i64 0)).setCell (p := ⟨w.heap.size, 9, none⟩) (Nat.le_refl _) (.bool false)).setCell (p := ⟨w.heap.size, 10, none⟩) (Nat.le_refl _) (.int .i64 0)).setCell (p := ⟨w.heap.size, 11, none⟩) (Nat.le_refl _) (.int .i64 0)).setCell (p := ⟨w.heap.size, 12, none⟩) (Nat.le_refl _) (.string ⟨#[]⟩)).setCell (p := ⟨w.heap.size, 13, none⟩) (Nat.le_refl _) (.int .i64 0)).setCell (p := ⟨w.heap.size, 14, none⟩) (Nat.le_refl _) (.int .i64 0))
      clear HL4 HA4 HQ4 HY HN
      go_wp2_with fail
      exact bodyPost_ret (iget_res (by rfl) (by rfl) HBf.out) (by rfl) (HNf.out _ HLf.out)
    · have HYf := hidP (fun w' hb => HY.out w' he hb)
      clear he
      have a0 := HA4.out.cel 0 _ rfl
      have g0 := HA4.out.frz 0
      have a1 := HA4.out.cel 1 _ rfl
      have g1 := HA4.out.frz 1
      have a2 := HA4.out.cel 2 _ rfl
      have g2 := HA4.out.frz 2
      have a3 := HA4.out.cel 3 _ rfl
      have g3 := HA4.out.frz 3
      have a4 := HA4.out.cel 4 _ rfl
      have g4 := HA4.out.frz 4
      have a5 := HA4.out.cel 5 _ rfl
      have g5 := HA4.out.frz 5
      have a6 := HA4.out.cel 6 _ rfl
      have g6 := HA4.out.frz 6
      have a7 := HA4.out.cel 7 _ rfl
      have g7 := HA4.out.frz 7
      have a8 := HA4.out.cel 8 _ rfl
      have g8 := HA4.out.frz 8
      have a9 := HA4.out.cel 9 _ rfl
      have g9 := HA4.out.frz 9
      have a10 := HA4.out.cel 10 _ rfl
      have g10 := HA4.out.frz 10
      have a11 := HA4.out.cel 11 _ rfl
      have g11 := HA4.out.frz 11
      have a12 := HA4.out.cel 12 _ rfl
      have g12 := HA4.out.frz 12
      have a13 := HA4.out.cel 13 _ rfl
      have g13 := HA4.out.frz 13
      have a14 := HA4.out.cel 14 _ rfl
      have g14 := HA4.out.frz 14
      have HBf := hidP (((((((((((((((HA4.out.set 0 _ (.int .i64 k) rfl).set 1 _ (.int .i64 s) rfl).set 2 _ (.int .i64 q) rfl).set 3 _ (.int .i64 n) rfl).set 4 _ (.bool aS) rfl).set 5 _ (.int .i64 aH) rfl).set 6 _ (.int .i64 aL) rfl).set 7 _ (.int .i64 ab) rfl).set 8 _ (.int .i64 b) rfl).set 9 _ (.bool hS) rfl).set 10 _ (.int .i64 hH) rfl).set 11 _ (.int .i64 hL) rfl).set 12 _ (.string o) rfl).set 13 _ (.int .i64 t) rfl).set 14 _ (.int .i64 sp) rfl)
      have HLf := hidP (((((((((((((((HL4.out.setCell (p := ⟨w.heap.size, 0, none⟩) (Nat.le_refl _) (.int .i64 k)).setCell (p := ⟨w.heap.size, 1, none⟩) (Nat.le_refl _) (.int .i64 s)).setCell (p := ⟨w.heap.size, 2, none⟩) (Nat.le_refl _) (.int .i64 q)).setCell (p := ⟨w.heap.size, 3, none⟩) (Nat.le_refl _) (.int .i64 n)).setCell (p := ⟨w.heap.size, 4, none⟩) (Nat.le_refl _) (.bool aS)).setCell (p := ⟨w.heap.size, 5, none⟩) (Nat.le_refl _) (.int .i64 aH)).setCell (p := ⟨w.heap.size, 6, none⟩) (Nat.le_refl _) (.int .i64 aL)).setCell (p := ⟨w.heap.size, 7, none⟩) (Nat.le_refl _) (.int .i64 ab)).setCell (p := ⟨w.heap.size, 8, none⟩) (Nat.le_refl _) (.int .i64 b)).setCell (p := ⟨w.heap.size, 9, none⟩) (Nat.le_refl _) (.bool hS)).setCell (p := ⟨w.heap.size, 10, none⟩) (Nat.le_refl _) (.int .i64 hH)).setCell (p := ⟨w.heap.size, 11, none⟩) (Nat.le_refl _) (.int .i64 hL)).setCell (p := ⟨w.heap.size, 12, none⟩) (Nat.le_refl _) (.string o)).setCell (p := ⟨w.heap.size, 13, none⟩) (Nat.le_refl _) (.int .i64 t)).setCell (p := ⟨w.heap.size, 14, none⟩) (Nat.le_refl _) (.int .i64 sp))
      have q0 := HQ4.out.cel 0 _ rfl
      have q1 := HQ4.out.cel 1 _ rfl
      have q2 := HQ4.out.cel 2 _ rfl
      have q3 := HQ4.out.cel 3 _ rfl
      have q4 := HQ4.out.cel 4 _ rfl
      have q5 := HQ4.out.cel 5 _ rfl
      have q6 := HQ4.out.cel 6 _ rfl
      have q7 := HQ4.out.cel 7 _ rfl
      have q8 := HQ4.out.cel 8 _ rfl
      have q9 := HQ4.out.cel 9 _ rfl
      have q10 := HQ4.out.cel 10 _ rfl
      have q11 := HQ4.out.cel 11 _ rfl
      have q12 := HQ4.out.cel 12 _ rfl
      have q13 := HQ4.out.cel 13 _ rfl
      have q14 := HQ4.out.cel 14 _ rfl
      clear HL4 HA4 HQ4 HY HN
      go_wp2_with fail
      exact bodyPost_ret (iget_res (by rfl) (by rfl) HBf.out) (by rfl) (HYf.out _ HLf.out)
  · intro f W hE hf hb
    try dsimp only
    have EN := hidP hE
    have HL1 := hidP (HL.out.trans (hb.mono HL.out.size))
    have HA0 := hidP (HA.out.later hb)
    have hs : w.heap.size < W.heap.size := (HA.out.later hb).lt
    have n1 : ¬ w.heap.size = W.heap.size := by omega
    have n2 : ¬ W.heap.size = w.heap.size := by omega
    clear hE hb HGd HL HA
    have a0 := HA0.out.cel 0 _ rfl
    have g0 := HA0.out.frz 0
    have a1 := HA0.out.cel 1 _ rfl
    have g1 := HA0.out.frz 1
    have a2 := HA0.out.cel 2 _ rfl
    have g2 := HA0.out.frz 2
    have a3 := HA0.out.cel 3 _ rfl
    have g3 := HA0.out.frz 3
    have a4 := HA0.out.cel 4 _ rfl
    have g4 := HA0.out.frz 4
    have a5 := HA0.out.cel 5 _ rfl
    have g5 := HA0.out.frz 5
    have a6 := HA0.out.cel 6 _ rfl
    have g6 := HA0.out.frz 6
    have a7 := HA0.out.cel 7 _ rfl
    have g7 := HA0.out.frz 7
    have a8 := HA0.out.cel 8 _ rfl
    have g8 := HA0.out.frz 8
    have a9 := HA0.out.cel 9 _ rfl
    have g9 := HA0.out.frz 9
    have a10 := HA0.out.cel 10 _ rfl
    have g10 := HA0.out.frz 10
    have a11 := HA0.out.cel 11 _ rfl
    have g11 := HA0.out.frz 11
    have a12 := HA0.out.cel 12 _ rfl
    have g12 := HA0.out.frz 12
    have a13 := HA0.out.cel 13 _ rfl
    have g13 := HA0.out.frz 13
    have a14 := HA0.out.cel 14 _ rfl
    have g14 := HA0.out.frz 14
    have HLx := hidP (((((((((((((((HL1.out.setCell (p := ⟨w.heap.size, 0, none⟩) (Nat.le_refl _) (.int .i64 0)).setCell (p := ⟨w.heap.size, 1, none⟩) (Nat.le_refl _) (.int .i64 0)).setCell (p := ⟨w.heap.size, 2, none⟩) (Nat.le_refl _) (.int .i64 0)).setCell (p := ⟨w.heap.size, 3, none⟩) (Nat.le_refl _) (.int .i64 0)).setCell (p := ⟨w.heap.size, 4, none⟩) (Nat.le_refl _) (.bool false)).setCell (p := ⟨w.heap.size, 5, none⟩) (Nat.le_refl _) (.int .i64 0)).setCell (p := ⟨w.heap.size, 6, none⟩) (Nat.le_refl _) (.int .i64 0)).setCell (p := ⟨w.heap.size, 7, none⟩) (Nat.le_refl _) (.int .i64 0)).setCell (p := ⟨w.heap.size, 8, none⟩) (Nat.le_refl _) (.int .i64 0)).setCell (p := ⟨w.heap.size, 9, none⟩) (Nat.le_refl _) (.bool false)).setCell (p := ⟨w.heap.size, 10, none⟩) (Nat.le_refl _) (.int .i64 0)).setCell (p := ⟨w.heap.size, 11, none⟩) (Nat.le_refl _) (.int .i64 0)).setCell (p := ⟨w.heap.size, 12, none⟩) (Nat.le_refl _) (.string ⟨#[]⟩)).setCell (p := ⟨w.heap.size, 13, none⟩) (Nat.le_refl _) (.int .i64 0)).setCell (p := ⟨w.heap.size, 14, none⟩) (Nat.le_refl _) (.int .i64 0))
    have HBf := hidP ((((((((((((((((HA0.out.set 0 _ (.int .i64 0) rfl).set 1 _ (.int .i64 0) rfl).set 2 _ (.int .i64 0) rfl).set 3 _ (.int .i64 0) rfl).set 4 _ (.bool false) rfl).set 5 _ (.int .i64 0) rfl).set 6 _ (.int .i64 0) rfl).set 7 _ (.int .i64 0) rfl).set 8 _ (.int .i64 0) rfl).set 9 _ (.bool false) rfl).set 10 _ (.int .i64 0) rfl).set 11 _ (.int .i64 0) rfl).set 12 _ (.string ⟨#[]⟩) rfl).set 13 _ (.int .i64 0) rfl).set 14 _ (.int .i64 0) rfl).alloc (.cells #[.int .i64 0, .int .i64 0, .int .i64 0, .int .i64 0, .bool false, .int .i64 0, .int .i64 0, .int .i64 0, .int .i64 0, .bool false, .int .i64 0, .int .i64 0, .string ⟨#[]⟩, .int .i64 0, .int .i64 0] 35))
    have HLf := hidP (HLx.out.alloc HLx.out.size (.cells #[.int .i64 0, .int .i64 0, .int .i64 0, .int .i64 0, .bool false, .int .i64 0, .int .i64 0, .int .i64 0, .int .i64 0, .bool false, .int .i64 0, .int .i64 0, .string ⟨#[]⟩, .int .i64 0, .int .i64 0] 35))
    clear HL1 HA0 HLx
    go_wp2_with fail
    exact bodyPost_ret (iget_res (by rfl) (by rfl) HBf.out) (by rfl) (HBd.out _ EN.out HLf.out)

end Go.Proofs.YtnchndcanhmbeaaGreatDoor
namespace Go.Proofs.YtnchndcanhmbeaaGreatDoor
open Go.RowKit

def poly : BitVec 32 := 3988292384#32
def st (x : BitVec 32) : BitVec 32 := (x >>> 1) ^^^ (if x.toNat % 2 = 1 then poly else 0#32)
def it : Nat → BitVec 32 → BitVec 32
  | 0, x => x
  | n + 1, x => st (it n x)

end Go.Proofs.YtnchndcanhmbeaaGreatDoor
namespace Go.Proofs.YtnchndcanhmbeaaGreatDoor
open Go.RowKit

theorem sub_le (zs : List Int) (k c : Nat) : (sub zs k c).length ≤ zs.length := by unfold sub; simp; omega

end Go.Proofs.YtnchndcanhmbeaaGreatDoor
namespace Go.Proofs.YtnchndcanhmbeaaGreatDoor
open Go.RowKit

theorem strOf_aux : ∀ (ns : List Int) (r : ByteArray), (ns.foldl (fun r n => r.push (UInt8.ofNat n.toNat)) r).data.toList = r.data.toList ++ ns.map (fun n => UInt8.ofNat n.toNat)
  | [], r => by simp
  | n :: ns, r => by rw [List.foldl_cons, strOf_aux ns]; simp [ByteArray.push]
theorem bys_strOf (b : List Int) (h : Oct b) : bys (strOf b) = b := by
  unfold bys strOf
  rw [strOf_aux b ByteArray.empty]
  have e : ByteArray.empty.data.toList = [] := rfl
  rw [e, List.nil_append, List.map_map]
  conv => rhs; rw [← List.map_id b]
  refine List.map_congr_left fun z hz => ?_
  have hb := h z hz
  show ((UInt8.ofNat z.toNat).toNat : Int) = z
  rw [UInt8.toNat_ofNat']
  omega
theorem strOf_size (b : List Int) (h : Oct b) : (strOf b).size = b.length := by rw [← bys_len, bys_strOf b h]

end Go.Proofs.YtnchndcanhmbeaaGreatDoor
namespace Go.Proofs.YtnchndcanhmbeaaGreatDoor
open Go.RowKit

theorem i6_bv (x : BitVec 64) : I6 x.toInt := by
  have h1 := BitVec.toInt_lt (x := x)
  have h2 := BitVec.le_toInt (x := x)
  unfold I6
  simp at h1 h2
  omega
theorem bv_i6 {z : Int} (h : I6 z) : (BitVec.ofInt 64 z).toInt = z := by
  unfold I6 at h
  rw [BitVec.toInt_ofInt, Int.bmod_def]
  simp
  omega
theorem rNum_b {zs : List Int} {p : Nat} {x : Int} {j : Nat} (h : rNum zs p = some (x, j)) : I6 x := by
  unfold rNum at h
  cases hr : rdN zs p with
  | good y k => rw [hr] at h; simp at h; rw [← h.1]; unfold I6 wrap64; omega
  | torn => rw [hr] at h; cases h
  | bad => rw [hr] at h; cases h
theorem rNum_pos {zs : List Int} {p : Nat} {x : Int} {j : Nat} (h : rNum zs p = some (x, j)) : 0 < zs.length := by
  unfold rNum at h
  cases hr : rdN zs p with
  | good y k => have := rdN_le hr; omega
  | torn => rw [hr] at h; cases h
  | bad => rw [hr] at h; cases h
theorem rAdr_b {zs : List Int} {p : Nat} {s : Bool} {u l : Int} {j : Nat} (h : rAdr zs p = some ((s, u, l), j)) : I6 u ∧ I6 l := by
  unfold rAdr at h
  split at h
  · simp at h
    obtain ⟨⟨_, rfl, rfl⟩, _⟩ := h
    exact ⟨by unfold I6; omega, i6_bv _⟩
  · split at h
    · simp at h
      obtain ⟨⟨_, rfl, rfl⟩, _⟩ := h
      exact ⟨i6_bv _, i6_bv _⟩
    · cases h
theorem rTxt_b {zs : List Int} {p : Nat} {o : ByteArray} {j : Nat} (ho : Oct zs) (h : rTxt zs p = some (o, j)) : o.size ≤ zs.length := by
  unfold rTxt at h
  cases hr : rdN zs p with
  | good y k =>
    rw [hr] at h
    simp only at h
    split at h
    · simp at h
      rw [← h.1, strOf_size _ (sub_oct ho _ _)]
      unfold sub; simp; omega
    · cases h
  | torn => rw [hr] at h; cases h
  | bad => rw [hr] at h; cases h
theorem rdC_b {zs : List Int} {c : Cmd} {j : Nat} (ho : Oct zs) (h : rdC zs = some (c, j)) : (I6 c.s ∧ I6 c.q ∧ I6 c.n ∧ I6 c.b ∧ I6 c.t ∧ I6 c.sp) ∧ (I6 c.aH ∧ I6 c.aL) ∧ (I6 c.hH ∧ I6 c.hL) ∧ c.o.size ≤ zs.length ∧ 0 < zs.length := by
  unfold rdC at h
  iterate 11 (split at h; · cases h)
  cases h
  exact ⟨⟨rNum_b (by assumption), rNum_b (by assumption), rNum_b (by assumption), rNum_b (by assumption), rNum_b (by assumption), rNum_b (by assumption)⟩, rAdr_b (by assumption), rAdr_b (by assumption), rTxt_b ho (by assumption), rNum_pos (by assumption)⟩
theorem put2 (k s q n : Int) (aS : Bool) (aH aL : BitVec 64) (ab b : Int) (hS : Bool) (hH hL : Int) (o : ByteArray) (t sp : Int) (HI : CmI s q n b t sp o) (bH : I6 hH) (bL : I6 hL) (ho : o.size ≤ 1048576) : ∃ (r : Bool) (Zf : List Int), (r = false → Zf = []) ∧ Zf.length ≤ 2000000 ∧
    (∀ W : World, Calls Tryz.prog 16 #[.agg #[.int .i64 k, .int .i64 s, .int .i64 q, .int .i64 n, .bool aS, .int .i64 aH.toInt, .int .i64 aL.toInt, .int .i64 ab, .int .i64 b, .bool hS, .int .i64 hH, .int .i64 hL, .string o, .int .i64 t, .int .i64 sp]] W fun e w' => e = .returned (.bool r) ∧ Below W.heap.size W w') ∧
    (∀ W : World, Calls Tryz.prog 6 #[.agg #[.int .i64 k, .int .i64 s, .int .i64 q, .int .i64 n, .bool aS, .int .i64 aH.toInt, .int .i64 aL.toInt, .int .i64 ab, .int .i64 b, .bool hS, .int .i64 hH, .int .i64 hL, .string o, .int .i64 t, .int .i64 sp]] W fun e w' => ∃ g cp, e = .returned (.slice (some ⟨g, 0, none⟩) Zf.length cp) ∧ Own w' W.heap.size (.slice (some ⟨g, 0, none⟩) Zf.length cp) Zf ∧ Below W.heap.size W w') ∧
    (∀ W : World, Tabs W → Calls Tryz.prog 8 #[.agg #[.int .i64 k, .int .i64 s, .int .i64 q, .int .i64 n, .bool aS, .int .i64 aH.toInt, .int .i64 aL.toInt, .int .i64 ab, .int .i64 b, .bool hS, .int .i64 hH, .int .i64 hL, .string o, .int .i64 t, .int .i64 sp]] W fun e w' => ∃ g cp, e = .returned (.slice (some ⟨g, 0, none⟩) Zf.length cp) ∧ Own w' W.heap.size (.slice (some ⟨g, 0, none⟩) Zf.length cp) Zf ∧ Below W.heap.size W w') := by
  obtain ⟨r, cS, cI⟩ := cmd_both k s q n aS aH aL ab b hS hH hL o t sp HI bH bL
  cases r
  · exact ⟨false, [], fun _ => rfl, by simp, cS, fun w => sPut_no k s q n aS aH aL ab b hS hH hL o t sp [] rfl w (fun W _ => cS W), fun w ht => iPut_no k s q n aS aH aL ab b hS hH hL o t sp [] rfl w (fun W hb => cI W (ht.below hb))⟩
  · exact ⟨true, _, fun e => (by cases e), cmdZ_len k s q n aS aH aL ab b hS hH hL o t sp ho, cS, fun w => sPut_yes k s q n aS aH aL ab b hS hH hL o t sp _ rfl ho w (fun W => cS W), fun w ht => iPut_yes k s q n aS aH aL ab b hS hH hL o t sp _ rfl ho w (fun W hb => cI W (ht.below hb))⟩
theorem put3 (c : Cmd) (N : Nat) (hN : N ≤ 1048576) (h6 : I6 c.s ∧ I6 c.q ∧ I6 c.n ∧ I6 c.b ∧ I6 c.t ∧ I6 c.sp) (hA : I6 c.aH ∧ I6 c.aL) (hH : I6 c.hH ∧ I6 c.hL) (ho : c.o.size ≤ N) : ∃ (r : Bool) (Zf : List Int), (r = false → Zf = []) ∧ Zf.length ≤ 2000000 ∧
    (∀ W : World, Calls Tryz.prog 16 #[.agg #[.int .i64 c.k, .int .i64 c.s, .int .i64 c.q, .int .i64 c.n, .bool c.aS, .int .i64 c.aH, .int .i64 c.aL, .int .i64 c.ab, .int .i64 c.b, .bool c.hS, .int .i64 c.hH, .int .i64 c.hL, .string c.o, .int .i64 c.t, .int .i64 c.sp]] W fun e w' => e = .returned (.bool r) ∧ Below W.heap.size W w') ∧
    (∀ W : World, Calls Tryz.prog 6 #[.agg #[.int .i64 c.k, .int .i64 c.s, .int .i64 c.q, .int .i64 c.n, .bool c.aS, .int .i64 c.aH, .int .i64 c.aL, .int .i64 c.ab, .int .i64 c.b, .bool c.hS, .int .i64 c.hH, .int .i64 c.hL, .string c.o, .int .i64 c.t, .int .i64 c.sp]] W fun e w' => ∃ g cp, e = .returned (.slice (some ⟨g, 0, none⟩) Zf.length cp) ∧ Own w' W.heap.size (.slice (some ⟨g, 0, none⟩) Zf.length cp) Zf ∧ Below W.heap.size W w') ∧
    (∀ W : World, Tabs W → Calls Tryz.prog 8 #[.agg #[.int .i64 c.k, .int .i64 c.s, .int .i64 c.q, .int .i64 c.n, .bool c.aS, .int .i64 c.aH, .int .i64 c.aL, .int .i64 c.ab, .int .i64 c.b, .bool c.hS, .int .i64 c.hH, .int .i64 c.hL, .string c.o, .int .i64 c.t, .int .i64 c.sp]] W fun e w' => ∃ g cp, e = .returned (.slice (some ⟨g, 0, none⟩) Zf.length cp) ∧ Own w' W.heap.size (.slice (some ⟨g, 0, none⟩) Zf.length cp) Zf ∧ Below W.heap.size W w') := by
  have h := put2 c.k c.s c.q c.n c.aS (BitVec.ofInt 64 c.aH) (BitVec.ofInt 64 c.aL) c.ab c.b c.hS c.hH c.hL c.o c.t c.sp ⟨h6.1, h6.2.1, h6.2.2.1, h6.2.2.2.1, h6.2.2.2.2.1, h6.2.2.2.2.2, by omega⟩ hH.1 hH.2 (by omega)
  rw [bv_i6 hA.1, bv_i6 hA.2] at h
  exact h
def zC : Cmd := ⟨0, 0, 0, 0, false, 0, 0, 0, 0, false, 0, 0, ⟨#[]⟩, 0, 0⟩
/-- Both answer one command and one Bool. -/
theorem get_both (zs : List Int) (ho : Oct zs) (hl : zs.length ≤ 1048576) : ∃ (c : Cmd) (ok : Bool),
    (∀ (a : Option Addr) (cap : Nat) (w : World), Byt w a zs → zs.length ≤ cap → cap ≤ 1000000000 → Calls Tryz.prog 12 #[.slice a zs.length cap] w fun e w' => e = .returned (.tuple #[.agg #[.int .i64 c.k, .int .i64 c.s, .int .i64 c.q, .int .i64 c.n, .bool c.aS, .int .i64 c.aH, .int .i64 c.aL, .int .i64 c.ab, .int .i64 c.b, .bool c.hS, .int .i64 c.hH, .int .i64 c.hL, .string c.o, .int .i64 c.t, .int .i64 c.sp], .bool ok]) ∧ Below w.heap.size w w') ∧
    (∀ (a : Option Addr) (cap : Nat) (w : World), Byt w a zs → zs.length ≤ cap → cap ≤ 1000000000 → Tabs w → Calls Tryz.prog 14 #[.slice a zs.length cap] w fun e w' => e = .returned (.tuple #[.agg #[.int .i64 c.k, .int .i64 c.s, .int .i64 c.q, .int .i64 c.n, .bool c.aS, .int .i64 c.aH, .int .i64 c.aL, .int .i64 c.ab, .int .i64 c.b, .bool c.hS, .int .i64 c.hH, .int .i64 c.hL, .string c.o, .int .i64 c.t, .int .i64 c.sp], .bool ok]) ∧ Below w.heap.size w w') := by
  cases hr : rdC zs with
  | none =>
    exact ⟨zC, false, fun a cap w hB hn hc => sGet_of _ a cap zs w hB ho (by omega) hn hc (fun w' _ hb => ⟨rfl, hb⟩) (fun c j h => by rw [hr] at h; cases h),
      fun a cap w hB hn hc ht => iGet_of _ a cap zs w hB ho (by omega) hn hc (fun w' _ hb => ⟨rfl, hb⟩) (fun c j h => by rw [hr] at h; cases h)⟩
  | some u =>
    obtain ⟨c, j⟩ := u
    obtain ⟨h6, hA, hH, hoz, hpos⟩ := rdC_b ho hr
    obtain ⟨r, Zf, h0, hZ, cS, pS, pI⟩ := put3 c zs.length hl h6 hA hH hoz
    have hq : eqL Zf zs = (r && eqL Zf zs) := by
      cases r
      · rw [h0 rfl]; exact eqL_len (by simp; omega)
      · rfl
    cases hx : (r && eqL Zf zs)
    · exact ⟨zC, false, fun a cap w hB hn hc => sGet_of _ a cap zs w hB ho (by omega) hn hc (fun w' h _ => by rw [hr] at h; cases h) (fun c' j' h => by rw [hr] at h; cases h; exact ⟨r, Zf, hZ, cS, pS, fun w' e _ => (by rw [hx] at e; cases e), fun w' _ hb => ⟨rfl, hb⟩⟩),
        fun a cap w hB hn hc ht => iGet_of _ a cap zs w hB ho (by omega) hn hc (fun w' h _ => by rw [hr] at h; cases h) (fun c' j' h => by rw [hr] at h; cases h; exact ⟨Zf, hZ, fun W hb => pI W (ht.below hb), fun w' e _ => (by rw [hq, hx] at e; cases e), fun w' _ hb => ⟨rfl, hb⟩⟩)⟩
    · exact ⟨c, true, fun a cap w hB hn hc => sGet_of _ a cap zs w hB ho (by omega) hn hc (fun w' h _ => by rw [hr] at h; cases h) (fun c' j' h => by rw [hr] at h; cases h; exact ⟨r, Zf, hZ, cS, pS, fun w' _ hb => ⟨rfl, hb⟩, fun w' e _ => (by rw [hx] at e; cases e)⟩),
        fun a cap w hB hn hc ht => iGet_of _ a cap zs w hB ho (by omega) hn hc (fun w' h _ => by rw [hr] at h; cases h) (fun c' j' h => by rw [hr] at h; cases h; exact ⟨Zf, hZ, fun W hb => pI W (ht.below hb), fun w' _ hb => ⟨rfl, hb⟩, fun w' e _ => (by rw [hq, hx] at e; cases e)⟩)⟩

end Go.Proofs.YtnchndcanhmbeaaGreatDoor
namespace Go.Proofs.YtnchndcanhmbeaaGreatDoor
open Go.RowKit

set_option maxHeartbeats 1000000 in
theorem eqA_same (s : Bool) (h l : Int) (w : World) :
    Calls Tryz.prog 38 #[.agg #[.bool s, .int .i64 h, .int .i64 l], .agg #[.bool s, .int .i64 h, .int .i64 l]] w fun e w' => e = .returned (.bool true) ∧ Below w.heap.size w w' := by
  go_enter Tryz.func38, Tryz.ntmps38
  go_wp2
  go_ret
  refine ⟨rfl, ?_⟩
  repeat (first | with_reducible exact Below.refl _ _ | (with_reducible refine Below.drew ?_) | (with_reducible refine Below.alloc ?_ ?_ _; rotate_left; (focus (first | omega | (simp; omega) | (simp; done)))) | (with_reducible refine Below.setCell ?_ ?_ _; rotate_left; (focus (first | omega | (simp; omega) | (simp; done)))))

end Go.Proofs.YtnchndcanhmbeaaGreatDoor
namespace Go.Proofs.YtnchndcanhmbeaaGreatDoor
open Go.RowKit

set_option maxHeartbeats 1000000 in
theorem eqP_same (s : Bool) (h l b : Int) (w : World) :
    Calls Tryz.prog 37 #[.agg #[.bool s, .int .i64 h, .int .i64 l, .int .i64 b], .agg #[.bool s, .int .i64 h, .int .i64 l, .int .i64 b]] w fun e w' => e = .returned (.bool true) ∧ Below w.heap.size w w' := by
  go_enter Tryz.func37, Tryz.ntmps37
  go_wp2_with fail
  refine (eqA_same s h l _).mono ?_
  rintro e w1 ⟨rfl, hb1⟩
  have hz1 := hb1.size
  try simp at hz1
  have f10 : w.heap.size < w1.heap.size := by omega
  have f11 : w.heap.size + 1 < w1.heap.size := by omega
  refine olds_k (w.heap.size + 2) hb1 ?_ ?_
  · first | omega | (simp; omega) | (simp; done)
  intro hc1 hf1
  go_wp2_with fail
  go_ret
  refine ⟨rfl, ?_⟩
  repeat (first | with_reducible exact Below.refl _ _ | (with_reducible refine Below.drew ?_) | (with_reducible refine Below.alloc ?_ ?_ _; rotate_left; (focus (first | omega | (simp; omega) | (simp; done)))) | (with_reducible refine Below.setCell ?_ ?_ _; rotate_left; (focus (first | omega | (simp; omega) | (simp; done)))) | (with_reducible refine Below.trans ?_ (hb1.mono ?_); rotate_left; (focus (first | omega | (simp; omega) | (simp; done)))))

end Go.Proofs.YtnchndcanhmbeaaGreatDoor
namespace Go.Proofs.YtnchndcanhmbeaaGreatDoor
open Go.RowKit

set_option maxRecDepth 10000 in
set_option maxHeartbeats 8000000 in
theorem eqCommand_same (k s q n : Int) (aS : Bool) (aH aL ab b : Int) (hS : Bool) (hH hL : Int) (o : ByteArray) (t sp : Int) (w : World) :
    Calls Tryz.prog 15 #[.agg #[.int .i64 k, .int .i64 s, .int .i64 q, .int .i64 n, .bool aS, .int .i64 aH, .int .i64 aL, .int .i64 ab, .int .i64 b, .bool hS, .int .i64 hH, .int .i64 hL, .string o, .int .i64 t, .int .i64 sp], .agg #[.int .i64 k, .int .i64 s, .int .i64 q, .int .i64 n, .bool aS, .int .i64 aH, .int .i64 aL, .int .i64 ab, .int .i64 b, .bool hS, .int .i64 hH, .int .i64 hL, .string o, .int .i64 t, .int .i64 sp]] w fun e w' => e = .returned (.bool true) ∧ Below w.heap.size w w' := by
  have z1 : (w.alloc (.cells #[.int .i64 k, .int .i64 s, .int .i64 q, .int .i64 n, .bool aS, .int .i64 aH, .int .i64 aL, .int .i64 ab, .int .i64 b, .bool hS, .int .i64 hH, .int .i64 hL, .string o, .int .i64 t, .int .i64 sp] 35)).heap.size = w.heap.size + 1 := by simp
  have HA := hidP (Bx.alloc (Bx.new w [.int .i64 k, .int .i64 s, .int .i64 q, .int .i64 n, .bool aS, .int .i64 aH, .int .i64 aL, .int .i64 ab, .int .i64 b, .bool hS, .int .i64 hH, .int .i64 hL, .string o, .int .i64 t, .int .i64 sp] 35) (.cells #[.int .i64 k, .int .i64 s, .int .i64 q, .int .i64 n, .bool aS, .int .i64 aH, .int .i64 aL, .int .i64 ab, .int .i64 b, .bool hS, .int .i64 hH, .int .i64 hL, .string o, .int .i64 t, .int .i64 sp] 35))
  have hb := Bx.new (w.alloc (.cells #[.int .i64 k, .int .i64 s, .int .i64 q, .int .i64 n, .bool aS, .int .i64 aH, .int .i64 aL, .int .i64 ab, .int .i64 b, .bool hS, .int .i64 hH, .int .i64 hL, .string o, .int .i64 t, .int .i64 sp] 35)) [.int .i64 k, .int .i64 s, .int .i64 q, .int .i64 n, .bool aS, .int .i64 aH, .int .i64 aL, .int .i64 ab, .int .i64 b, .bool hS, .int .i64 hH, .int .i64 hL, .string o, .int .i64 t, .int .i64 sp] 35
  rw [z1] at hb
  have HB := hidP hb
  have HL := hidP (((Below.refl w.heap.size w).alloc (Nat.le_refl _) (.cells #[.int .i64 k, .int .i64 s, .int .i64 q, .int .i64 n, .bool aS, .int .i64 aH, .int .i64 aL, .int .i64 ab, .int .i64 b, .bool hS, .int .i64 hH, .int .i64 hL, .string o, .int .i64 t, .int .i64 sp] 35)).alloc (by simp) (.cells #[.int .i64 k, .int .i64 s, .int .i64 q, .int .i64 n, .bool aS, .int .i64 aH, .int .i64 aL, .int .i64 ab, .int .i64 b, .bool hS, .int .i64 hH, .int .i64 hL, .string o, .int .i64 t, .int .i64 sp] 35))
  clear z1 hb
  go_enter Tryz.func15, Tryz.ntmps15
  go_wp2_with fail
  generalize (w.alloc (.cells #[.int .i64 k, .int .i64 s, .int .i64 q, .int .i64 n, .bool aS, .int .i64 aH, .int .i64 aL, .int .i64 ab, .int .i64 b, .bool hS, .int .i64 hH, .int .i64 hL, .string o, .int .i64 t, .int .i64 sp] 35)).alloc (.cells #[.int .i64 k, .int .i64 s, .int .i64 q, .int .i64 n, .bool aS, .int .i64 aH, .int .i64 aL, .int .i64 ab, .int .i64 b, .bool hS, .int .i64 hH, .int .i64 hL, .string o, .int .i64 t, .int .i64 sp] 35) = X at *
  refine (eqP_same _ _ _ _ _).mono ?_
  rintro e V ⟨rfl, hv⟩
  have HA1 := hidP (HA.out.later hv)
  have HB1 := hidP (HB.out.later hv)
  have HL1 := hidP (HL.out.trans (hv.mono HL.out.size))
  clear hv HA HB HL
  have a8 := HA1.out.cel 8 _ rfl
  have a9 := HA1.out.cel 9 _ rfl
  have a10 := HA1.out.cel 10 _ rfl
  have a11 := HA1.out.cel 11 _ rfl
  have b8 := HB1.out.cel 8 _ rfl
  have b9 := HB1.out.cel 9 _ rfl
  have b10 := HB1.out.cel 10 _ rfl
  have b11 := HB1.out.cel 11 _ rfl
  go_wp2_with fail
  clear a8 b8 a9 b9 a10 b10 a11 b11
  refine (eqA_same _ _ _ _).mono ?_
  rintro e V2 ⟨rfl, hv⟩
  have HA2 := hidP (HA1.out.later hv)
  have HB2 := hidP (HB1.out.later hv)
  have HL2 := hidP (HL1.out.trans (hv.mono HL1.out.size))
  clear hv HA1 HB1 HL1
  have a12 := HA2.out.cel 12 _ rfl
  have a13 := HA2.out.cel 13 _ rfl
  have a14 := HA2.out.cel 14 _ rfl
  have b12 := HB2.out.cel 12 _ rfl
  have b13 := HB2.out.cel 13 _ rfl
  have b14 := HB2.out.cel 14 _ rfl
  go_wp2_with fail
  go_ret
  exact ⟨rfl, HL2.out⟩

set_option maxRecDepth 10000 in
set_option maxHeartbeats 8000000 in
theorem lawGetCmd (a : Option Addr) (cap : Nat) (zs : List Int) (w : World) (hB : Byt w a zs) (ho : Oct zs) (ht : Tabs w) :
    Calls Tryz.prog 4 #[.slice a zs.length cap] w fun e w' => e = .returned (.bool true) ∧ Below w.heap.size w w' := by
  have HB := hidP hB
  have HT := hidP ht
  by_cases hl : zs.length ≤ 1048576
  · obtain ⟨c, ok, hS', hI'⟩ := get_both zs ho hl
    obtain ⟨k, s, q, n, aS, aH, aL, ab, b, hS, hH, hL, o, t, sp⟩ := c
    try dsimp only at hS' hI'
    have HS := hidP hS'
    have HI := hidP hI'
    clear hS' hI' hB ho ht
    go_enter Tryz.func4, Tryz.ntmps4
    go_wp2_with fail
    refine (toByteS_ex a cap zs w HB.out hl).mono ?_
    rintro e w1 ⟨g1, rfl, o1, b1⟩
    have O1 := hidP o1
    have B1 := hidP b1
    clear o1 b1
    go_wp2_with fail
    refine (HS.out _ _ w1 O1.out.bytA (Nat.le_refl _) (by omega)).mono ?_
    rintro e w2 ⟨rfl, b2⟩
    have B2 := hidP ((B1.out.trans (b2.mono B1.out.size)).alloc (Nat.le_trans B1.out.size b2.size) (.cells #[.int .i64 k, .int .i64 s, .int .i64 q, .int .i64 n, .bool aS, .int .i64 aH, .int .i64 aL, .int .i64 ab, .int .i64 b, .bool hS, .int .i64 hH, .int .i64 hL, .string o, .int .i64 t, .int .i64 sp] 35))
    have HX := hidP (Bx.new w2 [.int .i64 k, .int .i64 s, .int .i64 q, .int .i64 n, .bool aS, .int .i64 aH, .int .i64 aL, .int .i64 ab, .int .i64 b, .bool hS, .int .i64 hH, .int .i64 hL, .string o, .int .i64 t, .int .i64 sp] 35)
    clear b2 O1 B1
    go_wp2_with fail
    generalize w2.alloc (.cells #[.int .i64 k, .int .i64 s, .int .i64 q, .int .i64 n, .bool aS, .int .i64 aH, .int .i64 aL, .int .i64 ab, .int .i64 b, .bool hS, .int .i64 hH, .int .i64 hL, .string o, .int .i64 t, .int .i64 sp] 35) = X2 at *
    refine (toByteS_ex a cap zs _ (HB.out.later B2.out) hl).mono ?_
    rintro e w3 ⟨g3, rfl, o3, b3⟩
    have O3 := hidP o3
    have B3 := hidP (B2.out.trans (b3.mono B2.out.size))
    have HX3 := hidP (HX.out.later b3)
    clear o3 b3 B2 HX
    go_wp2_with fail
    refine (HI.out _ _ w3 O3.out.bytA (Nat.le_refl _) (by omega) (HT.out.below B3.out)).mono ?_
    rintro e w4 ⟨rfl, b4⟩
    have O4 := hidP ((O3.out.later b4).alloc (.cells #[.int .i64 k, .int .i64 s, .int .i64 q, .int .i64 n, .bool aS, .int .i64 aH, .int .i64 aL, .int .i64 ab, .int .i64 b, .bool hS, .int .i64 hH, .int .i64 hL, .string o, .int .i64 t, .int .i64 sp] 35))
    have B4 := hidP ((B3.out.trans (b4.mono B3.out.size)).alloc (Nat.le_trans B3.out.size b4.size) (.cells #[.int .i64 k, .int .i64 s, .int .i64 q, .int .i64 n, .bool aS, .int .i64 aH, .int .i64 aL, .int .i64 ab, .int .i64 b, .bool hS, .int .i64 hH, .int .i64 hL, .string o, .int .i64 t, .int .i64 sp] 35))
    have HX4 := hidP ((HX3.out.later b4).alloc (.cells #[.int .i64 k, .int .i64 s, .int .i64 q, .int .i64 n, .bool aS, .int .i64 aH, .int .i64 aL, .int .i64 ab, .int .i64 b, .bool hS, .int .i64 hH, .int .i64 hL, .string o, .int .i64 t, .int .i64 sp] 35))
    have HY := hidP (Bx.new w4 [.int .i64 k, .int .i64 s, .int .i64 q, .int .i64 n, .bool aS, .int .i64 aH, .int .i64 aL, .int .i64 ab, .int .i64 b, .bool hS, .int .i64 hH, .int .i64 hL, .string o, .int .i64 t, .int .i64 sp] 35)
    have hlt : w2.heap.size < w4.heap.size := (HX3.out.later b4).lt
    have HXo := hidP (HX3.out.later b4)
    clear b4 O3 B3 HX3
    have x0 := HXo.out.cel 0 _ rfl
    have x1 := HXo.out.cel 1 _ rfl
    have x2 := HXo.out.cel 2 _ rfl
    have x3 := HXo.out.cel 3 _ rfl
    have x4 := HXo.out.cel 4 _ rfl
    have x5 := HXo.out.cel 5 _ rfl
    have x6 := HXo.out.cel 6 _ rfl
    have x7 := HXo.out.cel 7 _ rfl
    have x8 := HXo.out.cel 8 _ rfl
    have x9 := HXo.out.cel 9 _ rfl
    have x10 := HXo.out.cel 10 _ rfl
    have x11 := HXo.out.cel 11 _ rfl
    have x12 := HXo.out.cel 12 _ rfl
    have x13 := HXo.out.cel 13 _ rfl
    have x14 := HXo.out.cel 14 _ rfl
    clear HXo
    go_wp2_with fail
    clear x0 x1 x2 x3 x4 x5 x6 x7 x8 x9 x10 x11 x12 x13 x14
    generalize w4.alloc (.cells #[.int .i64 k, .int .i64 s, .int .i64 q, .int .i64 n, .bool aS, .int .i64 aH, .int .i64 aL, .int .i64 ab, .int .i64 b, .bool hS, .int .i64 hH, .int .i64 hL, .string o, .int .i64 t, .int .i64 sp] 35) = X4 at *
    refine (eqCommand_same _ _ _ _ _ _ _ _ _ _ _ _ _ _ _ _).mono ?_
    rintro e w5 ⟨rfl, b5⟩
    have O5 := hidP (O4.out.later b5)
    have B5 := hidP (B4.out.trans (b5.mono B4.out.size))
    clear b5 O4 B4 HX4 HY
    go_wp2_with fail
    refine (toByteS_ex a cap zs _ (HB.out.later B5.out) hl).mono ?_
    rintro e w6 ⟨g6, rfl, o6, b6⟩
    have O6 := hidP (O5.out.later b6)
    have O7 := hidP o6
    have B6 := hidP (B5.out.trans (b6.mono B5.out.size))
    clear o6 b6 O5 B5
    go_wp2_with fail
    refine (eqByteS_any _ _ _ _ zs zs w6 O6.out.bytA O7.out.bytA (by omega) (by omega)).mono ?_
    rw [eqL_same]
    rintro e w7 ⟨rfl, b7⟩
    have B7 := hidP (B6.out.trans (b7.mono B6.out.size))
    clear b7 B6 O6 O7
    go_wp2_with fail
    go_ret
    exact ⟨rfl, B7.out⟩
  · have d : decide ((1048576 : Int) < (zs.length : Int)) = true := decide_eq_true (by omega)
    go_enter Tryz.func4, Tryz.ntmps4
    go_wp2_with fail
    go_ret
    exact ⟨rfl, Below.refl _ _⟩

end Go.Proofs.YtnchndcanhmbeaaGreatDoor
namespace Go.Proofs.YtnchndcanhmbeaaGreatDoor
open Go.ChangeShapes Go.WideShapes Go.ChangeAt Go.RowKit Go.Joins Go.Deep

theorem Tryz.cellsByteC : Tryz.prog.cellsOf 5 = 1 := by kernel_rfl

/-- The bytes that are there, one by one. -/
theorem bytes_of {W : World} (a : Option Addr) : ∀ n : Nat, (∀ j, j < n → ∃ p o v, a = some ⟨p, o, none⟩ ∧ p < W.heap.size ∧ W.cell? ⟨p, o + j, none⟩ = some (.int .u8 v) ∧ 0 ≤ v ∧ v ≤ 255) → ∃ zs : List Int, zs.length = n ∧ Oct zs ∧ Byt W a zs
  | 0, _ => ⟨[], rfl, (fun z hz => by cases hz), Byt.nil _ _⟩
  | n + 1, h => by
      obtain ⟨zs, hl, ho, hb⟩ := bytes_of a n (fun j hj => h j (by omega))
      obtain ⟨p, o, v, ha, hp, hc, v0, v1⟩ := h n (by omega)
      refine ⟨zs ++ [v], by simp [hl], fun z hz => ?_, fun j hj => ?_⟩
      · rcases List.mem_append.1 hz with hz | hz
        · exact ho z hz
        · rw [List.mem_singleton] at hz; subst hz; exact ⟨v0, v1⟩
      · by_cases hjn : j < n
        · obtain ⟨p', o', z, ha', hp', hc', hz⟩ := hb j (by omega)
          exact ⟨p', o', z, ha', hp', hc', by rw [List.getElem?_append_left (by omega)]; exact hz⟩
        · have : j = n := by simp at hj; omega
          subst this
          exact ⟨p, o, v, ha, hp, hc, by rw [List.getElem?_append_right (by omega), hl]; simp⟩

/-- The bytes out of the reading of a row of bytes. -/
theorem byt_open {H : Type} {enc : TypeId × Value → H} {W : World} {a : Option Addr} {len cap : Nat} {d : DataW H} {p : List MemPlace}
    (h : DataW.Trod enc Tryz.prog W 0 (fun _ => true) true 29 (.slice a len cap) d p) : ∃ zs : List Int, zs.length = len ∧ Oct zs ∧ Byt W a zs := by
  obtain ⟨fuel, hf⟩ := h
  rcases open_slice1 Tryz.underlying29 Tryz.cellsByteC hf with ⟨hcs, _⟩ | ⟨a', len', cap', m, n, V, D, Pl, hcs, _, hl, _, hm, _, hV⟩
  · simp [Value.cells] at hcs
    obtain ⟨rfl, rfl, rfl⟩ := hcs
    exact ⟨[], rfl, (fun z hz => by cases hz), Byt.nil _ _⟩
  · simp [Value.cells] at hcs
    obtain ⟨rfl, rfl, rfl⟩ := hcs
    refine bytes_of _ _ fun j hj => ?_
    simp at hm
    obtain ⟨hc, ht⟩ := hV j (by omega)
    obtain ⟨v, e, _, wv⟩ := DataW.trod_int Tryz.underlying5 ht
    simp at e
    rw [e] at hc
    have hb : 0 ≤ v ∧ v ≤ 255 := by simpa [Lit.wf, IntKind.min, IntKind.max, IntKind.signed, IntKind.bits] using wv
    obtain ⟨p', o', sp⟩ := a'
    cases sp with
    | some q =>
      exfalso
      have h0 := (hV 0 (by omega)).1
      rw [show Addr.add ⟨p', o', some q⟩ 0 = ⟨p', o', some q⟩ from rfl] at h0
      unfold World.cell? at h0
      split at h0
      · simp at h0
      · cases h0
    | none =>
      have hc' : W.cell? ⟨p', o' + j, none⟩ = some (.int .u8 v) := by
        cases j with
        | zero => simpa [Addr.add] using hc
        | succ i => simpa [Addr.add] using hc
      exact ⟨p', o', v, rfl, World.block_lt_of_cell? W _ hc', hc', hb.1, hb.2⟩

end Go.Proofs.YtnchndcanhmbeaaGreatDoor
namespace Go.Proofs.YtnchndcanhmbeaaGreatDoor
open Go.ChangeShapes Go.WideShapes Go.ChangeAt Go.RowKit Go.Joins Go.Deep

theorem ownT : ownKnob Tryz.prog.godebug = none := by kernel_rfl
theorem g64 : Tryz.prog.globalNamed "math/bits.deBruijn64tab" = some 2 := by kernel_rfl

theorem bigW {W : World} (h : W.ShapedOpen Tryz.prog) : 4 ≤ W.heap.size := by
  obtain ⟨o, _, ho, _⟩ := h.2 4 (of_decide_eq_true (by kernel_rfl)) (of_decide_eq_true (by kernel_rfl))
  have := (Array.getElem?_eq_some_iff.mp ho).1
  omega

/-- What the row's list gives: the tables' cells. -/
theorem tabs {W : World} (h : laidMetH Tryz.prog Rows.fnExactGetCommandRow.laid W) (hO : W.ShapedOpen Tryz.prog) : Tabs W := by
  have h1 := h.filter (fun x => x.1 == "internal/strconv.uint64pow10")
  have h2 := h.filter (fun x => x.1 == "math/bits.deBruijn64tab")
  have e1 : (Rows.fnExactGetCommandRow.laid.filter fun x => x.1 == "internal/strconv.uint64pow10") = [("internal/strconv.uint64pow10", Rows.laid_internal_strconv_uint64pow10)] := by kernel_rfl
  have e2 : (Rows.fnExactGetCommandRow.laid.filter fun x => x.1 == "math/bits.deBruijn64tab") = [("math/bits.deBruijn64tab", Rows.laid_math_bits_deBruijn64tab)] := by kernel_rfl
  rw [e1] at h1
  rw [e2] at h2
  have t1 : Lib.TabIs Tryz.prog W "internal/strconv.uint64pow10" .u64 Lib.pow10Tab :=
    Lib.tabIs_of_head (rest := []) gpow (by kernel_rfl) Tryz.underlying182 Tryz.underlying77 (by kernel_rfl) (by kernel_rfl) h1
  have t2 : Lib.TabIs Tryz.prog W "math/bits.deBruijn64tab" .u8 [0, 1, 56, 2, 57, 49, 28, 3, 61, 58, 42, 50, 38, 29, 17, 4, 62, 47, 59, 36, 45, 43, 51, 22, 53, 39, 33, 30, 24, 18, 12, 5, 63, 55, 48, 27, 60, 41, 37, 16, 46, 35, 44, 21, 52, 32, 23, 11, 54, 26, 40, 15, 34, 20, 31, 10, 25, 14, 19, 9, 13, 8, 7, 6] :=
    Lib.tabIs_of_head (rest := []) g64 (by kernel_rfl) Tryz.underlying192 Tryz.underlying5 (by kernel_rfl) (by kernel_rfl) h2
  have c : W.cell? ⟨2, 15, none⟩ = some (.int .u8 4) := t2.cell g64 15 (by decide)
  exact ⟨t1, c, bigW hO⟩

theorem Tryz.laidOutV : laidOutB Tryz.prog = true := by kernel_rfl
set_option maxRecDepth 100000 in
theorem contractT (H : Type) (enc : TypeId × Value → H) (W : World) (base : Nat) (args : Array Value) (ds gs : List (DataW H)) (before : List MemPlace)
    (hval : ∀ (j : Nat) t v, Tryz.f4.params[j]? = some t → args[j]? = some v → Value.okWide Tryz.prog W .any base t v)
    (hW : DataW.Whole enc Tryz.prog Tryz.f4.params.toList Rows.fnExactGetCommandSpec.vars false W args.toList ds gs before) (hL' : laidMetH Tryz.prog Rows.fnExactGetCommandRow.laid W) (hO : W.ShapedOpen Tryz.prog) :
    Calls Tryz.prog 4 args W fun e W' => ∃ v, e = .returned v ∧ Rows.fnExactGetCommandSpec.post enc Tryz.prog Tryz.f4 false true false false W args v W' := by
  have hW' := hW
  obtain ⟨p, q, hA0, hV, rfl, _, _⟩ := hW
  have hA : DataW.TrodAll enc Tryz.prog W 0 (fun _ => true) true Tryz.f4.params.toList args.toList ds p := hA0
  rw [Tryz.params4] at hA hval
  obtain ⟨v0, d0, rfl, rfl, h0⟩ := trodAll_one hA
  obtain ⟨rfl, rfl⟩ := trodVars_none hV
  obtain ⟨a0, len0, cap0, rfl⟩ := okWide_slice Tryz.underlying29 (hval 0 29 v0 rfl rfl)
  obtain ⟨zs, rfl, ho, hB⟩ := byt_open h0
  clear hA0
  simp only [List.append_nil] at hW'
  have hlt : ∀ x ∈ p, x.block < W.heap.size := fun x hx => by simpa using hW'.lt x hx
  refine (lawGetCmd a0 cap0 zs W hB ho (tabs hL' hO)).mono fun e W' ⟨he, hb⟩ => ?_
  subst he
  exact ⟨_, rfl, ⟨_, _, _, [], p, [], hW', trodAll_mk1 (shut_bool Tryz.underlying4 true), trodAll_mk1 (Below.trod Tryz.laidOutV (by kernel_rfl) (of_decide_eq_true (by kernel_rfl)) h0 hb hlt), rfl, hb.frame _, fun h => by cases h⟩⟩

/-- A block of cells laid anew. -/
def layAs (cs : Array Value) : Obj → Obj
  | .cells _ t frozen => .cells cs t frozen
  | o => o
/-- A world for the witness: the settled one, the tables holding what their initialisers lay. -/
noncomputable def laidWorld (os : Os) : World :=
  { World.holding Tryz.prog os ⟨#[], #[], []⟩ with heap := (((World.holding Tryz.prog os ⟨#[], #[], []⟩).heap.modify 1 (layAs #[.int .u8 0, .int .u8 1, .int .u8 28, .int .u8 2, .int .u8 29, .int .u8 14, .int .u8 24, .int .u8 3, .int .u8 30, .int .u8 22, .int .u8 20, .int .u8 15, .int .u8 25, .int .u8 17, .int .u8 4, .int .u8 8, .int .u8 31, .int .u8 27, .int .u8 13, .int .u8 23, .int .u8 21, .int .u8 19, .int .u8 16, .int .u8 7, .int .u8 26, .int .u8 12, .int .u8 18, .int .u8 6, .int .u8 11, .int .u8 5, .int .u8 10, .int .u8 9])).modify 2 (layAs #[.int .u8 0, .int .u8 1, .int .u8 56, .int .u8 2, .int .u8 57, .int .u8 49, .int .u8 28, .int .u8 3, .int .u8 61, .int .u8 58, .int .u8 42, .int .u8 50, .int .u8 38, .int .u8 29, .int .u8 17, .int .u8 4, .int .u8 62, .int .u8 47, .int .u8 59, .int .u8 36, .int .u8 45, .int .u8 43, .int .u8 51, .int .u8 22, .int .u8 53, .int .u8 39, .int .u8 33, .int .u8 30, .int .u8 24, .int .u8 18, .int .u8 12, .int .u8 5, .int .u8 63, .int .u8 55, .int .u8 48, .int .u8 27, .int .u8 60, .int .u8 41, .int .u8 37, .int .u8 16, .int .u8 46, .int .u8 35, .int .u8 44, .int .u8 21, .int .u8 52, .int .u8 32, .int .u8 23, .int .u8 11, .int .u8 54, .int .u8 26, .int .u8 40, .int .u8 15, .int .u8 34, .int .u8 20, .int .u8 31, .int .u8 10, .int .u8 25, .int .u8 14, .int .u8 19, .int .u8 9, .int .u8 13, .int .u8 8, .int .u8 7, .int .u8 6])).modify 0 (layAs #[.int .u64 1, .int .u64 10, .int .u64 100, .int .u64 1000, .int .u64 10000, .int .u64 100000, .int .u64 1000000, .int .u64 10000000, .int .u64 100000000, .int .u64 1000000000, .int .u64 10000000000, .int .u64 100000000000, .int .u64 1000000000000, .int .u64 10000000000000, .int .u64 100000000000000, .int .u64 1000000000000000, .int .u64 10000000000000000, .int .u64 100000000000000000, .int .u64 1000000000000000000, .int .u64 10000000000000000000]) }
theorem laid_met (os : Os) : laidMet Tryz.prog Rows.fnExactGetCommandRow.laid ((laidWorld os).forCall (fun _ _ => 0) ⟨#[], #[.slice none 0 0], []⟩).memory :=
  laidMet_of_run' 8 (by kernel_rfl) (by kernel_rfl)
theorem reads (os : Os) {H : Type} (enc : TypeId × Value → H) : ∃ places, DataW.whole enc Tryz.prog ((laidWorld os).forCall (fun _ _ => 0) ⟨#[], #[.slice none 0 0], []⟩).memory Tryz.f4.params.toList Rows.fnExactGetCommandSpec.vars false (#[.slice none 0 0] : Array Value).toList 8 = some ([.nil], [], places) :=
  ⟨[], by kernel_rfl⟩

set_option maxRecDepth 100000 in
theorem liftedT (os : Os) (started : os.Started) (H : Type) (enc : TypeId × Value → H) (F : Stop.Interp) :
    ReturnsInHanded {} Tryz.checked os 4 .any ((OpenSpec.ofChange Rows.fnExactGetCommandSpec).preRow enc Tryz.prog Tryz.f4 Rows.fnExactGetCommandRow.domain false Rows.fnExactGetCommandRow.laid) (((OpenSpec.ofChange Rows.fnExactGetCommandSpec).at F).post enc Tryz.prog Tryz.f4 false true false false) := by
  obtain ⟨places, hx⟩ := reads os enc
  refine returnsInHanded_of_row (C := Tryz.checked) (s := OpenSpec.ofChange Rows.fnExactGetCommandSpec) ownT started (by kernel_rfl) Tryz.func4
    (witness_row_at (enc := enc) (C := Tryz.checked) false (laidWorld os) #[.slice none 0 0] rfl (by kernel_rfl) (by kernel_rfl) (by kernel_rfl)
      (OpenSpec.preRow_of_cond 8 hx (by kernel_rfl) (fun k hk => by cases hk) (by kernel_rfl) (laid_met os))) ?_
  intro W base args ds gs before hval hW _ _ _ hL hO _
  exact contractT H enc W base args ds gs before hval hW hL hO

theorem saidT : Rows.FnExactGetCommandSaid :=
  OpenClaim.holds_of_cond 4 Tryz.f4 rfl rfl rfl rfl rfl rfl rfl ⟨rfl, rfl, rfl, rfl, rfl⟩ rfl rfl rfl rfl rfl (by kernel_rfl) Tryz.func4 (by kernel_rfl)
    (of_decide_eq_true (by kernel_rfl)) (by unfold Func.isWrapper; rw [if_neg (of_decide_eq_false (by kernel_rfl))]; exact ⟨rfl, rfl⟩)
    (fun os started H enc _ F => by rw [OpenClaim.pre_eq_preRow]; exact liftedT os started H enc F)

theorem plainT (f : FuncId) (fn : Func) (hf : Tryz.pinned.checked.prog.funcNamed "loop.example/g00113/laws.FnExactGetCommand" = some f) (hfn : Tryz.pinned.checked.prog.funcs[f]? = some fn) :
    true = Tryz.pinned.checked.prog.looks [] ∧ ∀ (j : Nat) t, fn.params[j]? = some t → Tryz.pinned.checked.prog.wantsStandIn t = false := by
  obtain rfl : f = 4 := Option.some.inj ((show Tryz.prog.funcNamed "loop.example/g00113/laws.FnExactGetCommand" = some 4 by kernel_rfl).symm.trans hf) |>.symm
  obtain rfl : fn = Tryz.f4 := (Option.some.inj (Tryz.func4.symm.trans hfn)).symm
  refine ⟨by kernel_rfl, fun j t ht => ?_⟩
  rw [Tryz.params4] at ht
  obtain rfl : t = 29 := by simpa using Array.mem_of_getElem? ht
  exact (show Tryz.prog.wantsStandIn 29 = false by kernel_rfl)

theorem getCommand_card : Rows.FnExactGetCommandCardSaid :=
  Claim7.holds_tied_plain_at .later [] _ _ _ _ saidT (fun _ h => by cases h) (by kernel_rfl) (fun _ h => by cases h) fnExactGetCommand_row_tie rfl ⟨rfl, rfl⟩ (by kernel_rfl) rfl plainT (by kernel_rfl)

end Go.Proofs.YtnchndcanhmbeaaGreatDoor
