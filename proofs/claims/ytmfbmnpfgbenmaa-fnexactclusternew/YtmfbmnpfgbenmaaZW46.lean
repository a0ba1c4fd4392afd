/-
  The functions that look for marks.
-/
import Derived.Test.YtmfbmnpfgbenmaaZW40
import Derived.Test.YtmfbmnpfgbenmaaZW37
namespace Go.Proofs.Ytmfbmnpfgbenmaa
open Go.ChangeShapes Go.WideShapes Go.RowKit

set_option maxRecDepth 10000 in
set_option maxHeartbeats 4000000 in
theorem hdPoolS_c : HdF Try.prog mPoolS v1 80 := by
  rintro us xs w k ⟨o, c, rfl, _, _⟩ hby h1 hk
  have hby : xs = [] := hby
  subst hby
  refine calls_of_wp Try.func80 rfl ?_
  have e : k + ((mPoolS.cntV [] : Nat) : Int) = k := by show k + ((0 : Nat) : Int) = k; omega
  rw [e]
  exact row_none rfl (by decide) rfl (by kernel_rfl) ⟨rfl, Below.refl _ w⟩
set_option maxRecDepth 10000 in
set_option maxHeartbeats 4000000 in
theorem hdBlockS_c : HdF Try.prog mBlockS v1 81 := by
  rintro us xs w k ⟨o, c, rfl, _, _⟩ hby h1 hk
  have hby : xs = [] := hby
  subst hby
  refine calls_of_wp Try.func81 rfl ?_
  have e : k + ((mBlockS.cntV [] : Nat) : Int) = k := by show k + ((0 : Nat) : Int) = k; omega
  rw [e]
  exact row_none rfl (by decide) rfl (by kernel_rfl) ⟨rfl, Below.refl _ w⟩
set_option maxRecDepth 10000 in
set_option maxHeartbeats 4000000 in
theorem hdLeaseS_c : HdF Try.prog mLeaseS v1 82 := by
  rintro us xs w k ⟨o, c, rfl, _, _⟩ hby h1 hk
  have hby : xs = [] := hby
  subst hby
  refine calls_of_wp Try.func82 rfl ?_
  have e : k + ((mLeaseS.cntV [] : Nat) : Int) = k := by show k + ((0 : Nat) : Int) = k; omega
  rw [e]
  exact row_none rfl (by decide) rfl (by kernel_rfl) ⟨rfl, Below.refl _ w⟩
set_option maxRecDepth 10000 in
set_option maxHeartbeats 4000000 in
theorem hdSessionS_c : HdF Try.prog mSessionS v1 83 := by
  rintro us xs w k ⟨o, c, rfl, _, _⟩ hby h1 hk
  have hby : xs = [] := hby
  subst hby
  refine calls_of_wp Try.func83 rfl ?_
  have e : k + ((mSessionS.cntV [] : Nat) : Int) = k := by show k + ((0 : Nat) : Int) = k; omega
  rw [e]
  exact row_none rfl (by decide) rfl (by kernel_rfl) ⟨rfl, Below.refl _ w⟩
set_option maxRecDepth 10000 in
set_option maxHeartbeats 4000000 in
theorem hdReplicaS_c : HdF Try.prog mReplicaS v1 41 := by
  intro us xs w k hrep hby h1 hk
  have hl : xs.length < 9223372036854775807 := mRow_len (T := mReplica) (fun x => Nat.le_trans (Nat.le_trans (Nat.le_trans (Nat.le_trans (Nat.le_trans (Nat.le_trans (Nat.le_trans (Nat.le_trans (Nat.le_trans (Nat.le_trans (Nat.le_trans (Nat.le_trans (Nat.le_trans (Nat.le_trans (Nat.le_add_left 1 0) (Nat.le_add_right _ _)) (Nat.le_add_right _ _)) (Nat.le_add_right _ _)) (Nat.le_add_right _ _)) (Nat.le_add_right _ _)) (Nat.le_add_right _ _)) (Nat.le_add_right _ _)) (Nat.le_add_right _ _)) (Nat.le_add_right _ _)) (Nat.le_add_left _ 0)) (Nat.le_add_right _ _)) (Nat.le_add_right _ _)) (Nat.le_add_right _ _)) (Nat.le_add_right _ _)) (by have h9 : mReplicaS.cntV xs = psum mReplica.cntF xs xs.length := rfl; omega)
  refine calls_of_wp Try.func41 rfl ?_
  refine row_held (T := mReplica) rfl (by decide) rfl (by kernel_rfl) hrep hby h1 hk hl ?_
  clear hrep hby h1 hk hl
  intro a W p o n c i x k S hi H h1 hk Q' kc
  have Ha : HdE mReplica W p (o + i * 43) x k := H
  clear H
  have z0 : 1 ≤ k := h1
  have B : Below W.heap.size W W := Below.refl _ W
  obtain ⟨⟨⟨⟨⟨ya, xa0⟩, xa1⟩, xa2⟩, xa3⟩, xa4⟩ := x
  obtain rfl : ya = () := rfl
  have ea5 : (mTwo (mTwo (mTwo (mTwo (mTwo mNil mServer) mState) mInt) mFile) mBool).cntF ((((((), xa0), xa1), xa2), xa3), xa4) ≤ mReplica.cntF ((((((), xa0), xa1), xa2), xa3), xa4) := Nat.le_refl _
  have ea4 : (mTwo (mTwo (mTwo (mTwo mNil mServer) mState) mInt) mFile).cntF (((((), xa0), xa1), xa2), xa3) ≤ mReplica.cntF ((((((), xa0), xa1), xa2), xa3), xa4) := Nat.le_trans (Nat.le_add_right _ _) ea5
  have ea3 : (mTwo (mTwo (mTwo mNil mServer) mState) mInt).cntF ((((), xa0), xa1), xa2) ≤ mReplica.cntF ((((((), xa0), xa1), xa2), xa3), xa4) := Nat.le_trans (Nat.le_add_right _ _) ea4
  have ea2 : (mTwo (mTwo mNil mServer) mState).cntF (((), xa0), xa1) ≤ mReplica.cntF ((((((), xa0), xa1), xa2), xa3), xa4) := Nat.le_trans (Nat.le_add_right _ _) ea3
  have ea1 : (mTwo mNil mServer).cntF ((), xa0) ≤ mReplica.cntF ((((((), xa0), xa1), xa2), xa3), xa4) := Nat.le_trans (Nat.le_add_right _ _) ea2
  have ea0 : mNil.cntF () ≤ mReplica.cntF ((((((), xa0), xa1), xa2), xa3), xa4) := Nat.le_trans (Nat.le_add_right _ _) ea1
  have hbaa_ := bnd_in (A := mNil) (T := mServer) (x := ()) (b := xa0) hk ea1
  have zaa_ := one_in (A := mNil) (x := ()) z0
  have hbab_ := bnd_in (A := (mTwo mNil mServer)) (T := mState) (x := ((), xa0)) (b := xa1) hk ea2
  have zab_ := one_in (A := (mTwo mNil mServer)) (x := ((), xa0)) z0
  have hbad_ := bnd_in (A := (mTwo (mTwo (mTwo mNil mServer) mState) mInt)) (T := mFile) (x := ((((), xa0), xa1), xa2)) (b := xa3) hk ea4
  have zad_ := one_in (A := (mTwo (mTwo (mTwo mNil mServer) mState) mInt)) (x := ((((), xa0), xa1), xa2)) z0
  obtain ⟨Ha, ga4⟩ := hdTwo (m := 42) rfl Ha
  obtain ⟨Ha, ga3⟩ := hdTwo (m := 40) rfl Ha
  obtain ⟨Ha, ga2⟩ := hdTwo (m := 39) rfl Ha
  obtain ⟨Ha, ga1⟩ := hdTwo (m := 31) rfl Ha
  obtain ⟨Ha, ga0⟩ := hdTwo (m := 0) rfl Ha
  replace S := S.nil
  have Haa_ := ga0
  obtain ⟨⟨⟨⟨⟨⟨⟨⟨⟨⟨yaa_, xaa_0⟩, xaa_1⟩, xaa_2⟩, xaa_3⟩, xaa_4⟩, xaa_5⟩, xaa_6⟩, xaa_7⟩, xaa_8⟩, xaa_9⟩ := xa0
  obtain rfl : yaa_ = () := rfl
  have eaa_10 : (mTwo (mTwo (mTwo (mTwo (mTwo (mTwo (mTwo (mTwo (mTwo (mTwo mNil mInt) mKeep) mInt) mInt) mInt) mIntS) (mArr 8)) (mArr 8)) mInt) mInt).cntF (((((((((((), xaa_0), xaa_1), xaa_2), xaa_3), xaa_4), xaa_5), xaa_6), xaa_7), xaa_8), xaa_9) ≤ mServer.cntF (((((((((((), xaa_0), xaa_1), xaa_2), xaa_3), xaa_4), xaa_5), xaa_6), xaa_7), xaa_8), xaa_9) := Nat.le_refl _
  have eaa_9 : (mTwo (mTwo (mTwo (mTwo (mTwo (mTwo (mTwo (mTwo (mTwo mNil mInt) mKeep) mInt) mInt) mInt) mIntS) (mArr 8)) (mArr 8)) mInt).cntF ((((((((((), xaa_0), xaa_1), xaa_2), xaa_3), xaa_4), xaa_5), xaa_6), xaa_7), xaa_8) ≤ mServer.cntF (((((((((((), xaa_0), xaa_1), xaa_2), xaa_3), xaa_4), xaa_5), xaa_6), xaa_7), xaa_8), xaa_9) := Nat.le_trans (Nat.le_add_right _ _) eaa_10
  have eaa_8 : (mTwo (mTwo (mTwo (mTwo (mTwo (mTwo (mTwo (mTwo mNil mInt) mKeep) mInt) mInt) mInt) mIntS) (mArr 8)) (mArr 8)).cntF (((((((((), xaa_0), xaa_1), xaa_2), xaa_3), xaa_4), xaa_5), xaa_6), xaa_7) ≤ mServer.cntF (((((((((((), xaa_0), xaa_1), xaa_2), xaa_3), xaa_4), xaa_5), xaa_6), xaa_7), xaa_8), xaa_9) := Nat.le_trans (Nat.le_add_right _ _) eaa_9
  have eaa_7 : (mTwo (mTwo (mTwo (mTwo (mTwo (mTwo (mTwo mNil mInt) mKeep) mInt) mInt) mInt) mIntS) (mArr 8)).cntF ((((((((), xaa_0), xaa_1), xaa_2), xaa_3), xaa_4), xaa_5), xaa_6) ≤ mServer.cntF (((((((((((), xaa_0), xaa_1), xaa_2), xaa_3), xaa_4), xaa_5), xaa_6), xaa_7), xaa_8), xaa_9) := Nat.le_trans (Nat.le_add_right _ _) eaa_8
  have eaa_6 : (mTwo (mTwo (mTwo (mTwo (mTwo (mTwo mNil mInt) mKeep) mInt) mInt) mInt) mIntS).cntF (((((((), xaa_0), xaa_1), xaa_2), xaa_3), xaa_4), xaa_5) ≤ mServer.cntF (((((((((((), xaa_0), xaa_1), xaa_2), xaa_3), xaa_4), xaa_5), xaa_6), xaa_7), xaa_8), xaa_9) := Nat.le_trans (Nat.le_add_right _ _) eaa_7
  have eaa_5 : (mTwo (mTwo (mTwo (mTwo (mTwo mNil mInt) mKeep) mInt) mInt) mInt).cntF ((((((), xaa_0), xaa_1), xaa_2), xaa_3), xaa_4) ≤ mServer.cntF (((((((((((), xaa_0), xaa_1), xaa_2), xaa_3), xaa_4), xaa_5), xaa_6), xaa_7), xaa_8), xaa_9) := Nat.le_trans (Nat.le_add_right _ _) eaa_6
  have eaa_4 : (mTwo (mTwo (mTwo (mTwo mNil mInt) mKeep) mInt) mInt).cntF (((((), xaa_0), xaa_1), xaa_2), xaa_3) ≤ mServer.cntF (((((((((((), xaa_0), xaa_1), xaa_2), xaa_3), xaa_4), xaa_5), xaa_6), xaa_7), xaa_8), xaa_9) := Nat.le_trans (Nat.le_add_right _ _) eaa_5
  have eaa_3 : (mTwo (mTwo (mTwo mNil mInt) mKeep) mInt).cntF ((((), xaa_0), xaa_1), xaa_2) ≤ mServer.cntF (((((((((((), xaa_0), xaa_1), xaa_2), xaa_3), xaa_4), xaa_5), xaa_6), xaa_7), xaa_8), xaa_9) := Nat.le_trans (Nat.le_add_right _ _) eaa_4
  have eaa_2 : (mTwo (mTwo mNil mInt) mKeep).cntF (((), xaa_0), xaa_1) ≤ mServer.cntF (((((((((((), xaa_0), xaa_1), xaa_2), xaa_3), xaa_4), xaa_5), xaa_6), xaa_7), xaa_8), xaa_9) := Nat.le_trans (Nat.le_add_right _ _) eaa_3
  have eaa_1 : (mTwo mNil mInt).cntF ((), xaa_0) ≤ mServer.cntF (((((((((((), xaa_0), xaa_1), xaa_2), xaa_3), xaa_4), xaa_5), xaa_6), xaa_7), xaa_8), xaa_9) := Nat.le_trans (Nat.le_add_right _ _) eaa_2
  have eaa_0 : mNil.cntF () ≤ mServer.cntF (((((((((((), xaa_0), xaa_1), xaa_2), xaa_3), xaa_4), xaa_5), xaa_6), xaa_7), xaa_8), xaa_9) := Nat.le_trans (Nat.le_add_right _ _) eaa_1
  have hbaa_b_ := bnd_in (A := (mTwo mNil mInt)) (T := mKeep) (x := ((), xaa_0)) (b := xaa_1) hbaa_ eaa_2
  have zaa_b_ := one_in (A := (mTwo mNil mInt)) (x := ((), xaa_0)) zaa_
  obtain ⟨Haa_, gaa_9⟩ := hdTwo (m := 30) rfl Haa_
  obtain ⟨Haa_, gaa_8⟩ := hdTwo (m := 29) rfl Haa_
  obtain ⟨Haa_, gaa_7⟩ := hdTwo (m := 21) rfl Haa_
  obtain ⟨Haa_, gaa_6⟩ := hdTwo (m := 13) rfl Haa_
  obtain ⟨Haa_, gaa_5⟩ := hdTwo (m := 12) rfl Haa_
  obtain ⟨Haa_, gaa_4⟩ := hdTwo (m := 11) rfl Haa_
  obtain ⟨Haa_, gaa_3⟩ := hdTwo (m := 10) rfl Haa_
  obtain ⟨Haa_, gaa_2⟩ := hdTwo (m := 9) rfl Haa_
  obtain ⟨Haa_, gaa_1⟩ := hdTwo (m := 1) rfl Haa_
  obtain ⟨Haa_, gaa_0⟩ := hdTwo (m := 0) rfl Haa_
  replace S := S.nil
  refine wp_seq (hd_i2 (l0 := 0) (l1 := 0) (K := 43) (eA := 76) S (gaa_0.lat B) (by decide) (by kernel_rfl) (by kernel_rfl) (by kernel_rfl) (by kernel_rfl) ⟨by kernel_rfl, by kernel_rfl⟩ hi (by decide) rfl ?_)
  intro a S
  refine wp_seq (hd_nx mInt xaa_0 S rfl zaa_ (bnd0 hbaa_ eaa_0) (by decide) (by decide) ?_)
  intro a S
  have Haa_b_ := gaa_1
  obtain ⟨⟨⟨⟨⟨⟨⟨yaa_b_, xaa_b_0⟩, xaa_b_1⟩, xaa_b_2⟩, xaa_b_3⟩, xaa_b_4⟩, xaa_b_5⟩, xaa_b_6⟩ := xaa_1
  obtain rfl : yaa_b_ = () := rfl
  have eaa_b_7 : (mTwo (mTwo (mTwo (mTwo (mTwo (mTwo (mTwo mNil mInt) mInt) mInt) mInt) mGroup) mByteS) mEntryS).cntF ((((((((), xaa_b_0), xaa_b_1), xaa_b_2), xaa_b_3), xaa_b_4), xaa_b_5), xaa_b_6) ≤ mKeep.cntF ((((((((), xaa_b_0), xaa_b_1), xaa_b_2), xaa_b_3), xaa_b_4), xaa_b_5), xaa_b_6) := Nat.le_refl _
  have eaa_b_6 : (mTwo (mTwo (mTwo (mTwo (mTwo (mTwo mNil mInt) mInt) mInt) mInt) mGroup) mByteS).cntF (((((((), xaa_b_0), xaa_b_1), xaa_b_2), xaa_b_3), xaa_b_4), xaa_b_5) ≤ mKeep.cntF ((((((((), xaa_b_0), xaa_b_1), xaa_b_2), xaa_b_3), xaa_b_4), xaa_b_5), xaa_b_6) := Nat.le_trans (Nat.le_add_right _ _) eaa_b_7
  have eaa_b_5 : (mTwo (mTwo (mTwo (mTwo (mTwo mNil mInt) mInt) mInt) mInt) mGroup).cntF ((((((), xaa_b_0), xaa_b_1), xaa_b_2), xaa_b_3), xaa_b_4) ≤ mKeep.cntF ((((((((), xaa_b_0), xaa_b_1), xaa_b_2), xaa_b_3), xaa_b_4), xaa_b_5), xaa_b_6) := Nat.le_trans (Nat.le_add_right _ _) eaa_b_6
  have eaa_b_4 : (mTwo (mTwo (mTwo (mTwo mNil mInt) mInt) mInt) mInt).cntF (((((), xaa_b_0), xaa_b_1), xaa_b_2), xaa_b_3) ≤ mKeep.cntF ((((((((), xaa_b_0), xaa_b_1), xaa_b_2), xaa_b_3), xaa_b_4), xaa_b_5), xaa_b_6) := Nat.le_trans (Nat.le_add_right _ _) eaa_b_5
  have eaa_b_3 : (mTwo (mTwo (mTwo mNil mInt) mInt) mInt).cntF ((((), xaa_b_0), xaa_b_1), xaa_b_2) ≤ mKeep.cntF ((((((((), xaa_b_0), xaa_b_1), xaa_b_2), xaa_b_3), xaa_b_4), xaa_b_5), xaa_b_6) := Nat.le_trans (Nat.le_add_right _ _) eaa_b_4
  have eaa_b_2 : (mTwo (mTwo mNil mInt) mInt).cntF (((), xaa_b_0), xaa_b_1) ≤ mKeep.cntF ((((((((), xaa_b_0), xaa_b_1), xaa_b_2), xaa_b_3), xaa_b_4), xaa_b_5), xaa_b_6) := Nat.le_trans (Nat.le_add_right _ _) eaa_b_3
  have eaa_b_1 : (mTwo mNil mInt).cntF ((), xaa_b_0) ≤ mKeep.cntF ((((((((), xaa_b_0), xaa_b_1), xaa_b_2), xaa_b_3), xaa_b_4), xaa_b_5), xaa_b_6) := Nat.le_trans (Nat.le_add_right _ _) eaa_b_2
  have eaa_b_0 : mNil.cntF () ≤ mKeep.cntF ((((((((), xaa_b_0), xaa_b_1), xaa_b_2), xaa_b_3), xaa_b_4), xaa_b_5), xaa_b_6) := Nat.le_trans (Nat.le_add_right _ _) eaa_b_1
  have hbaa_b_e_ := bnd_in (A := (mTwo (mTwo (mTwo (mTwo mNil mInt) mInt) mInt) mInt)) (T := mGroup) (x := (((((), xaa_b_0), xaa_b_1), xaa_b_2), xaa_b_3)) (b := xaa_b_4) hbaa_b_ eaa_b_5
  have zaa_b_e_ := one_in (A := (mTwo (mTwo (mTwo (mTwo mNil mInt) mInt) mInt) mInt)) (x := (((((), xaa_b_0), xaa_b_1), xaa_b_2), xaa_b_3)) zaa_b_
  obtain ⟨Haa_b_, gaa_b_6⟩ := hdTwo (m := 7) rfl Haa_b_
  obtain ⟨Haa_b_, gaa_b_5⟩ := hdTwo (m := 6) rfl Haa_b_
  obtain ⟨Haa_b_, gaa_b_4⟩ := hdTwo (m := 4) rfl Haa_b_
  obtain ⟨Haa_b_, gaa_b_3⟩ := hdTwo (m := 3) rfl Haa_b_
  obtain ⟨Haa_b_, gaa_b_2⟩ := hdTwo (m := 2) rfl Haa_b_
  obtain ⟨Haa_b_, gaa_b_1⟩ := hdTwo (m := 1) rfl Haa_b_
  obtain ⟨Haa_b_, gaa_b_0⟩ := hdTwo (m := 0) rfl Haa_b_
  replace S := S.nil
  refine wp_seq (hd_i3 (l0 := 0) (l1 := 1) (l2 := 0) (K := 43) (eA := 76) S (gaa_b_0.lat B) (by decide) (by kernel_rfl) (by kernel_rfl) (by kernel_rfl) (by kernel_rfl) (by kernel_rfl) ⟨by kernel_rfl, by kernel_rfl⟩ hi (by decide) rfl ?_)
  intro a S
  refine wp_seq (hd_nx mInt xaa_b_0 S rfl zaa_b_ (bnd0 hbaa_b_ eaa_b_0) (by decide) (by decide) ?_)
  intro a S
  refine wp_seq (hd_i3 (l0 := 0) (l1 := 1) (l2 := 1) (K := 43) (eA := 76) S (gaa_b_1.lat B) (by decide) (by kernel_rfl) (by kernel_rfl) (by kernel_rfl) (by kernel_rfl) (by kernel_rfl) ⟨by kernel_rfl, by kernel_rfl⟩ hi (by decide) rfl ?_)
  intro a S
  refine wp_seq (hd_nx mInt xaa_b_1 S rfl zaa_b_ (bnd0 hbaa_b_ eaa_b_1) (by decide) (by decide) ?_)
  intro a S
  refine wp_seq (hd_i3 (l0 := 0) (l1 := 1) (l2 := 2) (K := 43) (eA := 76) S (gaa_b_2.lat B) (by decide) (by kernel_rfl) (by kernel_rfl) (by kernel_rfl) (by kernel_rfl) (by kernel_rfl) ⟨by kernel_rfl, by kernel_rfl⟩ hi (by decide) rfl ?_)
  intro a S
  refine wp_seq (hd_nx mInt xaa_b_2 S rfl zaa_b_ (bnd0 hbaa_b_ eaa_b_2) (by decide) (by decide) ?_)
  intro a S
  refine wp_seq (hd_i3 (l0 := 0) (l1 := 1) (l2 := 3) (K := 43) (eA := 76) S (gaa_b_3.lat B) (by decide) (by kernel_rfl) (by kernel_rfl) (by kernel_rfl) (by kernel_rfl) (by kernel_rfl) ⟨by kernel_rfl, by kernel_rfl⟩ hi (by decide) rfl ?_)
  intro a S
  refine wp_seq (hd_nx mInt xaa_b_3 S rfl zaa_b_ (bnd0 hbaa_b_ eaa_b_3) (by decide) (by decide) ?_)
  intro a S
  have Haa_b_e_ := gaa_b_4
  obtain ⟨⟨yaa_b_e_, xaa_b_e_0⟩, xaa_b_e_1⟩ := xaa_b_4
  obtain rfl : yaa_b_e_ = () := rfl
  have eaa_b_e_2 : (mTwo (mTwo mNil mIntS) mIntS).cntF (((), xaa_b_e_0), xaa_b_e_1) ≤ mGroup.cntF (((), xaa_b_e_0), xaa_b_e_1) := Nat.le_refl _
  have eaa_b_e_1 : (mTwo mNil mIntS).cntF ((), xaa_b_e_0) ≤ mGroup.cntF (((), xaa_b_e_0), xaa_b_e_1) := Nat.le_trans (Nat.le_add_right _ _) eaa_b_e_2
  have eaa_b_e_0 : mNil.cntF () ≤ mGroup.cntF (((), xaa_b_e_0), xaa_b_e_1) := Nat.le_trans (Nat.le_add_right _ _) eaa_b_e_1
  obtain ⟨Haa_b_e_, gaa_b_e_1⟩ := hdTwo (m := 1) rfl Haa_b_e_
  obtain ⟨Haa_b_e_, gaa_b_e_0⟩ := hdTwo (m := 0) rfl Haa_b_e_
  replace S := S.nil
  refine wp_seq (hd_c4 (l0 := 0) (l1 := 1) (l2 := 4) (l3 := 0) (K := 43) (eA := 76) (T := mIntS) (b := xaa_b_e_0) S (gaa_b_e_0.lat B) (by decide) (by kernel_rfl) (by kernel_rfl) (by kernel_rfl) (by kernel_rfl) (by kernel_rfl) (by kernel_rfl) ⟨by kernel_rfl, by kernel_rfl⟩ hi (by decide) rfl rfl (fun _ => rfl) (fun _ _ h => h) ⟨_, Try.func78, by kernel_rfl, by kernel_rfl⟩ hdIntS_c (one_in zaa_b_e_) (bnd_in (T := mIntS) hbaa_b_e_ eaa_b_e_1) ?_)
  intro a W S B2
  replace B := B.trans (B2.mono B.size)
  clear B2
  replace S := S.two
  refine wp_seq (hd_chk S (by decide) (by decide) (z_in zaa_b_e_) ?_)
  intro a S
  refine wp_seq (hd_c4 (l0 := 0) (l1 := 1) (l2 := 4) (l3 := 1) (K := 43) (eA := 76) (T := mIntS) (b := xaa_b_e_1) S (gaa_b_e_1.lat B) (by decide) (by kernel_rfl) (by kernel_rfl) (by kernel_rfl) (by kernel_rfl) (by kernel_rfl) (by kernel_rfl) ⟨by kernel_rfl, by kernel_rfl⟩ hi (by decide) rfl rfl (fun _ => rfl) (fun _ _ h => h) ⟨_, Try.func78, by kernel_rfl, by kernel_rfl⟩ hdIntS_c (one_in zaa_b_e_) (bnd_in (T := mIntS) hbaa_b_e_ eaa_b_e_2) ?_)
  intro a W S B2
  replace B := B.trans (B2.mono B.size)
  clear B2
  replace S := S.two
  refine wp_seq (hd_chk S (by decide) (by decide) (z_in zaa_b_e_) ?_)
  intro a S
  replace S := Sl.two (T := mGroup) S
  refine wp_seq (hd_c3 (l0 := 0) (l1 := 1) (l2 := 6) (K := 43) (eA := 76) (T := mByteS) (b := xaa_b_5) S (gaa_b_5.lat B) (by decide) (by kernel_rfl) (by kernel_rfl) (by kernel_rfl) (by kernel_rfl) (by kernel_rfl) ⟨by kernel_rfl, by kernel_rfl⟩ hi (by decide) rfl rfl (fun _ => rfl) (fun _ _ h => h) ⟨_, Try.func79, by kernel_rfl, by kernel_rfl⟩ hdByteS_c (one_in zaa_b_) (bnd_in (T := mByteS) hbaa_b_ eaa_b_6) ?_)
  intro a W S B2
  replace B := B.trans (B2.mono B.size)
  clear B2
  replace S := S.two
  refine wp_seq (hd_chk S (by decide) (by decide) (z_in zaa_b_) ?_)
  intro a S
  refine wp_seq (hd_c3 (l0 := 0) (l1 := 1) (l2 := 7) (K := 43) (eA := 76) (T := mEntryS) (b := xaa_b_6) S (gaa_b_6.lat B) (by decide) (by kernel_rfl) (by kernel_rfl) (by kernel_rfl) (by kernel_rfl) (by kernel_rfl) ⟨by kernel_rfl, by kernel_rfl⟩ hi (by decide) rfl rfl (fun _ => rfl) (fun _ _ h => h) ⟨_, Try.func45, by kernel_rfl, by kernel_rfl⟩ hdEntryS_c (one_in zaa_b_) (bnd_in (T := mEntryS) hbaa_b_ eaa_b_7) ?_)
  intro a W S B2
  replace B := B.trans (B2.mono B.size)
  clear B2
  replace S := S.two
  refine wp_seq (hd_chk S (by decide) (by decide) (z_in zaa_b_) ?_)
  intro a S
  replace S := Sl.two (T := mKeep) S
  refine wp_seq (hd_i2 (l0 := 0) (l1 := 9) (K := 43) (eA := 76) S (gaa_2.lat B) (by decide) (by kernel_rfl) (by kernel_rfl) (by kernel_rfl) (by kernel_rfl) ⟨by kernel_rfl, by kernel_rfl⟩ hi (by decide) rfl ?_)
  intro a S
  refine wp_seq (hd_nx mInt xaa_2 S rfl zaa_ (bnd0 hbaa_ eaa_2) (by decide) (by decide) ?_)
  intro a S
  refine wp_seq (hd_i2 (l0 := 0) (l1 := 10) (K := 43) (eA := 76) S (gaa_3.lat B) (by decide) (by kernel_rfl) (by kernel_rfl) (by kernel_rfl) (by kernel_rfl) ⟨by kernel_rfl, by kernel_rfl⟩ hi (by decide) rfl ?_)
  intro a S
  refine wp_seq (hd_nx mInt xaa_3 S rfl zaa_ (bnd0 hbaa_ eaa_3) (by decide) (by decide) ?_)
  intro a S
  refine wp_seq (hd_i2 (l0 := 0) (l1 := 11) (K := 43) (eA := 76) S (gaa_4.lat B) (by decide) (by kernel_rfl) (by kernel_rfl) (by kernel_rfl) (by kernel_rfl) ⟨by kernel_rfl, by kernel_rfl⟩ hi (by decide) rfl ?_)
  intro a S
  refine wp_seq (hd_nx mInt xaa_4 S rfl zaa_ (bnd0 hbaa_ eaa_4) (by decide) (by decide) ?_)
  intro a S
  refine wp_seq (hd_c2 (l0 := 0) (l1 := 12) (K := 43) (eA := 76) (T := mIntS) (b := xaa_5) S (gaa_5.lat B) (by decide) (by kernel_rfl) (by kernel_rfl) (by kernel_rfl) (by kernel_rfl) ⟨by kernel_rfl, by kernel_rfl⟩ hi (by decide) rfl rfl (fun _ => rfl) (fun _ _ h => h) ⟨_, Try.func78, by kernel_rfl, by kernel_rfl⟩ hdIntS_c (one_in zaa_) (bnd_in (T := mIntS) hbaa_ eaa_6) ?_)
  intro a W S B2
  replace B := B.trans (B2.mono B.size)
  clear B2
  replace S := S.two
  refine wp_seq (hd_chk S (by decide) (by decide) (z_in zaa_) ?_)
  intro a S
  refine wp_seq (hd_a2 (l0 := 0) (l1 := 13) (K := 43) (eA := 76) (m := 8) (eR := 3) S (gaa_6.lat B) (by decide) (by kernel_rfl) (by kernel_rfl) (by kernel_rfl) (by kernel_rfl) (by kernel_rfl) (by kernel_rfl) ⟨by kernel_rfl, by kernel_rfl⟩ (by decide) (z_in zaa_) (bnd0 hbaa_ eaa_6) hi (by decide) rfl ?_)
  intro a S
  replace S := Sl.two (T := mArr 8) (b := xaa_6) S
  refine wp_seq (hd_a2 (l0 := 0) (l1 := 21) (K := 43) (eA := 76) (m := 8) (eR := 3) S (gaa_7.lat B) (by decide) (by kernel_rfl) (by kernel_rfl) (by kernel_rfl) (by kernel_rfl) (by kernel_rfl) (by kernel_rfl) ⟨by kernel_rfl, by kernel_rfl⟩ (by decide) (z_in zaa_) (bnd0 hbaa_ eaa_7) hi (by decide) rfl ?_)
  intro a S
  replace S := Sl.two (T := mArr 8) (b := xaa_7) S
  refine wp_seq (hd_i2 (l0 := 0) (l1 := 29) (K := 43) (eA := 76) S (gaa_8.lat B) (by decide) (by kernel_rfl) (by kernel_rfl) (by kernel_rfl) (by kernel_rfl) ⟨by kernel_rfl, by kernel_rfl⟩ hi (by decide) rfl ?_)
  intro a S
  refine wp_seq (hd_nx mInt xaa_8 S rfl zaa_ (bnd0 hbaa_ eaa_8) (by decide) (by decide) ?_)
  intro a S
  refine wp_seq (hd_i2 (l0 := 0) (l1 := 30) (K := 43) (eA := 76) S (gaa_9.lat B) (by decide) (by kernel_rfl) (by kernel_rfl) (by kernel_rfl) (by kernel_rfl) ⟨by kernel_rfl, by kernel_rfl⟩ hi (by decide) rfl ?_)
  intro a S
  refine wp_seq (hd_nx mInt xaa_9 S rfl zaa_ (bnd0 hbaa_ eaa_9) (by decide) (by decide) ?_)
  intro a S
  replace S := Sl.two (T := mServer) S
  have Hab_ := ga1
  obtain ⟨⟨⟨⟨yab_, xab_0⟩, xab_1⟩, xab_2⟩, xab_3⟩ := xa1
  obtain rfl : yab_ = () := rfl
  have eab_4 : (mTwo (mTwo (mTwo (mTwo mNil mPlan) mBook) mDesk) mInt).cntF (((((), xab_0), xab_1), xab_2), xab_3) ≤ mState.cntF (((((), xab_0), xab_1), xab_2), xab_3) := Nat.le_refl _
  have eab_3 : (mTwo (mTwo (mTwo mNil mPlan) mBook) mDesk).cntF ((((), xab_0), xab_1), xab_2) ≤ mState.cntF (((((), xab_0), xab_1), xab_2), xab_3) := Nat.le_trans (Nat.le_add_right _ _) eab_4
  have eab_2 : (mTwo (mTwo mNil mPlan) mBook).cntF (((), xab_0), xab_1) ≤ mState.cntF (((((), xab_0), xab_1), xab_2), xab_3) := Nat.le_trans (Nat.le_add_right _ _) eab_3
  have eab_1 : (mTwo mNil mPlan).cntF ((), xab_0) ≤ mState.cntF (((((), xab_0), xab_1), xab_2), xab_3) := Nat.le_trans (Nat.le_add_right _ _) eab_2
  have eab_0 : mNil.cntF () ≤ mState.cntF (((((), xab_0), xab_1), xab_2), xab_3) := Nat.le_trans (Nat.le_add_right _ _) eab_1
  have hbab_a_ := bnd_in (A := mNil) (T := mPlan) (x := ()) (b := xab_0) hbab_ eab_1
  have zab_a_ := one_in (A := mNil) (x := ()) zab_
  have hbab_b_ := bnd_in (A := (mTwo mNil mPlan)) (T := mBook) (x := ((), xab_0)) (b := xab_1) hbab_ eab_2
  have zab_b_ := one_in (A := (mTwo mNil mPlan)) (x := ((), xab_0)) zab_
  have hbab_c_ := bnd_in (A := (mTwo (mTwo mNil mPlan) mBook)) (T := mDesk) (x := (((), xab_0), xab_1)) (b := xab_2) hbab_ eab_3
  have zab_c_ := one_in (A := (mTwo (mTwo mNil mPlan) mBook)) (x := (((), xab_0), xab_1)) zab_
  obtain ⟨Hab_, gab_3⟩ := hdTwo (m := 7) rfl Hab_
  obtain ⟨Hab_, gab_2⟩ := hdTwo (m := 5) rfl Hab_
  obtain ⟨Hab_, gab_1⟩ := hdTwo (m := 2) rfl Hab_
  obtain ⟨Hab_, gab_0⟩ := hdTwo (m := 0) rfl Hab_
  replace S := S.nil
  have Hab_a_ := gab_0
  obtain ⟨⟨yab_a_, xab_a_0⟩, xab_a_1⟩ := xab_0
  obtain rfl : yab_a_ = () := rfl
  have eab_a_2 : (mTwo (mTwo mNil mPoolS) mBlockS).cntF (((), xab_a_0), xab_a_1) ≤ mPlan.cntF (((), xab_a_0), xab_a_1) := Nat.le_refl _
  have eab_a_1 : (mTwo mNil mPoolS).cntF ((), xab_a_0) ≤ mPlan.cntF (((), xab_a_0), xab_a_1) := Nat.le_trans (Nat.le_add_right _ _) eab_a_2
  have eab_a_0 : mNil.cntF () ≤ mPlan.cntF (((), xab_a_0), xab_a_1) := Nat.le_trans (Nat.le_add_right _ _) eab_a_1
  obtain ⟨Hab_a_, gab_a_1⟩ := hdTwo (m := 1) rfl Hab_a_
  obtain ⟨Hab_a_, gab_a_0⟩ := hdTwo (m := 0) rfl Hab_a_
  replace S := S.nil
  refine wp_seq (hd_c3 (l0 := 31) (l1 := 0) (l2 := 0) (K := 43) (eA := 76) (T := mPoolS) (b := xab_a_0) S (gab_a_0.lat B) (by decide) (by kernel_rfl) (by kernel_rfl) (by kernel_rfl) (by kernel_rfl) (by kernel_rfl) ⟨by kernel_rfl, by kernel_rfl⟩ hi (by decide) rfl rfl (fun _ => rfl) (fun _ _ h => h) ⟨_, Try.func80, by kernel_rfl, by kernel_rfl⟩ hdPoolS_c (one_in zab_a_) (bnd_in (T := mPoolS) hbab_a_ eab_a_1) ?_)
  intro a W S B2
  replace B := B.trans (B2.mono B.size)
  clear B2
  replace S := S.two
  refine wp_seq (hd_chk S (by decide) (by decide) (z_in zab_a_) ?_)
  intro a S
  refine wp_seq (hd_c3 (l0 := 31) (l1 := 0) (l2 := 1) (K := 43) (eA := 76) (T := mBlockS) (b := xab_a_1) S (gab_a_1.lat B) (by decide) (by kernel_rfl) (by kernel_rfl) (by kernel_rfl) (by kernel_rfl) (by kernel_rfl) ⟨by kernel_rfl, by kernel_rfl⟩ hi (by decide) rfl rfl (fun _ => rfl) (fun _ _ h => h) ⟨_, Try.func81, by kernel_rfl, by kernel_rfl⟩ hdBlockS_c (one_in zab_a_) (bnd_in (T := mBlockS) hbab_a_ eab_a_2) ?_)
  intro a W S B2
  replace B := B.trans (B2.mono B.size)
  clear B2
  replace S := S.two
  refine wp_seq (hd_chk S (by decide) (by decide) (z_in zab_a_) ?_)
  intro a S
  replace S := Sl.two (T := mPlan) S
  have Hab_b_ := gab_1
  obtain ⟨⟨⟨yab_b_, xab_b_0⟩, xab_b_1⟩, xab_b_2⟩ := xab_1
  obtain rfl : yab_b_ = () := rfl
  have eab_b_3 : (mTwo (mTwo (mTwo mNil mLeaseS) mInt) mInt).cntF ((((), xab_b_0), xab_b_1), xab_b_2) ≤ mBook.cntF ((((), xab_b_0), xab_b_1), xab_b_2) := Nat.le_refl _
  have eab_b_2 : (mTwo (mTwo mNil mLeaseS) mInt).cntF (((), xab_b_0), xab_b_1) ≤ mBook.cntF ((((), xab_b_0), xab_b_1), xab_b_2) := Nat.le_trans (Nat.le_add_right _ _) eab_b_3
  have eab_b_1 : (mTwo mNil mLeaseS).cntF ((), xab_b_0) ≤ mBook.cntF ((((), xab_b_0), xab_b_1), xab_b_2) := Nat.le_trans (Nat.le_add_right _ _) eab_b_2
  have eab_b_0 : mNil.cntF () ≤ mBook.cntF ((((), xab_b_0), xab_b_1), xab_b_2) := Nat.le_trans (Nat.le_add_right _ _) eab_b_1
  obtain ⟨Hab_b_, gab_b_2⟩ := hdTwo (m := 2) rfl Hab_b_
  obtain ⟨Hab_b_, gab_b_1⟩ := hdTwo (m := 1) rfl Hab_b_
  obtain ⟨Hab_b_, gab_b_0⟩ := hdTwo (m := 0) rfl Hab_b_
  replace S := S.nil
  refine wp_seq (hd_c3 (l0 := 31) (l1 := 2) (l2 := 0) (K := 43) (eA := 76) (T := mLeaseS) (b := xab_b_0) S (gab_b_0.lat B) (by decide) (by kernel_rfl) (by kernel_rfl) (by kernel_rfl) (by kernel_rfl) (by kernel_rfl) ⟨by kernel_rfl, by kernel_rfl⟩ hi (by decide) rfl rfl (fun _ => rfl) (fun _ _ h => h) ⟨_, Try.func82, by kernel_rfl, by kernel_rfl⟩ hdLeaseS_c (one_in zab_b_) (bnd_in (T := mLeaseS) hbab_b_ eab_b_1) ?_)
  intro a W S B2
  replace B := B.trans (B2.mono B.size)
  clear B2
  replace S := S.two
  refine wp_seq (hd_chk S (by decide) (by decide) (z_in zab_b_) ?_)
  intro a S
  refine wp_seq (hd_i3 (l0 := 31) (l1 := 2) (l2 := 1) (K := 43) (eA := 76) S (gab_b_1.lat B) (by decide) (by kernel_rfl) (by kernel_rfl) (by kernel_rfl) (by kernel_rfl) (by kernel_rfl) ⟨by kernel_rfl, by kernel_rfl⟩ hi (by decide) rfl ?_)
  intro a S
  refine wp_seq (hd_nx mInt xab_b_1 S rfl zab_b_ (bnd0 hbab_b_ eab_b_1) (by decide) (by decide) ?_)
  intro a S
  refine wp_seq (hd_i3 (l0 := 31) (l1 := 2) (l2 := 2) (K := 43) (eA := 76) S (gab_b_2.lat B) (by decide) (by kernel_rfl) (by kernel_rfl) (by kernel_rfl) (by kernel_rfl) (by kernel_rfl) ⟨by kernel_rfl, by kernel_rfl⟩ hi (by decide) rfl ?_)
  intro a S
  refine wp_seq (hd_nx mInt xab_b_2 S rfl zab_b_ (bnd0 hbab_b_ eab_b_2) (by decide) (by decide) ?_)
  intro a S
  replace S := Sl.two (T := mBook) S
  have Hab_c_ := gab_2
  obtain ⟨⟨yab_c_, xab_c_0⟩, xab_c_1⟩ := xab_2
  obtain rfl : yab_c_ = () := rfl
  have eab_c_2 : (mTwo (mTwo mNil mSessionS) mInt).cntF (((), xab_c_0), xab_c_1) ≤ mDesk.cntF (((), xab_c_0), xab_c_1) := Nat.le_refl _
  have eab_c_1 : (mTwo mNil mSessionS).cntF ((), xab_c_0) ≤ mDesk.cntF (((), xab_c_0), xab_c_1) := Nat.le_trans (Nat.le_add_right _ _) eab_c_2
  have eab_c_0 : mNil.cntF () ≤ mDesk.cntF (((), xab_c_0), xab_c_1) := Nat.le_trans (Nat.le_add_right _ _) eab_c_1
  obtain ⟨Hab_c_, gab_c_1⟩ := hdTwo (m := 1) rfl Hab_c_
  obtain ⟨Hab_c_, gab_c_0⟩ := hdTwo (m := 0) rfl Hab_c_
  replace S := S.nil
  refine wp_seq (hd_c3 (l0 := 31) (l1 := 5) (l2 := 0) (K := 43) (eA := 76) (T := mSessionS) (b := xab_c_0) S (gab_c_0.lat B) (by decide) (by kernel_rfl) (by kernel_rfl) (by kernel_rfl) (by kernel_rfl) (by kernel_rfl) ⟨by kernel_rfl, by kernel_rfl⟩ hi (by decide) rfl rfl (fun _ => rfl) (fun _ _ h => h) ⟨_, Try.func83, by kernel_rfl, by kernel_rfl⟩ hdSessionS_c (one_in zab_c_) (bnd_in (T := mSessionS) hbab_c_ eab_c_1) ?_)
  intro a W S B2
  replace B := B.trans (B2.mono B.size)
  clear B2
  replace S := S.two
  refine wp_seq (hd_chk S (by decide) (by decide) (z_in zab_c_) ?_)
  intro a S
  refine wp_seq (hd_i3 (l0 := 31) (l1 := 5) (l2 := 1) (K := 43) (eA := 76) S (gab_c_1.lat B) (by decide) (by kernel_rfl) (by kernel_rfl) (by kernel_rfl) (by kernel_rfl) (by kernel_rfl) ⟨by kernel_rfl, by kernel_rfl⟩ hi (by decide) rfl ?_)
  intro a S
  refine wp_seq (hd_nx mInt xab_c_1 S rfl zab_c_ (bnd0 hbab_c_ eab_c_1) (by decide) (by decide) ?_)
  intro a S
  replace S := Sl.two (T := mDesk) S
  refine wp_seq (hd_i2 (l0 := 31) (l1 := 7) (K := 43) (eA := 76) S (gab_3.lat B) (by decide) (by kernel_rfl) (by kernel_rfl) (by kernel_rfl) (by kernel_rfl) ⟨by kernel_rfl, by kernel_rfl⟩ hi (by decide) rfl ?_)
  intro a S
  refine wp_seq (hd_nx mInt xab_3 S rfl zab_ (bnd0 hbab_ eab_3) (by decide) (by decide) ?_)
  intro a S
  replace S := Sl.two (T := mState) S
  refine wp_seq (hd_i1 (l0 := 39) (K := 43) (eA := 76) S (ga2.lat B) (by decide) (by kernel_rfl) (by kernel_rfl) (by kernel_rfl) ⟨by kernel_rfl, by kernel_rfl⟩ hi (by decide) rfl ?_)
  intro a S
  refine wp_seq (hd_nx mInt xa2 S rfl z0 (bnd0 hk ea2) (by decide) (by decide) ?_)
  intro a S
  have Had_ := ga3
  obtain ⟨⟨yad_, xad_0⟩, xad_1⟩ := xa3
  obtain rfl : yad_ = () := rfl
  have ead_2 : (mTwo (mTwo mNil mByteS) mInt).cntF (((), xad_0), xad_1) ≤ mFile.cntF (((), xad_0), xad_1) := Nat.le_refl _
  have ead_1 : (mTwo mNil mByteS).cntF ((), xad_0) ≤ mFile.cntF (((), xad_0), xad_1) := Nat.le_trans (Nat.le_add_right _ _) ead_2
  have ead_0 : mNil.cntF () ≤ mFile.cntF (((), xad_0), xad_1) := Nat.le_trans (Nat.le_add_right _ _) ead_1
  obtain ⟨Had_, gad_1⟩ := hdTwo (m := 1) rfl Had_
  obtain ⟨Had_, gad_0⟩ := hdTwo (m := 0) rfl Had_
  replace S := S.nil
  refine wp_seq (hd_c2 (l0 := 40) (l1 := 0) (K := 43) (eA := 76) (T := mByteS) (b := xad_0) S (gad_0.lat B) (by decide) (by kernel_rfl) (by kernel_rfl) (by kernel_rfl) (by kernel_rfl) ⟨by kernel_rfl, by kernel_rfl⟩ hi (by decide) rfl rfl (fun _ => rfl) (fun _ _ h => h) ⟨_, Try.func79, by kernel_rfl, by kernel_rfl⟩ hdByteS_c (one_in zad_) (bnd_in (T := mByteS) hbad_ ead_1) ?_)
  intro a W S B2
  replace B := B.trans (B2.mono B.size)
  clear B2
  replace S := S.two
  refine wp_seq (hd_chk S (by decide) (by decide) (z_in zad_) ?_)
  intro a S
  refine wp_seq (hd_i2 (l0 := 40) (l1 := 1) (K := 43) (eA := 76) S (gad_1.lat B) (by decide) (by kernel_rfl) (by kernel_rfl) (by kernel_rfl) (by kernel_rfl) ⟨by kernel_rfl, by kernel_rfl⟩ hi (by decide) rfl ?_)
  intro a S
  refine wp_seq (hd_nx mInt xad_1 S rfl zad_ (bnd0 hbad_ ead_1) (by decide) (by decide) ?_)
  intro a S
  replace S := Sl.two (T := mFile) S
  refine wp_seq (hd_b1 (l0 := 42) (K := 43) (eA := 76) S (ga4.lat B) (by decide) (by kernel_rfl) (by kernel_rfl) (by kernel_rfl) ⟨by kernel_rfl, by kernel_rfl⟩ (z_in z0) (by kernel_rfl) hi (by decide) rfl ?_)
  intro a S
  refine hd_nx mBool xa4 S rfl z0 (bnd0 hk ea4) (by decide) (by decide) ?_
  intro a S
  exact kc a _ S B
set_option maxRecDepth 10000 in
set_option maxHeartbeats 4000000 in
theorem hdMsgS_c : HdF Try.prog mMsgS v1 43 := by
  rintro us xs w k ⟨o, c, rfl, _, _⟩ hby h1 hk
  have hby : xs = [] := hby
  subst hby
  refine calls_of_wp Try.func43 rfl ?_
  have e : k + ((mMsgS.cntV [] : Nat) : Int) = k := by show k + ((0 : Nat) : Int) = k; omega
  rw [e]
  exact row_none rfl (by decide) rfl (by kernel_rfl) ⟨rfl, Below.refl _ w⟩
set_option maxRecDepth 10000 in
set_option maxHeartbeats 4000000 in
theorem hdIntA2S_c : HdF Try.prog mIntA2S v1 44 := by
  rintro us xs w k ⟨o, c, rfl, _, _⟩ hby h1 hk
  have hby : xs = [] := hby
  subst hby
  refine calls_of_wp Try.func44 rfl ?_
  have e : k + ((mIntA2S.cntV [] : Nat) : Int) = k := by show k + ((0 : Nat) : Int) = k; omega
  rw [e]
  exact row_none rfl (by decide) rfl (by kernel_rfl) ⟨rfl, Below.refl _ w⟩
set_option maxRecDepth 10000 in
set_option maxHeartbeats 4000000 in
theorem hdStringS_c : HdF Try.prog mStringS v1 46 := by
  rintro us xs w k ⟨o, c, rfl, _, _⟩ hby h1 hk
  have hby : xs = [] := hby
  subst hby
  refine calls_of_wp Try.func46 rfl ?_
  have e : k + ((mStringS.cntV [] : Nat) : Int) = k := by show k + ((0 : Nat) : Int) = k; omega
  rw [e]
  exact row_none rfl (by decide) rfl (by kernel_rfl) ⟨rfl, Below.refl _ w⟩
set_option maxRecDepth 10000 in
set_option maxHeartbeats 4000000 in
theorem hdCluster_c : HdF Try.prog mCluster vA 12 := by
  intro us x w k hrep hby h1 hk
  obtain ⟨⟨⟨⟨⟨⟨⟨ya, xa0⟩, xa1⟩, xa2⟩, xa3⟩, xa4⟩, xa5⟩, xa6⟩ := x
  obtain rfl : ya = () := rfl
  obtain ⟨_, u6, rfl, ⟨_, u5, rfl, ⟨_, u4, rfl, ⟨_, u3, rfl, ⟨_, u2, rfl, ⟨_, u1, rfl, ⟨_, u0, rfl, rfl, r0⟩, r1⟩, r2⟩, r3⟩, r4⟩, r5⟩, r6⟩ := hrep
  obtain ⟨⟨⟨⟨⟨⟨⟨_, h0⟩, h1⟩, h2⟩, h3⟩, h4⟩, h5⟩, h6⟩ := hby
  have l0 : u0.length = 1 := mReplicaS.cd.len r0
  have l1 : u1.length = 2 := mGroup.cd.len r1
  have l2 : u2.length = 1 := mMsgS.cd.len r2
  have l3 : u3.length = 1 := mIntA2S.cd.len r3
  have l4 : u4.length = 1 := mEntryS.cd.len r4
  have l5 : u5.length = 1 := mStringS.cd.len r5
  have e7 : (mTwo (mTwo (mTwo (mTwo (mTwo (mTwo (mTwo mNil mReplicaS) mGroup) mMsgS) mIntA2S) mEntryS) mStringS) mBool).cntV ((((((((), xa0), xa1), xa2), xa3), xa4), xa5), xa6) ≤ mCluster.cntV ((((((((), xa0), xa1), xa2), xa3), xa4), xa5), xa6) := Nat.le_refl _
  have e6 : (mTwo (mTwo (mTwo (mTwo (mTwo (mTwo mNil mReplicaS) mGroup) mMsgS) mIntA2S) mEntryS) mStringS).cntV (((((((), xa0), xa1), xa2), xa3), xa4), xa5) ≤ mCluster.cntV ((((((((), xa0), xa1), xa2), xa3), xa4), xa5), xa6) := Nat.le_trans (Nat.le_add_right _ _) e7
  have s6 : (mTwo (mTwo (mTwo (mTwo (mTwo (mTwo (mTwo mNil mReplicaS) mGroup) mMsgS) mIntA2S) mEntryS) mStringS) mBool).cntV ((((((((), xa0), xa1), xa2), xa3), xa4), xa5), xa6) = (mTwo (mTwo (mTwo (mTwo (mTwo (mTwo mNil mReplicaS) mGroup) mMsgS) mIntA2S) mEntryS) mStringS).cntV (((((((), xa0), xa1), xa2), xa3), xa4), xa5) + mBool.cntV xa6 := rfl
  have e5 : (mTwo (mTwo (mTwo (mTwo (mTwo mNil mReplicaS) mGroup) mMsgS) mIntA2S) mEntryS).cntV ((((((), xa0), xa1), xa2), xa3), xa4) ≤ mCluster.cntV ((((((((), xa0), xa1), xa2), xa3), xa4), xa5), xa6) := Nat.le_trans (Nat.le_add_right _ _) e6
  have s5 : (mTwo (mTwo (mTwo (mTwo (mTwo (mTwo mNil mReplicaS) mGroup) mMsgS) mIntA2S) mEntryS) mStringS).cntV (((((((), xa0), xa1), xa2), xa3), xa4), xa5) = (mTwo (mTwo (mTwo (mTwo (mTwo mNil mReplicaS) mGroup) mMsgS) mIntA2S) mEntryS).cntV ((((((), xa0), xa1), xa2), xa3), xa4) + mStringS.cntV xa5 := rfl
  have e4 : (mTwo (mTwo (mTwo (mTwo mNil mReplicaS) mGroup) mMsgS) mIntA2S).cntV (((((), xa0), xa1), xa2), xa3) ≤ mCluster.cntV ((((((((), xa0), xa1), xa2), xa3), xa4), xa5), xa6) := Nat.le_trans (Nat.le_add_right _ _) e5
  have s4 : (mTwo (mTwo (mTwo (mTwo (mTwo mNil mReplicaS) mGroup) mMsgS) mIntA2S) mEntryS).cntV ((((((), xa0), xa1), xa2), xa3), xa4) = (mTwo (mTwo (mTwo (mTwo mNil mReplicaS) mGroup) mMsgS) mIntA2S).cntV (((((), xa0), xa1), xa2), xa3) + mEntryS.cntV xa4 := rfl
  have e3 : (mTwo (mTwo (mTwo mNil mReplicaS) mGroup) mMsgS).cntV ((((), xa0), xa1), xa2) ≤ mCluster.cntV ((((((((), xa0), xa1), xa2), xa3), xa4), xa5), xa6) := Nat.le_trans (Nat.le_add_right _ _) e4
  have s3 : (mTwo (mTwo (mTwo (mTwo mNil mReplicaS) mGroup) mMsgS) mIntA2S).cntV (((((), xa0), xa1), xa2), xa3) = (mTwo (mTwo (mTwo mNil mReplicaS) mGroup) mMsgS).cntV ((((), xa0), xa1), xa2) + mIntA2S.cntV xa3 := rfl
  have e2 : (mTwo (mTwo mNil mReplicaS) mGroup).cntV (((), xa0), xa1) ≤ mCluster.cntV ((((((((), xa0), xa1), xa2), xa3), xa4), xa5), xa6) := Nat.le_trans (Nat.le_add_right _ _) e3
  have s2 : (mTwo (mTwo (mTwo mNil mReplicaS) mGroup) mMsgS).cntV ((((), xa0), xa1), xa2) = (mTwo (mTwo mNil mReplicaS) mGroup).cntV (((), xa0), xa1) + mMsgS.cntV xa2 := rfl
  have e1 : (mTwo mNil mReplicaS).cntV ((), xa0) ≤ mCluster.cntV ((((((((), xa0), xa1), xa2), xa3), xa4), xa5), xa6) := Nat.le_trans (Nat.le_add_right _ _) e2
  have s1 : (mTwo (mTwo mNil mReplicaS) mGroup).cntV (((), xa0), xa1) = (mTwo mNil mReplicaS).cntV ((), xa0) + mGroup.cntV xa1 := rfl
  have e0 : mNil.cntV () ≤ mCluster.cntV ((((((((), xa0), xa1), xa2), xa3), xa4), xa5), xa6) := Nat.le_trans (Nat.le_add_right _ _) e1
  have s0 : (mTwo mNil mReplicaS).cntV ((), xa0) = mNil.cntV () + mReplicaS.cntV xa0 := rfl
  have q0 : k = k + ((mNil.cntV () : Nat) : Int) := by show k = k + ((0 : Nat) : Int); omega
  refine calls_of_wp Try.func12 rfl ?_
  refine hv_head (us := (((((([] ++ u0) ++ u1) ++ u2) ++ u3) ++ u4) ++ u5) ++ u6) rfl rfl (by decide) ?_
  intro a W M
  have M : Hv _ _ (k + ((mNil.cntV () : Nat) : Int)) _ _ _ := q0 ▸ M
  refine hv_call (n := 1) (off := 0) (pre := []) (post := u1 ++ (u2 ++ (u3 ++ (u4 ++ (u5 ++ (u6)))))) (U := mReplicaS) (b := xa0) M (by decide) (by kernel_rfl) v1 rfl (Or.inr ⟨rfl, ⟨by kernel_rfl, by kernel_rfl⟩, rfl⟩) ⟨_, Try.func41, by kernel_rfl, by kernel_rfl⟩ hdReplicaS_c (by simp only [List.append_assoc, List.nil_append]) rfl r0 h0 (by omega) (by have := e1; have := s0; omega) ?_
  intro a W M
  rw [show (k + ((mNil.cntV () : Nat) : Int)) + ((mReplicaS.cntV xa0 : Nat) : Int) = (k + (((mTwo mNil mReplicaS).cntV ((), xa0) : Nat) : Int)) by have := s0; omega] at M
  refine wp_seq (hv_chk M (by decide) (by omega) ?_)
  intro a M
  refine hv_call (n := 2) (off := 1) (pre := [] ++ u0) (post := u2 ++ (u3 ++ (u4 ++ (u5 ++ (u6))))) (U := mGroup) (b := xa1) M (by decide) (by kernel_rfl) vA rfl (Or.inl ⟨rfl, ⟨by kernel_rfl, by kernel_rfl⟩⟩) ⟨_, Try.func42, by kernel_rfl, by kernel_rfl⟩ hdGroup_c (by simp only [List.append_assoc, List.nil_append]) (by simp only [List.length_append, List.length_nil, l0]) r1 h1 (by omega) (by have := e2; have := s1; omega) ?_
  intro a W M
  rw [show (k + (((mTwo mNil mReplicaS).cntV ((), xa0) : Nat) : Int)) + ((mGroup.cntV xa1 : Nat) : Int) = (k + (((mTwo (mTwo mNil mReplicaS) mGroup).cntV (((), xa0), xa1) : Nat) : Int)) by have := s1; omega] at M
  refine wp_seq (hv_chk M (by decide) (by omega) ?_)
  intro a M
  refine hv_call (n := 1) (off := 3) (pre := ([] ++ u0) ++ u1) (post := u3 ++ (u4 ++ (u5 ++ (u6)))) (U := mMsgS) (b := xa2) M (by decide) (by kernel_rfl) v1 rfl (Or.inr ⟨rfl, ⟨by kernel_rfl, by kernel_rfl⟩, rfl⟩) ⟨_, Try.func43, by kernel_rfl, by kernel_rfl⟩ hdMsgS_c (by simp only [List.append_assoc, List.nil_append]) (by simp only [List.length_append, List.length_nil, l0, l1]) r2 h2 (by omega) (by have := e3; have := s2; omega) ?_
  intro a W M
  rw [show (k + (((mTwo (mTwo mNil mReplicaS) mGroup).cntV (((), xa0), xa1) : Nat) : Int)) + ((mMsgS.cntV xa2 : Nat) : Int) = (k + (((mTwo (mTwo (mTwo mNil mReplicaS) mGroup) mMsgS).cntV ((((), xa0), xa1), xa2) : Nat) : Int)) by have := s2; omega] at M
  refine wp_seq (hv_chk M (by decide) (by omega) ?_)
  intro a M
  refine hv_call (n := 1) (off := 4) (pre := (([] ++ u0) ++ u1) ++ u2) (post := u4 ++ (u5 ++ (u6))) (U := mIntA2S) (b := xa3) M (by decide) (by kernel_rfl) v1 rfl (Or.inr ⟨rfl, ⟨by kernel_rfl, by kernel_rfl⟩, rfl⟩) ⟨_, Try.func44, by kernel_rfl, by kernel_rfl⟩ hdIntA2S_c (by simp only [List.append_assoc, List.nil_append]) (by simp only [List.length_append, List.length_nil, l0, l1, l2]) r3 h3 (by omega) (by have := e4; have := s3; omega) ?_
  intro a W M
  rw [show (k + (((mTwo (mTwo (mTwo mNil mReplicaS) mGroup) mMsgS).cntV ((((), xa0), xa1), xa2) : Nat) : Int)) + ((mIntA2S.cntV xa3 : Nat) : Int) = (k + (((mTwo (mTwo (mTwo (mTwo mNil mReplicaS) mGroup) mMsgS) mIntA2S).cntV (((((), xa0), xa1), xa2), xa3) : Nat) : Int)) by have := s3; omega] at M
  refine wp_seq (hv_chk M (by decide) (by omega) ?_)
  intro a M
  refine hv_call (n := 1) (off := 5) (pre := ((([] ++ u0) ++ u1) ++ u2) ++ u3) (post := u5 ++ (u6)) (U := mEntryS) (b := xa4) M (by decide) (by kernel_rfl) v1 rfl (Or.inr ⟨rfl, ⟨by kernel_rfl, by kernel_rfl⟩, rfl⟩) ⟨_, Try.func45, by kernel_rfl, by kernel_rfl⟩ hdEntryS_c (by simp only [List.append_assoc, List.nil_append]) (by simp only [List.length_append, List.length_nil, l0, l1, l2, l3]) r4 h4 (by omega) (by have := e5; have := s4; omega) ?_
  intro a W M
  rw [show (k + (((mTwo (mTwo (mTwo (mTwo mNil mReplicaS) mGroup) mMsgS) mIntA2S).cntV (((((), xa0), xa1), xa2), xa3) : Nat) : Int)) + ((mEntryS.cntV xa4 : Nat) : Int) = (k + (((mTwo (mTwo (mTwo (mTwo (mTwo mNil mReplicaS) mGroup) mMsgS) mIntA2S) mEntryS).cntV ((((((), xa0), xa1), xa2), xa3), xa4) : Nat) : Int)) by have := s4; omega] at M
  refine wp_seq (hv_chk M (by decide) (by omega) ?_)
  intro a M
  refine hv_call (n := 1) (off := 6) (pre := (((([] ++ u0) ++ u1) ++ u2) ++ u3) ++ u4) (post := u6) (U := mStringS) (b := xa5) M (by decide) (by kernel_rfl) v1 rfl (Or.inr ⟨rfl, ⟨by kernel_rfl, by kernel_rfl⟩, rfl⟩) ⟨_, Try.func46, by kernel_rfl, by kernel_rfl⟩ hdStringS_c (by simp only [List.append_assoc, List.nil_append]) (by simp only [List.length_append, List.length_nil, l0, l1, l2, l3, l4]) r5 h5 (by omega) (by have := e6; have := s5; omega) ?_
  intro a W M
  rw [show (k + (((mTwo (mTwo (mTwo (mTwo (mTwo mNil mReplicaS) mGroup) mMsgS) mIntA2S) mEntryS).cntV ((((((), xa0), xa1), xa2), xa3), xa4) : Nat) : Int)) + ((mStringS.cntV xa5 : Nat) : Int) = (k + (((mTwo (mTwo (mTwo (mTwo (mTwo (mTwo mNil mReplicaS) mGroup) mMsgS) mIntA2S) mEntryS) mStringS).cntV (((((((), xa0), xa1), xa2), xa3), xa4), xa5) : Nat) : Int)) by have := s5; omega] at M
  refine wp_seq (hv_chk M (by decide) (by omega) ?_)
  intro a M
  replace M : Hv _ _ (k + (((mTwo (mTwo (mTwo (mTwo (mTwo (mTwo (mTwo mNil mReplicaS) mGroup) mMsgS) mIntA2S) mEntryS) mStringS) mBool).cntV ((((((((), xa0), xa1), xa2), xa3), xa4), xa5), xa6) : Nat) : Int)) _ _ _ := M
  exact hv_tail M (by decide) rfl (fun hb => ⟨rfl, hb⟩)

end Go.Proofs.Ytmfbmnpfgbenmaa
