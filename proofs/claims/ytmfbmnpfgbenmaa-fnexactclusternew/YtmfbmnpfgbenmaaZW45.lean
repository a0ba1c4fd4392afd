/-
  The functions that mark.
-/
import Derived.Test.YtmfbmnpfgbenmaaZW40
import Derived.Test.YtmfbmnpfgbenmaaZW37
namespace Go.Proofs.Ytmfbmnpfgbenmaa
open Go.ChangeShapes Go.WideShapes Go.RowKit

set_option maxRecDepth 10000 in
set_option maxHeartbeats 4000000 in
theorem mkPoolS_c : MkF Try.prog mPoolS v1 73 := by
  rintro us xs w F k ⟨rfl, o, c, rfl⟩ h1 hk
  refine calls_of_wp Try.func73 rfl ?_
  have e : k + ((mPoolS.cntV [] : Nat) : Int) = k := by show k + ((0 : Nat) : Int) = k; omega
  rw [e]
  exact row_none rfl (by decide) rfl (by kernel_rfl) ⟨rfl, Chg.refl _ _, [], ⟨rfl, o, c, rfl⟩, rfl, rfl⟩
set_option maxRecDepth 10000 in
set_option maxHeartbeats 4000000 in
theorem mkBlockS_c : MkF Try.prog mBlockS v1 74 := by
  rintro us xs w F k ⟨rfl, o, c, rfl⟩ h1 hk
  refine calls_of_wp Try.func74 rfl ?_
  have e : k + ((mBlockS.cntV [] : Nat) : Int) = k := by show k + ((0 : Nat) : Int) = k; omega
  rw [e]
  exact row_none rfl (by decide) rfl (by kernel_rfl) ⟨rfl, Chg.refl _ _, [], ⟨rfl, o, c, rfl⟩, rfl, rfl⟩
set_option maxRecDepth 10000 in
set_option maxHeartbeats 4000000 in
theorem mkLeaseS_c : MkF Try.prog mLeaseS v1 75 := by
  rintro us xs w F k ⟨rfl, o, c, rfl⟩ h1 hk
  refine calls_of_wp Try.func75 rfl ?_
  have e : k + ((mLeaseS.cntV [] : Nat) : Int) = k := by show k + ((0 : Nat) : Int) = k; omega
  rw [e]
  exact row_none rfl (by decide) rfl (by kernel_rfl) ⟨rfl, Chg.refl _ _, [], ⟨rfl, o, c, rfl⟩, rfl, rfl⟩
set_option maxRecDepth 10000 in
set_option maxHeartbeats 4000000 in
theorem mkSessionS_c : MkF Try.prog mSessionS v1 76 := by
  rintro us xs w F k ⟨rfl, o, c, rfl⟩ h1 hk
  refine calls_of_wp Try.func76 rfl ?_
  have e : k + ((mSessionS.cntV [] : Nat) : Int) = k := by show k + ((0 : Nat) : Int) = k; omega
  rw [e]
  exact row_none rfl (by decide) rfl (by kernel_rfl) ⟨rfl, Chg.refl _ _, [], ⟨rfl, o, c, rfl⟩, rfl, rfl⟩
set_option maxRecDepth 10000 in
set_option maxHeartbeats 4000000 in
theorem mkReplicaS_c : MkF Try.prog mReplicaS v1 35 := by
  intro us xs w F k hown h1 hk
  refine calls_of_wp Try.func35 rfl ?_
  refine row_mark (T := mReplica) rfl (by decide) rfl (by kernel_rfl) hown h1 hk ?_
  clear hown h1 hk
  intro a W p o n c i pre us post x k F S hi hb hp hown np h1 hk Q' kc
  have hp : pre.length = o + i * 43 + 0 := hp
  have z0 : 1 ≤ k := h1
  obtain ⟨⟨⟨⟨⟨ya, xa0⟩, xa1⟩, xa2⟩, xa3⟩, xa4⟩ := x
  obtain rfl : ya = () := rfl
  obtain ⟨_, ua4, Ha4, Ga4, rfl, aa4, ba4, da4, ⟨_, ua3, Ha3, Ga3, rfl, aa3, ba3, da3, ⟨_, ua2, Ha2, Ga2, rfl, aa2, ba2, da2, ⟨_, ua1, Ha1, Ga1, rfl, aa1, ba1, da1, ⟨_, ua0, Ha0, Ga0, rfl, aa0, ba0, da0, rfl, oa0⟩, oa1⟩, oa2⟩, oa3⟩, oa4⟩ := hown
  have oa2 : ua2 = [.int .i64 xa2] := oa2
  subst oa2
  have oa4 : ua4 = [.bool xa4] := oa4
  subst oa4
  simp only [List.append_assoc, List.nil_append] at hb
  have M := Me.start (k0 := k) hb
  have ea5 : (mTwo (mTwo (mTwo (mTwo (mTwo mNil mServer) mState) mInt) mFile) mBool).cntF ((((((), xa0), xa1), xa2), xa3), xa4) ≤ mReplica.cntF ((((((), xa0), xa1), xa2), xa3), xa4) := Nat.le_refl _
  have ea4 : (mTwo (mTwo (mTwo (mTwo mNil mServer) mState) mInt) mFile).cntF (((((), xa0), xa1), xa2), xa3) ≤ mReplica.cntF ((((((), xa0), xa1), xa2), xa3), xa4) := Nat.le_trans (Nat.le_add_right _ _) ea5
  have ea3 : (mTwo (mTwo (mTwo mNil mServer) mState) mInt).cntF ((((), xa0), xa1), xa2) ≤ mReplica.cntF ((((((), xa0), xa1), xa2), xa3), xa4) := Nat.le_trans (Nat.le_add_right _ _) ea4
  have ea2 : (mTwo (mTwo mNil mServer) mState).cntF (((), xa0), xa1) ≤ mReplica.cntF ((((((), xa0), xa1), xa2), xa3), xa4) := Nat.le_trans (Nat.le_add_right _ _) ea3
  have ea1 : (mTwo mNil mServer).cntF ((), xa0) ≤ mReplica.cntF ((((((), xa0), xa1), xa2), xa3), xa4) := Nat.le_trans (Nat.le_add_right _ _) ea2
  have ea0 : mNil.cntF () ≤ mReplica.cntF ((((((), xa0), xa1), xa2), xa3), xa4) := Nat.le_trans (Nat.le_add_right _ _) ea1
  have hbaa_ := bnd_in (A := mNil) (T := mServer) (x := ()) (b := xa0) hk ea1
  have zaa_ := one_in (A := mNil) (x := ()) z0
  have hbab_ := bnd_in (A := (mTwo mNil mServer)) (T := mState) (x := ((), xa0)) (b := xa1) hk ea2
  have zab_ := one_in (A := (mTwo mNil mServer)) (x := ((), xa0)) z0
  have hbad_ := bnd_in (A := (mTwo (mTwo (mTwo mNil mServer) mState) mInt)) (T := mFile) (x := ((((), xa0), xa1), xa2)) (b := xa3) hk ea4
  have zad_ := one_in (A := (mTwo (mTwo (mTwo mNil mServer) mState) mInt)) (x := ((((), xa0), xa1), xa2)) z0
  have na5 := np
  have na4 : ¬ Ha4 p := fun h => na5 (aa4 _ h)
  have na3 : ¬ Ha3 p := fun h => na4 (aa3 _ h)
  have na2 : ¬ Ha2 p := fun h => na3 (aa2 _ h)
  have na1 : ¬ Ha1 p := fun h => na2 (aa1 _ h)
  have na0 : ¬ Ha0 p := fun h => na1 (aa0 _ h)
  replace M := M.wide (G := Ha0) (fun _ h => h.elim)
  replace S := S.nil
  obtain ⟨paa_, laa_, Maa_, Oaa_, backaa_⟩ := M.enter (T := mServer) (b := xa0) oa0 na1 aa0 ba0 da0
  have laa_ : paa_.length = o + i * 43 + 0 := posn hp laa_ rfl
  have nnaa_ : ¬ Ga0 p := fun h => na1 (ba0 _ h)
  obtain ⟨⟨⟨⟨⟨⟨⟨⟨⟨⟨yaa_, xaa_0⟩, xaa_1⟩, xaa_2⟩, xaa_3⟩, xaa_4⟩, xaa_5⟩, xaa_6⟩, xaa_7⟩, xaa_8⟩, xaa_9⟩ := xa0
  obtain rfl : yaa_ = () := rfl
  obtain ⟨_, uaa_9, Haa_9, Gaa_9, rfl, aaa_9, baa_9, daa_9, ⟨_, uaa_8, Haa_8, Gaa_8, rfl, aaa_8, baa_8, daa_8, ⟨_, uaa_7, Haa_7, Gaa_7, rfl, aaa_7, baa_7, daa_7, ⟨_, uaa_6, Haa_6, Gaa_6, rfl, aaa_6, baa_6, daa_6, ⟨_, uaa_5, Haa_5, Gaa_5, rfl, aaa_5, baa_5, daa_5, ⟨_, uaa_4, Haa_4, Gaa_4, rfl, aaa_4, baa_4, daa_4, ⟨_, uaa_3, Haa_3, Gaa_3, rfl, aaa_3, baa_3, daa_3, ⟨_, uaa_2, Haa_2, Gaa_2, rfl, aaa_2, baa_2, daa_2, ⟨_, uaa_1, Haa_1, Gaa_1, rfl, aaa_1, baa_1, daa_1, ⟨_, uaa_0, Haa_0, Gaa_0, rfl, aaa_0, baa_0, daa_0, rfl, oaa_0⟩, oaa_1⟩, oaa_2⟩, oaa_3⟩, oaa_4⟩, oaa_5⟩, oaa_6⟩, oaa_7⟩, oaa_8⟩, oaa_9⟩ := Oaa_
  have oaa_0 : uaa_0 = [.int .i64 xaa_0] := oaa_0
  subst oaa_0
  have oaa_2 : uaa_2 = [.int .i64 xaa_2] := oaa_2
  subst oaa_2
  have oaa_3 : uaa_3 = [.int .i64 xaa_3] := oaa_3
  subst oaa_3
  have oaa_4 : uaa_4 = [.int .i64 xaa_4] := oaa_4
  subst oaa_4
  have oaa_8 : uaa_8 = [.int .i64 xaa_8] := oaa_8
  subst oaa_8
  have oaa_9 : uaa_9 = [.int .i64 xaa_9] := oaa_9
  subst oaa_9
  simp only [List.append_assoc, List.nil_append] at Maa_
  have eaa_10 : (mTwo (mTwo (mTwo (mTwo (mTwo (mTwo (mTwo (mTwo (mTwo (mTwo mNil mInt) mKeep) mInt) mInt) mInt) mIntS) (mArr 8)) (mArr 8)) mInt) mInt).cntF (((((((((((), xaa_0), xaa_1), xaa_2), xaa_3), xaa_4), xaa_5), xaa_6), xaa_7), xaa_8), xaa_9) ≤ mServer.cntF (((((((((((), xaa_0), xaa_1), xaa_2), xaa_3), xaa_4), xaa_5), xaa_6), xaa_7), xaa_8), xaa_9) := Nat.le_refl _
  have eaa_9 : (mTwo (mTwo (mTwo (mTwo (mTwo (mTwo (mTwo (mTwo (mTwo mNil mInt) mKeep) mInt) mInt) mInt) mIntS) (mArr 8)) (mArr 8)) mInt).cntF ((((((((((), xaa_0), xaa_1), xaa_2), xaa_3), xaa_4), xaa_5), xaa_6), xaa_7), xaa_8) ≤ mServer.cntF (((((((((((), xaa_0), xaa_1), xaa_2), xaa_3), xaa_4), xaa_5), xaa_6), xaa_7), xaa_8), xaa_9) := Nat.le_trans (Nat.le_add_right _ _) eaa_10
  have eaa_8 : (mTwo (mTwo (mTwo (mTwo (mTwo (mTwo (mTwo (mTwo mNil mInt) mKeep) mInt) mInt) mInt) mIntS) (mArr 8)) (mArr 8)).cntF (((((((((), xaa_0), xaa_1), xaa_2), xaa_3), xaa_4), xaa_5), xaa_6), xaa_7) ≤ mServer.cntF (((((((((((), xaa_0), xaa_1), xaa_2), xaa_3), xaa_4), xaa_5), xaa_6), xaa_7), xaa_8), xaa_9) := Nat.le_trans (Nat.le_add_right _ _) eaa_9
  have eaa_7 : (mTwo (mTwo (mTwo (mTwo (mTwo (mTwo (mTwo mNil mInt) mKeep) mInt) mInt) mInt) mIntS) (mArr 8)).cntF ((((((((), xaa_0), xaa_1), xaa_2), xaa_3), xaa_4), xaa_5), xaa_6) ≤ mServer.cntF (((((((((((), xaa_0), xaa_1), xaa_2), xaa_3), xaa_4), xaa_5), xaa_6), xaa_7), xaa_8), xaa_9) := Nat.le_trans (Nat.le_add_right _ _) eaa_8
  have eaa_6 : (mTwo (mTwo (mTwo (mTwo (mTwo (mTwo mNil mInt) mKeep) mInt) mInt) mInt) mIntS).cntF (((((((), xaa_0), xaa_1), xaa_2), xaa_3), xaa_4), xaa_5) ≤ mServer.cntF (((((((((((), xaa_0), xaa_1), xaa_2), xaa_3), xaa_4), xaa_5), xaa_6), xaa_7), xaa_8), xaa_9) := Nat.le_trans (Nat.le_add_right _ _) eaa_7
  have eaa_5 : (mTwo (mTwo (mTwo (mTwo (mTwo mNil mInt) mKeep) mInt) mInt) mInt).cntF ((((((), xaa_0), xaa_1), xaa_2), xaa_3), xaa_4) ≤ mServer.cntF (((((((((((), xaa_0), xaa_1), xaa_2), xaa_3), xaa_4), xaa_5), xaa_6), xaa_7), xaa_8), xaa_9) := Nat.le_trans (Nat.le_add_right _ _) eaa_6
  have eaa_4 : (mTwo (mTwo (mTwo (mTwo mNil mInt) mKeep) mInt) mInt).cntF (((((), xaa_0), xaa_1), xaa_2), xaa_3) ≤ mServer.cntF (((((((((((), xaa_0), xaa_1), xaa_2), xaa_3), xaa_4), xaa_5), xaa_6), xaa_7), xaa_8), xaa_9) := Nat.le_trans (Nat.le_add_right _ _) eaa_5
  have eaa_3 : (mTwo (mTwo (mTwo mNil mInt) mKeep) mInt).cntF ((((), xaa_0), xaa_1), xaa_2) ≤ mServer.cntF (((((((((((), xaa_0), xaa_1), xaa_2), xaa_3), xaa_4), xaa_5), xaa_6), xaa_7), xaa_8), xaa_9) := Nat.le_trans (Nat.le_add_right _ _) eaa_4
  have eaa_2 : (mTwo (mTwo mNil mInt) mKeep).cntF (((), xaa_0), xaa_1) ≤ mServer.cntF (((((((((((), xaa_0), xaa_1), xaa_2), xaa_3), xaa_4), xaa_5), xaa_6), xaa_7), xaa_8), xaa_9) := Nat.le_trans (Nat.le_add_right _ _) eaa_3
  have eaa_1 : (mTwo mNil mInt).cntF ((), xaa_0) ≤ mServer.cntF (((((((((((), xaa_0), xaa_1), xaa_2), xaa_3), xaa_4), xaa_5), xaa_6), xaa_7), xaa_8), xaa_9) := Nat.le_trans (Nat.le_add_right _ _) eaa_2
  have eaa_0 : mNil.cntF () ≤ mServer.cntF (((((((((((), xaa_0), xaa_1), xaa_2), xaa_3), xaa_4), xaa_5), xaa_6), xaa_7), xaa_8), xaa_9) := Nat.le_trans (Nat.le_add_right _ _) eaa_1
  have hbaa_b_ := bnd_in (A := (mTwo mNil mInt)) (T := mKeep) (x := ((), xaa_0)) (b := xaa_1) hbaa_ eaa_2
  have zaa_b_ := one_in (A := (mTwo mNil mInt)) (x := ((), xaa_0)) zaa_
  have naa_10 := nnaa_
  have naa_9 : ¬ Haa_9 p := fun h => naa_10 (aaa_9 _ h)
  have naa_8 : ¬ Haa_8 p := fun h => naa_9 (aaa_8 _ h)
  have naa_7 : ¬ Haa_7 p := fun h => naa_8 (aaa_7 _ h)
  have naa_6 : ¬ Haa_6 p := fun h => naa_7 (aaa_6 _ h)
  have naa_5 : ¬ Haa_5 p := fun h => naa_6 (aaa_5 _ h)
  have naa_4 : ¬ Haa_4 p := fun h => naa_5 (aaa_4 _ h)
  have naa_3 : ¬ Haa_3 p := fun h => naa_4 (aaa_3 _ h)
  have naa_2 : ¬ Haa_2 p := fun h => naa_3 (aaa_2 _ h)
  have naa_1 : ¬ Haa_1 p := fun h => naa_2 (aaa_1 _ h)
  have naa_0 : ¬ Haa_0 p := fun h => naa_1 (aaa_0 _ h)
  replace Maa_ := Maa_.wide (G := Haa_0) (fun _ h => h.elim)
  replace S := S.nil
  refine wp_seq (me_i2 (l0 := 0) (l1 := 0) (m0 := 0) (K := 43) (eA := 76) Maa_ S rfl (by decide) (by decide) (by kernel_rfl) (by kernel_rfl) (by kernel_rfl) (by kernel_rfl) (by kernel_rfl) hi naa_0 xaa_0 rfl (pos2 laa_ rfl) ?_)
  intro a W S Maa_
  replace Maa_ := Maa_.wide aaa_0
  refine wp_seq (me_nx Maa_ S rfl zaa_ (bnd0 hbaa_ eaa_0) (by decide) (by decide) ?_)
  intro a S Maa_
  obtain ⟨paa_b_, laa_b_, Maa_b_, Oaa_b_, backaa_b_⟩ := Maa_.enter (T := mKeep) (b := xaa_1) oaa_1 naa_2 aaa_1 baa_1 daa_1
  have laa_b_ : paa_b_.length = o + i * 43 + 1 := posn laa_ laa_b_ rfl
  have nnaa_b_ : ¬ Gaa_1 p := fun h => naa_2 (baa_1 _ h)
  obtain ⟨⟨⟨⟨⟨⟨⟨yaa_b_, xaa_b_0⟩, xaa_b_1⟩, xaa_b_2⟩, xaa_b_3⟩, xaa_b_4⟩, xaa_b_5⟩, xaa_b_6⟩ := xaa_1
  obtain rfl : yaa_b_ = () := rfl
  obtain ⟨_, uaa_b_6, Haa_b_6, Gaa_b_6, rfl, aaa_b_6, baa_b_6, daa_b_6, ⟨_, uaa_b_5, Haa_b_5, Gaa_b_5, rfl, aaa_b_5, baa_b_5, daa_b_5, ⟨_, uaa_b_4, Haa_b_4, Gaa_b_4, rfl, aaa_b_4, baa_b_4, daa_b_4, ⟨_, uaa_b_3, Haa_b_3, Gaa_b_3, rfl, aaa_b_3, baa_b_3, daa_b_3, ⟨_, uaa_b_2, Haa_b_2, Gaa_b_2, rfl, aaa_b_2, baa_b_2, daa_b_2, ⟨_, uaa_b_1, Haa_b_1, Gaa_b_1, rfl, aaa_b_1, baa_b_1, daa_b_1, ⟨_, uaa_b_0, Haa_b_0, Gaa_b_0, rfl, aaa_b_0, baa_b_0, daa_b_0, rfl, oaa_b_0⟩, oaa_b_1⟩, oaa_b_2⟩, oaa_b_3⟩, oaa_b_4⟩, oaa_b_5⟩, oaa_b_6⟩ := Oaa_b_
  have oaa_b_0 : uaa_b_0 = [.int .i64 xaa_b_0] := oaa_b_0
  subst oaa_b_0
  have oaa_b_1 : uaa_b_1 = [.int .i64 xaa_b_1] := oaa_b_1
  subst oaa_b_1
  have oaa_b_2 : uaa_b_2 = [.int .i64 xaa_b_2] := oaa_b_2
  subst oaa_b_2
  have oaa_b_3 : uaa_b_3 = [.int .i64 xaa_b_3] := oaa_b_3
  subst oaa_b_3
  simp only [List.append_assoc, List.nil_append] at Maa_b_
  have eaa_b_7 : (mTwo (mTwo (mTwo (mTwo (mTwo (mTwo (mTwo mNil mInt) mInt) mInt) mInt) mGroup) mByteS) mEntryS).cntF ((((((((), xaa_b_0), xaa_b_1), xaa_b_2), xaa_b_3), xaa_b_4), xaa_b_5), xaa_b_6) ≤ mKeep.cntF ((((((((), xaa_b_0), xaa_b_1), xaa_b_2), xaa_b_3), xaa_b_4), xaa_b_5), xaa_b_6) := Nat.le_refl _
  have eaa_b_6 : (mTwo (mTwo (mTwo (mTwo (mTwo (mTwo mNil mInt) mInt) mInt) mInt) mGroup) mByteS).cntF (((((((), xaa_b_0), xaa_b_1), xaa_b_2), xaa_b_3), xaa_b_4), xaa_b_5) ≤ mKeep.cntF ((((((((), xaa_b_0), xaa_b_1), xaa_b_2), xaa_b_3), xaa_b_4), xaa_b_5), xaa_b_6) := Nat.le_trans (Nat.le_add_right _ _) eaa_b_7
  have eaa_b_5 : (mTwo (mTwo (mTwo (mTwo (mTwo mNil mInt) mInt) mInt) mInt) mGroup).cntF ((((((), xaa_b_0), xaa_b_1), xaa_b_2), xaa_b_3), xaa_b_4) ≤ mKeep.cntF ((((((((), xaa_b_0), xaa_b_1), xaa_b_2), xaa_b_3), xaa_b_4), xaa_b_5), xaa_b_6) := Nat.le_trans (Nat.le_add_right _ _) eaa_b_6
  have eaa_b_4 : (mTwo (mTwo (mTwo (mTwo mNil mInt) mInt) mInt) mInt).cntF (((((), xaa_b_0), xaa_b_1), xaa_b_2), xaa_b_3) ≤ mKeep.cntF ((((((((), xaa_b_0), xaa_b_1), xaa_b_2), xaa_b_3), xaa_b_4), xaa_b_5), xaa_b_6) := Nat.le_trans (Nat.le_add_right _ _) eaa_b_5
  have eaa_b_3 : (mTwo (mTwo (mTwo mNil mInt) mInt) mInt).cntF ((((), xaa_b_0), xaa_b_1), xaa_b_2) ≤ mKeep.cntF ((((((((), xaa_b_0), xaa_b_1), xaa_b_2), xaa_b_3), xaa_b_4), xaa_b_5), xaa_b_6) := Nat.le_trans (Nat.le_add_right _ _) eaa_b_4
  have eaa_b_2 : (mTwo (mTwo mNil mInt) mInt).cntF (((), xaa_b_0), xaa_b_1) ≤ mKeep.cntF ((((((((), xaa_b_0), xaa_b_1), xaa_b_2), xaa_b_3), xaa_b_4), xaa_b_5), xaa_b_6) := Nat.le_trans (Nat.le_add_right _ _) eaa_b_3
  have eaa_b_1 : (mTwo mNil mInt).cntF ((), xaa_b_0) ≤ mKeep.cntF ((((((((), xaa_b_0), xaa_b_1), xaa_b_2), xaa_b_3), xaa_b_4), xaa_b_5), xaa_b_6) := Nat.le_trans (Nat.le_add_right _ _) eaa_b_2
  have eaa_b_0 : mNil.cntF () ≤ mKeep.cntF ((((((((), xaa_b_0), xaa_b_1), xaa_b_2), xaa_b_3), xaa_b_4), xaa_b_5), xaa_b_6) := Nat.le_trans (Nat.le_add_right _ _) eaa_b_1
  have hbaa_b_e_ := bnd_in (A := (mTwo (mTwo (mTwo (mTwo mNil mInt) mInt) mInt) mInt)) (T := mGroup) (x := (((((), xaa_b_0), xaa_b_1), xaa_b_2), xaa_b_3)) (b := xaa_b_4) hbaa_b_ eaa_b_5
  have zaa_b_e_ := one_in (A := (mTwo (mTwo (mTwo (mTwo mNil mInt) mInt) mInt) mInt)) (x := (((((), xaa_b_0), xaa_b_1), xaa_b_2), xaa_b_3)) zaa_b_
  have naa_b_7 := nnaa_b_
  have naa_b_6 : ¬ Haa_b_6 p := fun h => naa_b_7 (aaa_b_6 _ h)
  have naa_b_5 : ¬ Haa_b_5 p := fun h => naa_b_6 (aaa_b_5 _ h)
  have naa_b_4 : ¬ Haa_b_4 p := fun h => naa_b_5 (aaa_b_4 _ h)
  have naa_b_3 : ¬ Haa_b_3 p := fun h => naa_b_4 (aaa_b_3 _ h)
  have naa_b_2 : ¬ Haa_b_2 p := fun h => naa_b_3 (aaa_b_2 _ h)
  have naa_b_1 : ¬ Haa_b_1 p := fun h => naa_b_2 (aaa_b_1 _ h)
  have naa_b_0 : ¬ Haa_b_0 p := fun h => naa_b_1 (aaa_b_0 _ h)
  replace Maa_b_ := Maa_b_.wide (G := Haa_b_0) (fun _ h => h.elim)
  replace S := S.nil
  refine wp_seq (me_i3 (l0 := 0) (l1 := 1) (l2 := 0) (m0 := 0) (K := 43) (eA := 76) Maa_b_ S rfl (by decide) (by decide) (by kernel_rfl) (by kernel_rfl) (by kernel_rfl) (by kernel_rfl) (by kernel_rfl) (by kernel_rfl) hi naa_b_0 xaa_b_0 rfl (pos3 laa_b_ rfl) ?_)
  intro a W S Maa_b_
  replace Maa_b_ := Maa_b_.wide aaa_b_0
  refine wp_seq (me_nx Maa_b_ S rfl zaa_b_ (bnd0 hbaa_b_ eaa_b_0) (by decide) (by decide) ?_)
  intro a S Maa_b_
  refine wp_seq (me_i3 (l0 := 0) (l1 := 1) (l2 := 1) (m0 := 1) (K := 43) (eA := 76) Maa_b_ S rfl (by decide) (by decide) (by kernel_rfl) (by kernel_rfl) (by kernel_rfl) (by kernel_rfl) (by kernel_rfl) (by kernel_rfl) hi naa_b_1 xaa_b_1 rfl (pos3 laa_b_ rfl) ?_)
  intro a W S Maa_b_
  replace Maa_b_ := Maa_b_.wide aaa_b_1
  refine wp_seq (me_nx Maa_b_ S rfl zaa_b_ (bnd0 hbaa_b_ eaa_b_1) (by decide) (by decide) ?_)
  intro a S Maa_b_
  refine wp_seq (me_i3 (l0 := 0) (l1 := 1) (l2 := 2) (m0 := 2) (K := 43) (eA := 76) Maa_b_ S rfl (by decide) (by decide) (by kernel_rfl) (by kernel_rfl) (by kernel_rfl) (by kernel_rfl) (by kernel_rfl) (by kernel_rfl) hi naa_b_2 xaa_b_2 rfl (pos3 laa_b_ rfl) ?_)
  intro a W S Maa_b_
  replace Maa_b_ := Maa_b_.wide aaa_b_2
  refine wp_seq (me_nx Maa_b_ S rfl zaa_b_ (bnd0 hbaa_b_ eaa_b_2) (by decide) (by decide) ?_)
  intro a S Maa_b_
  refine wp_seq (me_i3 (l0 := 0) (l1 := 1) (l2 := 3) (m0 := 3) (K := 43) (eA := 76) Maa_b_ S rfl (by decide) (by decide) (by kernel_rfl) (by kernel_rfl) (by kernel_rfl) (by kernel_rfl) (by kernel_rfl) (by kernel_rfl) hi naa_b_3 xaa_b_3 rfl (pos3 laa_b_ rfl) ?_)
  intro a W S Maa_b_
  replace Maa_b_ := Maa_b_.wide aaa_b_3
  refine wp_seq (me_nx Maa_b_ S rfl zaa_b_ (bnd0 hbaa_b_ eaa_b_3) (by decide) (by decide) ?_)
  intro a S Maa_b_
  obtain ⟨paa_b_e_, laa_b_e_, Maa_b_e_, Oaa_b_e_, backaa_b_e_⟩ := Maa_b_.enter (T := mGroup) (b := xaa_b_4) oaa_b_4 naa_b_5 aaa_b_4 baa_b_4 daa_b_4
  have laa_b_e_ : paa_b_e_.length = o + i * 43 + 5 := posn laa_b_ laa_b_e_ rfl
  have nnaa_b_e_ : ¬ Gaa_b_4 p := fun h => naa_b_5 (baa_b_4 _ h)
  obtain ⟨⟨yaa_b_e_, xaa_b_e_0⟩, xaa_b_e_1⟩ := xaa_b_4
  obtain rfl : yaa_b_e_ = () := rfl
  obtain ⟨_, uaa_b_e_1, Haa_b_e_1, Gaa_b_e_1, rfl, aaa_b_e_1, baa_b_e_1, daa_b_e_1, ⟨_, uaa_b_e_0, Haa_b_e_0, Gaa_b_e_0, rfl, aaa_b_e_0, baa_b_e_0, daa_b_e_0, rfl, oaa_b_e_0⟩, oaa_b_e_1⟩ := Oaa_b_e_
  simp only [List.append_assoc, List.nil_append] at Maa_b_e_
  have eaa_b_e_2 : (mTwo (mTwo mNil mIntS) mIntS).cntF (((), xaa_b_e_0), xaa_b_e_1) ≤ mGroup.cntF (((), xaa_b_e_0), xaa_b_e_1) := Nat.le_refl _
  have eaa_b_e_1 : (mTwo mNil mIntS).cntF ((), xaa_b_e_0) ≤ mGroup.cntF (((), xaa_b_e_0), xaa_b_e_1) := Nat.le_trans (Nat.le_add_right _ _) eaa_b_e_2
  have eaa_b_e_0 : mNil.cntF () ≤ mGroup.cntF (((), xaa_b_e_0), xaa_b_e_1) := Nat.le_trans (Nat.le_add_right _ _) eaa_b_e_1
  have naa_b_e_2 := nnaa_b_e_
  have naa_b_e_1 : ¬ Haa_b_e_1 p := fun h => naa_b_e_2 (aaa_b_e_1 _ h)
  have naa_b_e_0 : ¬ Haa_b_e_0 p := fun h => naa_b_e_1 (aaa_b_e_0 _ h)
  replace Maa_b_e_ := Maa_b_e_.wide (G := Haa_b_e_0) (fun _ h => h.elim)
  replace S := S.nil
  refine wp_seq (me_c4 (l0 := 0) (l1 := 1) (l2 := 4) (l3 := 0) (m0 := 0) (K := 43) (eA := 76) (T := mIntS) (b := xaa_b_e_0) Maa_b_e_ S rfl (by decide) (by decide) (by kernel_rfl) (by kernel_rfl) (by kernel_rfl) (by kernel_rfl) (by kernel_rfl) (by kernel_rfl) ⟨by kernel_rfl, by kernel_rfl⟩ hi rfl (pos4 laa_b_e_ rfl) rfl (fun _ => rfl) (fun _ _ h => h) ⟨_, Try.func10, by kernel_rfl, by kernel_rfl⟩ mkIntS_c (one_in zaa_b_e_) (bnd_in (T := mIntS) hbaa_b_e_ eaa_b_e_1) naa_b_e_1 aaa_b_e_0 baa_b_e_0 daa_b_e_0 (Maa_b_e_.todo oaa_b_e_0 naa_b_e_1 baa_b_e_0 daa_b_e_0) ?_)
  intro a W S Maa_b_e_
  refine wp_seq (me_c4 (l0 := 0) (l1 := 1) (l2 := 4) (l3 := 1) (m0 := 1) (K := 43) (eA := 76) (T := mIntS) (b := xaa_b_e_1) Maa_b_e_ S rfl (by decide) (by decide) (by kernel_rfl) (by kernel_rfl) (by kernel_rfl) (by kernel_rfl) (by kernel_rfl) (by kernel_rfl) ⟨by kernel_rfl, by kernel_rfl⟩ hi rfl (pos4 laa_b_e_ rfl) rfl (fun _ => rfl) (fun _ _ h => h) ⟨_, Try.func10, by kernel_rfl, by kernel_rfl⟩ mkIntS_c (one_in zaa_b_e_) (bnd_in (T := mIntS) hbaa_b_e_ eaa_b_e_2) naa_b_e_2 aaa_b_e_1 baa_b_e_1 daa_b_e_1 (Maa_b_e_.todo oaa_b_e_1 naa_b_e_2 baa_b_e_1 daa_b_e_1) ?_)
  intro a W S Maa_b_e_
  replace Maa_b_ := backaa_b_e_ _ Maa_b_e_
  replace S := Sl.two (T := mGroup) S
  refine wp_seq (me_c3 (l0 := 0) (l1 := 1) (l2 := 6) (m0 := 6) (K := 43) (eA := 76) (T := mByteS) (b := xaa_b_5) Maa_b_ S rfl (by decide) (by decide) (by kernel_rfl) (by kernel_rfl) (by kernel_rfl) (by kernel_rfl) (by kernel_rfl) ⟨by kernel_rfl, by kernel_rfl⟩ hi rfl (pos3 laa_b_ rfl) rfl (fun _ => rfl) (fun _ _ h => h) ⟨_, Try.func72, by kernel_rfl, by kernel_rfl⟩ mkByteS_c (one_in zaa_b_) (bnd_in (T := mByteS) hbaa_b_ eaa_b_6) naa_b_6 aaa_b_5 baa_b_5 daa_b_5 (Maa_b_.todo oaa_b_5 naa_b_6 baa_b_5 daa_b_5) ?_)
  intro a W S Maa_b_
  refine wp_seq (me_c3 (l0 := 0) (l1 := 1) (l2 := 7) (m0 := 7) (K := 43) (eA := 76) (T := mEntryS) (b := xaa_b_6) Maa_b_ S rfl (by decide) (by decide) (by kernel_rfl) (by kernel_rfl) (by kernel_rfl) (by kernel_rfl) (by kernel_rfl) ⟨by kernel_rfl, by kernel_rfl⟩ hi rfl (pos3 laa_b_ rfl) rfl (fun _ => rfl) (fun _ _ h => h) ⟨_, Try.func39, by kernel_rfl, by kernel_rfl⟩ mkEntryS_c (one_in zaa_b_) (bnd_in (T := mEntryS) hbaa_b_ eaa_b_7) naa_b_7 aaa_b_6 baa_b_6 daa_b_6 (Maa_b_.todo oaa_b_6 naa_b_7 baa_b_6 daa_b_6) ?_)
  intro a W S Maa_b_
  replace Maa_ := backaa_b_ _ Maa_b_
  replace S := Sl.two (T := mKeep) S
  refine wp_seq (me_i2 (l0 := 0) (l1 := 9) (m0 := 9) (K := 43) (eA := 76) Maa_ S rfl (by decide) (by decide) (by kernel_rfl) (by kernel_rfl) (by kernel_rfl) (by kernel_rfl) (by kernel_rfl) hi naa_2 xaa_2 rfl (pos2 laa_ rfl) ?_)
  intro a W S Maa_
  replace Maa_ := Maa_.wide aaa_2
  refine wp_seq (me_nx Maa_ S rfl zaa_ (bnd0 hbaa_ eaa_2) (by decide) (by decide) ?_)
  intro a S Maa_
  refine wp_seq (me_i2 (l0 := 0) (l1 := 10) (m0 := 10) (K := 43) (eA := 76) Maa_ S rfl (by decide) (by decide) (by kernel_rfl) (by kernel_rfl) (by kernel_rfl) (by kernel_rfl) (by kernel_rfl) hi naa_3 xaa_3 rfl (pos2 laa_ rfl) ?_)
  intro a W S Maa_
  replace Maa_ := Maa_.wide aaa_3
  refine wp_seq (me_nx Maa_ S rfl zaa_ (bnd0 hbaa_ eaa_3) (by decide) (by decide) ?_)
  intro a S Maa_
  refine wp_seq (me_i2 (l0 := 0) (l1 := 11) (m0 := 11) (K := 43) (eA := 76) Maa_ S rfl (by decide) (by decide) (by kernel_rfl) (by kernel_rfl) (by kernel_rfl) (by kernel_rfl) (by kernel_rfl) hi naa_4 xaa_4 rfl (pos2 laa_ rfl) ?_)
  intro a W S Maa_
  replace Maa_ := Maa_.wide aaa_4
  refine wp_seq (me_nx Maa_ S rfl zaa_ (bnd0 hbaa_ eaa_4) (by decide) (by decide) ?_)
  intro a S Maa_
  refine wp_seq (me_c2 (l0 := 0) (l1 := 12) (m0 := 12) (K := 43) (eA := 76) (T := mIntS) (b := xaa_5) Maa_ S rfl (by decide) (by decide) (by kernel_rfl) (by kernel_rfl) (by kernel_rfl) (by kernel_rfl) ⟨by kernel_rfl, by kernel_rfl⟩ hi rfl (pos2 laa_ rfl) rfl (fun _ => rfl) (fun _ _ h => h) ⟨_, Try.func10, by kernel_rfl, by kernel_rfl⟩ mkIntS_c (one_in zaa_) (bnd_in (T := mIntS) hbaa_ eaa_6) naa_6 aaa_5 baa_5 daa_5 (Maa_.todo oaa_5 naa_6 baa_5 daa_5) ?_)
  intro a W S Maa_
  refine wp_seq (me_a2 (l0 := 0) (l1 := 13) (m0 := 13) (K := 43) (eA := 76) (m := 8) (eR := 3) Maa_ S rfl (by decide) (by decide) (by kernel_rfl) (by kernel_rfl) (by kernel_rfl) (by kernel_rfl) (by kernel_rfl) (by kernel_rfl) (by kernel_rfl) (by decide) (z_in zaa_) (bnd0 hbaa_ eaa_6) hi naa_6 xaa_6 ((mArr 8).len oaa_6) rfl (pos2 laa_ rfl) ?_)
  intro a W S Maa_
  replace Maa_ := Maa_.wide aaa_6
  refine wp_seq (me_a2 (l0 := 0) (l1 := 21) (m0 := 21) (K := 43) (eA := 76) (m := 8) (eR := 3) Maa_ S rfl (by decide) (by decide) (by kernel_rfl) (by kernel_rfl) (by kernel_rfl) (by kernel_rfl) (by kernel_rfl) (by kernel_rfl) (by kernel_rfl) (by decide) (z_in zaa_) (bnd0 hbaa_ eaa_7) hi naa_7 xaa_7 ((mArr 8).len oaa_7) rfl (pos2 laa_ rfl) ?_)
  intro a W S Maa_
  replace Maa_ := Maa_.wide aaa_7
  refine wp_seq (me_i2 (l0 := 0) (l1 := 29) (m0 := 29) (K := 43) (eA := 76) Maa_ S rfl (by decide) (by decide) (by kernel_rfl) (by kernel_rfl) (by kernel_rfl) (by kernel_rfl) (by kernel_rfl) hi naa_8 xaa_8 rfl (pos2 laa_ rfl) ?_)
  intro a W S Maa_
  replace Maa_ := Maa_.wide aaa_8
  refine wp_seq (me_nx Maa_ S rfl zaa_ (bnd0 hbaa_ eaa_8) (by decide) (by decide) ?_)
  intro a S Maa_
  refine wp_seq (me_i2 (l0 := 0) (l1 := 30) (m0 := 30) (K := 43) (eA := 76) Maa_ S rfl (by decide) (by decide) (by kernel_rfl) (by kernel_rfl) (by kernel_rfl) (by kernel_rfl) (by kernel_rfl) hi naa_9 xaa_9 rfl (pos2 laa_ rfl) ?_)
  intro a W S Maa_
  replace Maa_ := Maa_.wide aaa_9
  refine wp_seq (me_nx Maa_ S rfl zaa_ (bnd0 hbaa_ eaa_9) (by decide) (by decide) ?_)
  intro a S Maa_
  replace M := backaa_ _ Maa_
  replace S := Sl.two (T := mServer) S
  obtain ⟨pab_, lab_, Mab_, Oab_, backab_⟩ := M.enter (T := mState) (b := xa1) oa1 na2 aa1 ba1 da1
  have lab_ : pab_.length = o + i * 43 + 31 := posn hp lab_ rfl
  have nnab_ : ¬ Ga1 p := fun h => na2 (ba1 _ h)
  obtain ⟨⟨⟨⟨yab_, xab_0⟩, xab_1⟩, xab_2⟩, xab_3⟩ := xa1
  obtain rfl : yab_ = () := rfl
  obtain ⟨_, uab_3, Hab_3, Gab_3, rfl, aab_3, bab_3, dab_3, ⟨_, uab_2, Hab_2, Gab_2, rfl, aab_2, bab_2, dab_2, ⟨_, uab_1, Hab_1, Gab_1, rfl, aab_1, bab_1, dab_1, ⟨_, uab_0, Hab_0, Gab_0, rfl, aab_0, bab_0, dab_0, rfl, oab_0⟩, oab_1⟩, oab_2⟩, oab_3⟩ := Oab_
  have oab_3 : uab_3 = [.int .i64 xab_3] := oab_3
  subst oab_3
  simp only [List.append_assoc, List.nil_append] at Mab_
  have eab_4 : (mTwo (mTwo (mTwo (mTwo mNil mPlan) mBook) mDesk) mInt).cntF (((((), xab_0), xab_1), xab_2), xab_3) ≤ mState.cntF (((((), xab_0), xab_1), xab_2), xab_3) := Nat.le_refl _
  have eab_3 : (mTwo (mTwo (mTwo mNil mPlan) mBook) mDesk).cntF ((((), xab_0), xab_1), xab_2) ≤ mState.cntF (((((), xab_0), xab_1), xab_2), xab_3) := Nat.le_trans (Nat.le_add_right _ _) eab_4
  have eab_2 : (mTwo (mTwo mNil mPlan) mBook).cntF (((), xab_0), xab_1) ≤ mState.cntF (((((), xab_0), xab_1), xab_2), xab_3) := Nat.le_trans (Nat.le_add_right _ _) eab_3
  have eab_1 : (mTwo mNil mPlan).cntF ((), xab_0) ≤ mState.cntF (((((), xab_0), xab_1), xab_2), xab_3) := Nat.le_trans (Nat.le_add_right _ _) eab_2
  have eab_0 : mNil.cntF () ≤ mState.cntF (((((), xab_0), xab_1), xab_2), xab_3) := Nat.le_trans (Nat.le_add_right _ _) eab_1
  have hbab_a_ := bnd_in (A := mNil) (T := mPlan) (x := ()) (b := xab_0) hbab_ eab_1
  have zab_a_ := one_in (A := mNil) (x := ()) zab_
  have hbab_b_ := bnd_in (A := (mTwo mNil mPlan)) (T := mBook) (x := ((), xab_0)) (b := xab_1) hbab_ eab_2
  have zab_b_ := one_in (A := (mTwo mNil mPlan)) (x := ((), xab_0)) zab_
  have hbab_c_ := bnd_in (A := (mTwo (mTwo mNil mPlan) mBook)) (T := mDesk) (x := (((), xab_0), xab_1)) (b := xab_2) hbab_ eab_3
  have zab_c_ := one_in (A := (mTwo (mTwo mNil mPlan) mBook)) (x := (((), xab_0), xab_1)) zab_
  have nab_4 := nnab_
  have nab_3 : ¬ Hab_3 p := fun h => nab_4 (aab_3 _ h)
  have nab_2 : ¬ Hab_2 p := fun h => nab_3 (aab_2 _ h)
  have nab_1 : ¬ Hab_1 p := fun h => nab_2 (aab_1 _ h)
  have nab_0 : ¬ Hab_0 p := fun h => nab_1 (aab_0 _ h)
  replace Mab_ := Mab_.wide (G := Hab_0) (fun _ h => h.elim)
  replace S := S.nil
  obtain ⟨pab_a_, lab_a_, Mab_a_, Oab_a_, backab_a_⟩ := Mab_.enter (T := mPlan) (b := xab_0) oab_0 nab_1 aab_0 bab_0 dab_0
  have lab_a_ : pab_a_.length = o + i * 43 + 31 := posn lab_ lab_a_ rfl
  have nnab_a_ : ¬ Gab_0 p := fun h => nab_1 (bab_0 _ h)
  obtain ⟨⟨yab_a_, xab_a_0⟩, xab_a_1⟩ := xab_0
  obtain rfl : yab_a_ = () := rfl
  obtain ⟨_, uab_a_1, Hab_a_1, Gab_a_1, rfl, aab_a_1, bab_a_1, dab_a_1, ⟨_, uab_a_0, Hab_a_0, Gab_a_0, rfl, aab_a_0, bab_a_0, dab_a_0, rfl, oab_a_0⟩, oab_a_1⟩ := Oab_a_
  simp only [List.append_assoc, List.nil_append] at Mab_a_
  have eab_a_2 : (mTwo (mTwo mNil mPoolS) mBlockS).cntF (((), xab_a_0), xab_a_1) ≤ mPlan.cntF (((), xab_a_0), xab_a_1) := Nat.le_refl _
  have eab_a_1 : (mTwo mNil mPoolS).cntF ((), xab_a_0) ≤ mPlan.cntF (((), xab_a_0), xab_a_1) := Nat.le_trans (Nat.le_add_right _ _) eab_a_2
  have eab_a_0 : mNil.cntF () ≤ mPlan.cntF (((), xab_a_0), xab_a_1) := Nat.le_trans (Nat.le_add_right _ _) eab_a_1
  have nab_a_2 := nnab_a_
  have nab_a_1 : ¬ Hab_a_1 p := fun h => nab_a_2 (aab_a_1 _ h)
  have nab_a_0 : ¬ Hab_a_0 p := fun h => nab_a_1 (aab_a_0 _ h)
  replace Mab_a_ := Mab_a_.wide (G := Hab_a_0) (fun _ h => h.elim)
  replace S := S.nil
  refine wp_seq (me_c3 (l0 := 31) (l1 := 0) (l2 := 0) (m0 := 0) (K := 43) (eA := 76) (T := mPoolS) (b := xab_a_0) Mab_a_ S rfl (by decide) (by decide) (by kernel_rfl) (by kernel_rfl) (by kernel_rfl) (by kernel_rfl) (by kernel_rfl) ⟨by kernel_rfl, by kernel_rfl⟩ hi rfl (pos3 lab_a_ rfl) rfl (fun _ => rfl) (fun _ _ h => h) ⟨_, Try.func73, by kernel_rfl, by kernel_rfl⟩ mkPoolS_c (one_in zab_a_) (bnd_in (T := mPoolS) hbab_a_ eab_a_1) nab_a_1 aab_a_0 bab_a_0 dab_a_0 (Mab_a_.todo oab_a_0 nab_a_1 bab_a_0 dab_a_0) ?_)
  intro a W S Mab_a_
  refine wp_seq (me_c3 (l0 := 31) (l1 := 0) (l2 := 1) (m0 := 1) (K := 43) (eA := 76) (T := mBlockS) (b := xab_a_1) Mab_a_ S rfl (by decide) (by decide) (by kernel_rfl) (by kernel_rfl) (by kernel_rfl) (by kernel_rfl) (by kernel_rfl) ⟨by kernel_rfl, by kernel_rfl⟩ hi rfl (pos3 lab_a_ rfl) rfl (fun _ => rfl) (fun _ _ h => h) ⟨_, Try.func74, by kernel_rfl, by kernel_rfl⟩ mkBlockS_c (one_in zab_a_) (bnd_in (T := mBlockS) hbab_a_ eab_a_2) nab_a_2 aab_a_1 bab_a_1 dab_a_1 (Mab_a_.todo oab_a_1 nab_a_2 bab_a_1 dab_a_1) ?_)
  intro a W S Mab_a_
  replace Mab_ := backab_a_ _ Mab_a_
  replace S := Sl.two (T := mPlan) S
  obtain ⟨pab_b_, lab_b_, Mab_b_, Oab_b_, backab_b_⟩ := Mab_.enter (T := mBook) (b := xab_1) oab_1 nab_2 aab_1 bab_1 dab_1
  have lab_b_ : pab_b_.length = o + i * 43 + 33 := posn lab_ lab_b_ rfl
  have nnab_b_ : ¬ Gab_1 p := fun h => nab_2 (bab_1 _ h)
  obtain ⟨⟨⟨yab_b_, xab_b_0⟩, xab_b_1⟩, xab_b_2⟩ := xab_1
  obtain rfl : yab_b_ = () := rfl
  obtain ⟨_, uab_b_2, Hab_b_2, Gab_b_2, rfl, aab_b_2, bab_b_2, dab_b_2, ⟨_, uab_b_1, Hab_b_1, Gab_b_1, rfl, aab_b_1, bab_b_1, dab_b_1, ⟨_, uab_b_0, Hab_b_0, Gab_b_0, rfl, aab_b_0, bab_b_0, dab_b_0, rfl, oab_b_0⟩, oab_b_1⟩, oab_b_2⟩ := Oab_b_
  have oab_b_1 : uab_b_1 = [.int .i64 xab_b_1] := oab_b_1
  subst oab_b_1
  have oab_b_2 : uab_b_2 = [.int .i64 xab_b_2] := oab_b_2
  subst oab_b_2
  simp only [List.append_assoc, List.nil_append] at Mab_b_
  have eab_b_3 : (mTwo (mTwo (mTwo mNil mLeaseS) mInt) mInt).cntF ((((), xab_b_0), xab_b_1), xab_b_2) ≤ mBook.cntF ((((), xab_b_0), xab_b_1), xab_b_2) := Nat.le_refl _
  have eab_b_2 : (mTwo (mTwo mNil mLeaseS) mInt).cntF (((), xab_b_0), xab_b_1) ≤ mBook.cntF ((((), xab_b_0), xab_b_1), xab_b_2) := Nat.le_trans (Nat.le_add_right _ _) eab_b_3
  have eab_b_1 : (mTwo mNil mLeaseS).cntF ((), xab_b_0) ≤ mBook.cntF ((((), xab_b_0), xab_b_1), xab_b_2) := Nat.le_trans (Nat.le_add_right _ _) eab_b_2
  have eab_b_0 : mNil.cntF () ≤ mBook.cntF ((((), xab_b_0), xab_b_1), xab_b_2) := Nat.le_trans (Nat.le_add_right _ _) eab_b_1
  have nab_b_3 := nnab_b_
  have nab_b_2 : ¬ Hab_b_2 p := fun h => nab_b_3 (aab_b_2 _ h)
  have nab_b_1 : ¬ Hab_b_1 p := fun h => nab_b_2 (aab_b_1 _ h)
  have nab_b_0 : ¬ Hab_b_0 p := fun h => nab_b_1 (aab_b_0 _ h)
  replace Mab_b_ := Mab_b_.wide (G := Hab_b_0) (fun _ h => h.elim)
  replace S := S.nil
  refine wp_seq (me_c3 (l0 := 31) (l1 := 2) (l2 := 0) (m0 := 0) (K := 43) (eA := 76) (T := mLeaseS) (b := xab_b_0) Mab_b_ S rfl (by decide) (by decide) (by kernel_rfl) (by kernel_rfl) (by kernel_rfl) (by kernel_rfl) (by kernel_rfl) ⟨by kernel_rfl, by kernel_rfl⟩ hi rfl (pos3 lab_b_ rfl) rfl (fun _ => rfl) (fun _ _ h => h) ⟨_, Try.func75, by kernel_rfl, by kernel_rfl⟩ mkLeaseS_c (one_in zab_b_) (bnd_in (T := mLeaseS) hbab_b_ eab_b_1) nab_b_1 aab_b_0 bab_b_0 dab_b_0 (Mab_b_.todo oab_b_0 nab_b_1 bab_b_0 dab_b_0) ?_)
  intro a W S Mab_b_
  refine wp_seq (me_i3 (l0 := 31) (l1 := 2) (l2 := 1) (m0 := 1) (K := 43) (eA := 76) Mab_b_ S rfl (by decide) (by decide) (by kernel_rfl) (by kernel_rfl) (by kernel_rfl) (by kernel_rfl) (by kernel_rfl) (by kernel_rfl) hi nab_b_1 xab_b_1 rfl (pos3 lab_b_ rfl) ?_)
  intro a W S Mab_b_
  replace Mab_b_ := Mab_b_.wide aab_b_1
  refine wp_seq (me_nx Mab_b_ S rfl zab_b_ (bnd0 hbab_b_ eab_b_1) (by decide) (by decide) ?_)
  intro a S Mab_b_
  refine wp_seq (me_i3 (l0 := 31) (l1 := 2) (l2 := 2) (m0 := 2) (K := 43) (eA := 76) Mab_b_ S rfl (by decide) (by decide) (by kernel_rfl) (by kernel_rfl) (by kernel_rfl) (by kernel_rfl) (by kernel_rfl) (by kernel_rfl) hi nab_b_2 xab_b_2 rfl (pos3 lab_b_ rfl) ?_)
  intro a W S Mab_b_
  replace Mab_b_ := Mab_b_.wide aab_b_2
  refine wp_seq (me_nx Mab_b_ S rfl zab_b_ (bnd0 hbab_b_ eab_b_2) (by decide) (by decide) ?_)
  intro a S Mab_b_
  replace Mab_ := backab_b_ _ Mab_b_
  replace S := Sl.two (T := mBook) S
  obtain ⟨pab_c_, lab_c_, Mab_c_, Oab_c_, backab_c_⟩ := Mab_.enter (T := mDesk) (b := xab_2) oab_2 nab_3 aab_2 bab_2 dab_2
  have lab_c_ : pab_c_.length = o + i * 43 + 36 := posn lab_ lab_c_ rfl
  have nnab_c_ : ¬ Gab_2 p := fun h => nab_3 (bab_2 _ h)
  obtain ⟨⟨yab_c_, xab_c_0⟩, xab_c_1⟩ := xab_2
  obtain rfl : yab_c_ = () := rfl
  obtain ⟨_, uab_c_1, Hab_c_1, Gab_c_1, rfl, aab_c_1, bab_c_1, dab_c_1, ⟨_, uab_c_0, Hab_c_0, Gab_c_0, rfl, aab_c_0, bab_c_0, dab_c_0, rfl, oab_c_0⟩, oab_c_1⟩ := Oab_c_
  have oab_c_1 : uab_c_1 = [.int .i64 xab_c_1] := oab_c_1
  subst oab_c_1
  simp only [List.append_assoc, List.nil_append] at Mab_c_
  have eab_c_2 : (mTwo (mTwo mNil mSessionS) mInt).cntF (((), xab_c_0), xab_c_1) ≤ mDesk.cntF (((), xab_c_0), xab_c_1) := Nat.le_refl _
  have eab_c_1 : (mTwo mNil mSessionS).cntF ((), xab_c_0) ≤ mDesk.cntF (((), xab_c_0), xab_c_1) := Nat.le_trans (Nat.le_add_right _ _) eab_c_2
  have eab_c_0 : mNil.cntF () ≤ mDesk.cntF (((), xab_c_0), xab_c_1) := Nat.le_trans (Nat.le_add_right _ _) eab_c_1
  have nab_c_2 := nnab_c_
  have nab_c_1 : ¬ Hab_c_1 p := fun h => nab_c_2 (aab_c_1 _ h)
  have nab_c_0 : ¬ Hab_c_0 p := fun h => nab_c_1 (aab_c_0 _ h)
  replace Mab_c_ := Mab_c_.wide (G := Hab_c_0) (fun _ h => h.elim)
  replace S := S.nil
  refine wp_seq (me_c3 (l0 := 31) (l1 := 5) (l2 := 0) (m0 := 0) (K := 43) (eA := 76) (T := mSessionS) (b := xab_c_0) Mab_c_ S rfl (by decide) (by decide) (by kernel_rfl) (by kernel_rfl) (by kernel_rfl) (by kernel_rfl) (by kernel_rfl) ⟨by kernel_rfl, by kernel_rfl⟩ hi rfl (pos3 lab_c_ rfl) rfl (fun _ => rfl) (fun _ _ h => h) ⟨_, Try.func76, by kernel_rfl, by kernel_rfl⟩ mkSessionS_c (one_in zab_c_) (bnd_in (T := mSessionS) hbab_c_ eab_c_1) nab_c_1 aab_c_0 bab_c_0 dab_c_0 (Mab_c_.todo oab_c_0 nab_c_1 bab_c_0 dab_c_0) ?_)
  intro a W S Mab_c_
  refine wp_seq (me_i3 (l0 := 31) (l1 := 5) (l2 := 1) (m0 := 1) (K := 43) (eA := 76) Mab_c_ S rfl (by decide) (by decide) (by kernel_rfl) (by kernel_rfl) (by kernel_rfl) (by kernel_rfl) (by kernel_rfl) (by kernel_rfl) hi nab_c_1 xab_c_1 rfl (pos3 lab_c_ rfl) ?_)
  intro a W S Mab_c_
  replace Mab_c_ := Mab_c_.wide aab_c_1
  refine wp_seq (me_nx Mab_c_ S rfl zab_c_ (bnd0 hbab_c_ eab_c_1) (by decide) (by decide) ?_)
  intro a S Mab_c_
  replace Mab_ := backab_c_ _ Mab_c_
  replace S := Sl.two (T := mDesk) S
  refine wp_seq (me_i2 (l0 := 31) (l1 := 7) (m0 := 7) (K := 43) (eA := 76) Mab_ S rfl (by decide) (by decide) (by kernel_rfl) (by kernel_rfl) (by kernel_rfl) (by kernel_rfl) (by kernel_rfl) hi nab_3 xab_3 rfl (pos2 lab_ rfl) ?_)
  intro a W S Mab_
  replace Mab_ := Mab_.wide aab_3
  refine wp_seq (me_nx Mab_ S rfl zab_ (bnd0 hbab_ eab_3) (by decide) (by decide) ?_)
  intro a S Mab_
  replace M := backab_ _ Mab_
  replace S := Sl.two (T := mState) S
  refine wp_seq (me_i1 (l0 := 39) (m0 := 39) (K := 43) (eA := 76) M S rfl (by decide) (by decide) (by kernel_rfl) (by kernel_rfl) (by kernel_rfl) (by kernel_rfl) hi na2 xa2 rfl (pos1 hp rfl) ?_)
  intro a W S M
  replace M := M.wide aa2
  refine wp_seq (me_nx M S rfl z0 (bnd0 hk ea2) (by decide) (by decide) ?_)
  intro a S M
  obtain ⟨pad_, lad_, Mad_, Oad_, backad_⟩ := M.enter (T := mFile) (b := xa3) oa3 na4 aa3 ba3 da3
  have lad_ : pad_.length = o + i * 43 + 40 := posn hp lad_ rfl
  have nnad_ : ¬ Ga3 p := fun h => na4 (ba3 _ h)
  obtain ⟨⟨yad_, xad_0⟩, xad_1⟩ := xa3
  obtain rfl : yad_ = () := rfl
  obtain ⟨_, uad_1, Had_1, Gad_1, rfl, aad_1, bad_1, dad_1, ⟨_, uad_0, Had_0, Gad_0, rfl, aad_0, bad_0, dad_0, rfl, oad_0⟩, oad_1⟩ := Oad_
  have oad_1 : uad_1 = [.int .i64 xad_1] := oad_1
  subst oad_1
  simp only [List.append_assoc, List.nil_append] at Mad_
  have ead_2 : (mTwo (mTwo mNil mByteS) mInt).cntF (((), xad_0), xad_1) ≤ mFile.cntF (((), xad_0), xad_1) := Nat.le_refl _
  have ead_1 : (mTwo mNil mByteS).cntF ((), xad_0) ≤ mFile.cntF (((), xad_0), xad_1) := Nat.le_trans (Nat.le_add_right _ _) ead_2
  have ead_0 : mNil.cntF () ≤ mFile.cntF (((), xad_0), xad_1) := Nat.le_trans (Nat.le_add_right _ _) ead_1
  have nad_2 := nnad_
  have nad_1 : ¬ Had_1 p := fun h => nad_2 (aad_1 _ h)
  have nad_0 : ¬ Had_0 p := fun h => nad_1 (aad_0 _ h)
  replace Mad_ := Mad_.wide (G := Had_0) (fun _ h => h.elim)
  replace S := S.nil
  refine wp_seq (me_c2 (l0 := 40) (l1 := 0) (m0 := 0) (K := 43) (eA := 76) (T := mByteS) (b := xad_0) Mad_ S rfl (by decide) (by decide) (by kernel_rfl) (by kernel_rfl) (by kernel_rfl) (by kernel_rfl) ⟨by kernel_rfl, by kernel_rfl⟩ hi rfl (pos2 lad_ rfl) rfl (fun _ => rfl) (fun _ _ h => h) ⟨_, Try.func72, by kernel_rfl, by kernel_rfl⟩ mkByteS_c (one_in zad_) (bnd_in (T := mByteS) hbad_ ead_1) nad_1 aad_0 bad_0 dad_0 (Mad_.todo oad_0 nad_1 bad_0 dad_0) ?_)
  intro a W S Mad_
  refine wp_seq (me_i2 (l0 := 40) (l1 := 1) (m0 := 1) (K := 43) (eA := 76) Mad_ S rfl (by decide) (by decide) (by kernel_rfl) (by kernel_rfl) (by kernel_rfl) (by kernel_rfl) (by kernel_rfl) hi nad_1 xad_1 rfl (pos2 lad_ rfl) ?_)
  intro a W S Mad_
  replace Mad_ := Mad_.wide aad_1
  refine wp_seq (me_nx Mad_ S rfl zad_ (bnd0 hbad_ ead_1) (by decide) (by decide) ?_)
  intro a S Mad_
  replace M := backad_ _ Mad_
  replace S := Sl.two (T := mFile) S
  refine wp_seq (me_b1 (l0 := 42) (m0 := 42) (K := 43) (eA := 76) M S rfl (by decide) (by decide) (by kernel_rfl) (by kernel_rfl) (by kernel_rfl) (by kernel_rfl) (z_in z0) hi na4 xa4 rfl (pos1 hp rfl) ?_)
  intro a W S M
  replace M := M.wide aa4
  refine me_nx M S rfl z0 (bnd0 hk ea4) (by decide) (by decide) ?_
  intro a S M
  exact kc a _ S M
set_option maxRecDepth 10000 in
set_option maxHeartbeats 4000000 in
theorem mkMsgS_c : MkF Try.prog mMsgS v1 37 := by
  rintro us xs w F k ⟨rfl, o, c, rfl⟩ h1 hk
  refine calls_of_wp Try.func37 rfl ?_
  have e : k + ((mMsgS.cntV [] : Nat) : Int) = k := by show k + ((0 : Nat) : Int) = k; omega
  rw [e]
  exact row_none rfl (by decide) rfl (by kernel_rfl) ⟨rfl, Chg.refl _ _, [], ⟨rfl, o, c, rfl⟩, rfl, rfl⟩
set_option maxRecDepth 10000 in
set_option maxHeartbeats 4000000 in
theorem mkIntA2S_c : MkF Try.prog mIntA2S v1 38 := by
  rintro us xs w F k ⟨rfl, o, c, rfl⟩ h1 hk
  refine calls_of_wp Try.func38 rfl ?_
  have e : k + ((mIntA2S.cntV [] : Nat) : Int) = k := by show k + ((0 : Nat) : Int) = k; omega
  rw [e]
  exact row_none rfl (by decide) rfl (by kernel_rfl) ⟨rfl, Chg.refl _ _, [], ⟨rfl, o, c, rfl⟩, rfl, rfl⟩
set_option maxRecDepth 10000 in
set_option maxHeartbeats 4000000 in
theorem mkStringS_c : MkF Try.prog mStringS v1 40 := by
  rintro us xs w F k ⟨rfl, o, c, rfl⟩ h1 hk
  refine calls_of_wp Try.func40 rfl ?_
  have e : k + ((mStringS.cntV [] : Nat) : Int) = k := by show k + ((0 : Nat) : Int) = k; omega
  rw [e]
  exact row_none rfl (by decide) rfl (by kernel_rfl) ⟨rfl, Chg.refl _ _, [], ⟨rfl, o, c, rfl⟩, rfl, rfl⟩
set_option maxRecDepth 10000 in
set_option maxHeartbeats 4000000 in
theorem mkCluster_c : MkF Try.prog mCluster vA 11 := by
  intro us x w F k hown h1 hk
  replace hown := mCluster.trim hown
  obtain ⟨⟨⟨⟨⟨⟨⟨ya, xa0⟩, xa1⟩, xa2⟩, xa3⟩, xa4⟩, xa5⟩, xa6⟩ := x
  obtain rfl : ya = () := rfl
  obtain ⟨_, ua6, Ha6, Ga6, rfl, aa6, ba6, da6, ⟨_, ua5, Ha5, Ga5, rfl, aa5, ba5, da5, ⟨_, ua4, Ha4, Ga4, rfl, aa4, ba4, da4, ⟨_, ua3, Ha3, Ga3, rfl, aa3, ba3, da3, ⟨_, ua2, Ha2, Ga2, rfl, aa2, ba2, da2, ⟨_, ua1, Ha1, Ga1, rfl, aa1, ba1, da1, ⟨_, ua0, Ha0, Ga0, rfl, aa0, ba0, da0, rfl, oa0⟩, oa1⟩, oa2⟩, oa3⟩, oa4⟩, oa5⟩, oa6⟩ := hown
  have l0 : ua0.length = 1 := mReplicaS.len oa0
  have l1 : ua1.length = 2 := mGroup.len oa1
  have l2 : ua2.length = 1 := mMsgS.len oa2
  have l3 : ua3.length = 1 := mIntA2S.len oa3
  have l4 : ua4.length = 1 := mEntryS.len oa4
  have l5 : ua5.length = 1 := mStringS.len oa5
  have e7 : (mTwo (mTwo (mTwo (mTwo (mTwo (mTwo (mTwo mNil mReplicaS) mGroup) mMsgS) mIntA2S) mEntryS) mStringS) mBool).cntV ((((((((), xa0), xa1), xa2), xa3), xa4), xa5), xa6) ≤ mCluster.cntV ((((((((), xa0), xa1), xa2), xa3), xa4), xa5), xa6) := Nat.le_refl _
  have e6 : (mTwo (mTwo (mTwo (mTwo (mTwo (mTwo mNil mReplicaS) mGroup) mMsgS) mIntA2S) mEntryS) mStringS).cntV (((((((), xa0), xa1), xa2), xa3), xa4), xa5) ≤ mCluster.cntV ((((((((), xa0), xa1), xa2), xa3), xa4), xa5), xa6) := Nat.le_trans (Nat.le_add_right _ _) e7
  have s6 : (mTwo (mTwo (mTwo (mTwo (mTwo (mTwo (mTwo mNil mReplicaS) mGroup) mMsgS) mIntA2S) mEntryS) mStringS) mBool).cntV ((((((((), xa0), xa1), xa2), xa3), xa4), xa5), xa6) = (mTwo (mTwo (mTwo (mTwo (mTwo (mTwo mNil mReplicaS) mGroup) mMsgS) mIntA2S) mEntryS) mStringS).cntV (((((((), xa0), xa1), xa2), xa3), xa4), xa5) + mBool.cntV xa6 := rfl
  have e5 : (mTwo (mTwo (mTwo (mTwo (mTwo mNil mReplicaS) mGroup) mMsgS) mIntA2S) mEntryS).cntV ((((((), xa0), xa1), xa2), xa3), xa4) ≤ mCluster.cntV ((((((((), xa0), xa1), xa2), xa3), xa4), xa5), xa6) := Nat.le_trans (Nat.le_add_right _ _) e6
  have s5 : (mTwo (mTwo (mTwo (mTwo (mTwo (mTwo mNil mReplicaS) mGroup) mMsgS) mIntA2S) mEntryS) mStringS).cntV (((((((), xa0), xa1), xa2), xa3), xa4), xa5) = (mTwo (mTwo (mTwo (mTwo (mTwo mNil mReplicaS) mGroup) mMsgS) mIntA2S) mEntryS).cntV ((((((), xa0), xa1), xa2), xa3), xa4) + mStringS.cntV xa5 := rfl
  have e4 : (mTwo (mTwo (mTwo (mTwo mNil mReplicaS) mGroup) mMsgS) mIntA2S).cntV (((((), xa0), xa1), xa2), xa3) ≤ mCluster.cntV ((((((((), xa0), xa1), xa2), xa3), xa4), xa5), xa6) := Nat.le_trans (Nat.le_add_right _ _) e5
  have s4 : (mTwo (mTwo (mTwo (mTwo (mTwo mNil mReplicaS) mGroup) mMsgS) mIntA2S) mEntryS).cntV ((((((), xa0), xa1), xa2), xa3), xa4) = (mTwo (mTwo (mTwo (mTwo mNil mReplicaS) mGroup) mMsgS) mIntA2S).cntV (((((), xa0), xa1), xa2), xa3) + mEntryS.cntV xa4 := rfl
  have e3 : (mTwo (mTwo (mTwo mNil mReplicaS) mGroup) mMsgS).cntV ((((), xa0), xa1), xa2) ≤ mCluster.cntV ((((((((), xa0), xa1), xa2), xa3), xa4), xa5), xa6) := Nat.le_trans (Nat.le_add_right _ _) e4
  have s3 : (mTwo (mTwo (mTwo (mTwo mNil mReplicaS) mGroup) mMsgS) mIntA2S).cntV (((((), xa0), xa1), xa2), xa3) = (mTwo (mTwo (mTwo mNil mReplicaS) mGroup) mMsgS).cntV ((((), xa0), xa1), xa2) + mIntA2S.cntV xa3 := rfl
  have e2 : (mTwo (mTwo mNil mReplicaS) mGroup).cntV (((), xa0), xa1) ≤ mCluster.cntV ((((((((), xa0), xa1), xa2), xa3), xa4), xa5), xa6) := Nat.le_trans (Nat.le_add_right _ _) e3
  have s2 : (mTwo (mTwo (mTwo mNil mReplicaS) mGroup) mMsgS).cntV ((((), xa0), xa1), xa2) = (mTwo (mTwo mNil mReplicaS) mGroup).cntV (((), xa0), xa1) + mMsgS.cntV xa2 := rfl
  have e1 : (mTwo mNil mReplicaS).cntV ((), xa0) ≤ mCluster.cntV ((((((((), xa0), xa1), xa2), xa3), xa4), xa5), xa6) := Nat.le_trans (Nat.le_add_right _ _) e2
  have s1 : (mTwo (mTwo mNil mReplicaS) mGroup).cntV (((), xa0), xa1) = (mTwo mNil mReplicaS).cntV ((), xa0) + mGroup.cntV xa1 := rfl
  have e0 : mNil.cntV () ≤ mCluster.cntV ((((((((), xa0), xa1), xa2), xa3), xa4), xa5), xa6) := Nat.le_trans (Nat.le_add_right _ _) e1
  have s0 : (mTwo mNil mReplicaS).cntV ((), xa0) = mNil.cntV () + mReplicaS.cntV xa0 := rfl
  have w7 : ∀ q, (F q ∧ q < w.heap.size) → q < w.heap.size := fun _ h => h.2
  have w6 : ∀ q, Ha6 q → q < w.heap.size := fun q h => w7 q (aa6 q h)
  have w5 : ∀ q, Ha5 q → q < w.heap.size := fun q h => w6 q (aa5 q h)
  have w4 : ∀ q, Ha4 q → q < w.heap.size := fun q h => w5 q (aa4 q h)
  have w3 : ∀ q, Ha3 q → q < w.heap.size := fun q h => w4 q (aa3 q h)
  have w2 : ∀ q, Ha2 q → q < w.heap.size := fun q h => w3 q (aa2 q h)
  have w1 : ∀ q, Ha1 q → q < w.heap.size := fun q h => w2 q (aa1 q h)
  have w0 : ∀ q, Ha0 q → q < w.heap.size := fun q h => w1 q (aa0 q h)
  refine calls_of_wp Try.func11 rfl ?_
  refine mv_head (us := (((((([] ++ ua0) ++ ua1) ++ ua2) ++ ua3) ++ ua4) ++ ua5) ++ ua6) rfl rfl (by decide) ?_
  intro a W M _
  replace M := M.wide (G := Ha0) (fun _ h => h.elim)
  refine mv_call (n := 1) (b := xa0) (off := 0) (pre := []) (post := ua1 ++ (ua2 ++ (ua3 ++ (ua4 ++ (ua5 ++ (ua6)))))) M (by decide) (by kernel_rfl) v1 rfl (Or.inr ⟨rfl, ⟨by kernel_rfl, by kernel_rfl⟩, rfl⟩) ⟨_, Try.func35, by kernel_rfl, by kernel_rfl⟩ mkReplicaS_c (by simp only [List.append_assoc, List.nil_append]) rfl oa0 aa0 ba0 da0 w1 h1 (by have := e1; have := s0; omega) ?_
  intro a W M
  refine mv_call (n := 2) (b := xa1) (off := 1) (pre := [] ++ ua0) (post := ua2 ++ (ua3 ++ (ua4 ++ (ua5 ++ (ua6))))) M (by decide) (by kernel_rfl) vA rfl (Or.inl ⟨rfl, ⟨by kernel_rfl, by kernel_rfl⟩⟩) ⟨_, Try.func36, by kernel_rfl, by kernel_rfl⟩ mkGroup_c (by simp only [List.append_assoc, List.nil_append]) (by simp only [List.length_append, List.length_nil, l0]) oa1 aa1 ba1 da1 w2 h1 (by have := e2; have := s1; omega) ?_
  intro a W M
  refine mv_call (n := 1) (b := xa2) (off := 3) (pre := ([] ++ ua0) ++ ua1) (post := ua3 ++ (ua4 ++ (ua5 ++ (ua6)))) M (by decide) (by kernel_rfl) v1 rfl (Or.inr ⟨rfl, ⟨by kernel_rfl, by kernel_rfl⟩, rfl⟩) ⟨_, Try.func37, by kernel_rfl, by kernel_rfl⟩ mkMsgS_c (by simp only [List.append_assoc, List.nil_append]) (by simp only [List.length_append, List.length_nil, l0, l1]) oa2 aa2 ba2 da2 w3 h1 (by have := e3; have := s2; omega) ?_
  intro a W M
  refine mv_call (n := 1) (b := xa3) (off := 4) (pre := (([] ++ ua0) ++ ua1) ++ ua2) (post := ua4 ++ (ua5 ++ (ua6))) M (by decide) (by kernel_rfl) v1 rfl (Or.inr ⟨rfl, ⟨by kernel_rfl, by kernel_rfl⟩, rfl⟩) ⟨_, Try.func38, by kernel_rfl, by kernel_rfl⟩ mkIntA2S_c (by simp only [List.append_assoc, List.nil_append]) (by simp only [List.length_append, List.length_nil, l0, l1, l2]) oa3 aa3 ba3 da3 w4 h1 (by have := e4; have := s3; omega) ?_
  intro a W M
  refine mv_call (n := 1) (b := xa4) (off := 5) (pre := ((([] ++ ua0) ++ ua1) ++ ua2) ++ ua3) (post := ua5 ++ (ua6)) M (by decide) (by kernel_rfl) v1 rfl (Or.inr ⟨rfl, ⟨by kernel_rfl, by kernel_rfl⟩, rfl⟩) ⟨_, Try.func39, by kernel_rfl, by kernel_rfl⟩ mkEntryS_c (by simp only [List.append_assoc, List.nil_append]) (by simp only [List.length_append, List.length_nil, l0, l1, l2, l3]) oa4 aa4 ba4 da4 w5 h1 (by have := e5; have := s4; omega) ?_
  intro a W M
  refine mv_call (n := 1) (b := xa5) (off := 6) (pre := (((([] ++ ua0) ++ ua1) ++ ua2) ++ ua3) ++ ua4) (post := ua6) M (by decide) (by kernel_rfl) v1 rfl (Or.inr ⟨rfl, ⟨by kernel_rfl, by kernel_rfl⟩, rfl⟩) ⟨_, Try.func40, by kernel_rfl, by kernel_rfl⟩ mkStringS_c (by simp only [List.append_assoc, List.nil_append]) (by simp only [List.length_append, List.length_nil, l0, l1, l2, l3, l4]) oa5 aa5 ba5 da5 w6 h1 (by have := e6; have := s5; omega) ?_
  intro a W M
  replace M := (mv_skip (vs := ua6) (b := xa6) (U := mBool) M (fun _ _ => oa6) rfl (fun _ => trivial)).wide aa6
  refine mv_tail M (by decide) rfl ?_
  rintro ⟨x', g1, g2, g3⟩ hc
  exact ⟨rfl, hc.mono (fun _ h => h.1), x', mCluster.wid g1 (fun _ h => h.1), g2, g3⟩

end Go.Proofs.Ytmfbmnpfgbenmaa
