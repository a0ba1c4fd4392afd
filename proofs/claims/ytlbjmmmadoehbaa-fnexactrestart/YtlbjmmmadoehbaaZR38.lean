/-
  The functions that look for marks.
-/
import Derived.Test.YtlbjmmmadoehbaaZR15
namespace Go.Proofs.Ytlbjmmmadoehbaa
open Go.ChangeShapes Go.WideShapes Go.RowKit

set_option maxRecDepth 10000 in
set_option maxHeartbeats 4000000 in
theorem hdIntS_c : HdF Try.prog mIntS v1 35 := by
  intro us xs w k hrep hby h1 hk
  have hl : xs.length < 9223372036854775807 := mRow_len (T := mInt) (fun x => Nat.le_refl _) (by have h9 : mIntS.cntV xs = psum mInt.cntF xs xs.length := rfl; omega)
  refine calls_of_wp Try.func35 rfl ?_
  refine row_held (T := mInt) rfl (by decide) rfl (by kernel_rfl) hrep hby h1 hk hl ?_
  clear hrep hby h1 hk hl
  intro a W p o n c i x k S hi H h1 hk Q' kc
  replace S := S.nil
  have H : HdE mInt W p (o + i * 1) x (k + ((mNil.cntF () : Nat) : Int)) := by
    rw [show k + ((mNil.cntF () : Nat) : Int) = k by show k + ((0 : Nat) : Int) = k; omega]
    exact H
  have q0 : ((mNil.cntF () : Nat) : Int) = 0 := rfl
  have q1 : ((mInt.cntF x : Nat) : Int) = 1 := rfl
  refine wp_seq (hd_i0 (K := 1) (eA := 3) S H (by decide) (by kernel_rfl) (by kernel_rfl) ⟨by kernel_rfl, by kernel_rfl⟩ hi (by decide) (by omega) ?_)
  intro a S
  refine hd_nx mInt x S rfl (by omega) (by omega) (by decide) (by decide) ?_
  intro a S
  exact kc a W S.un (Below.refl _ W)
set_option maxRecDepth 10000 in
set_option maxHeartbeats 4000000 in
theorem hdGroup_c : HdF Try.prog mGroup vA 52 := by
  intro us x w k hrep hby h1 hk
  obtain ⟨⟨ya, xa0⟩, xa1⟩ := x
  obtain rfl : ya = () := rfl
  obtain ⟨_, u1, rfl, ⟨_, u0, rfl, rfl, r0⟩, r1⟩ := hrep
  obtain ⟨⟨_, h0⟩, h1⟩ := hby
  have l0 : u0.length = 1 := mIntS.cd.len r0
  have e2 : (mTwo (mTwo mNil mIntS) mIntS).cntV (((), xa0), xa1) ≤ mGroup.cntV (((), xa0), xa1) := Nat.le_refl _
  have e1 : (mTwo mNil mIntS).cntV ((), xa0) ≤ mGroup.cntV (((), xa0), xa1) := Nat.le_trans (Nat.le_add_right _ _) e2
  have s1 : (mTwo (mTwo mNil mIntS) mIntS).cntV (((), xa0), xa1) = (mTwo mNil mIntS).cntV ((), xa0) + mIntS.cntV xa1 := rfl
  have e0 : mNil.cntV () ≤ mGroup.cntV (((), xa0), xa1) := Nat.le_trans (Nat.le_add_right _ _) e1
  have s0 : (mTwo mNil mIntS).cntV ((), xa0) = mNil.cntV () + mIntS.cntV xa0 := rfl
  have q0 : k = k + ((mNil.cntV () : Nat) : Int) := by show k = k + ((0 : Nat) : Int); omega
  refine calls_of_wp Try.func52 rfl ?_
  refine hv_head (us := ([] ++ u0) ++ u1) rfl rfl (by decide) ?_
  intro a W M
  have M : Hv _ _ (k + ((mNil.cntV () : Nat) : Int)) _ _ _ := q0 ▸ M
  refine hv_call (n := 1) (off := 0) (pre := []) (post := u1) (U := mIntS) (b := xa0) M (by decide) (by kernel_rfl) v1 rfl (Or.inr ⟨rfl, ⟨by kernel_rfl, by kernel_rfl⟩, rfl⟩) ⟨_, Try.func35, by kernel_rfl, by kernel_rfl⟩ hdIntS_c (by simp only [List.nil_append]) rfl r0 h0 (by omega) (by have := e1; have := s0; omega) ?_
  intro a W M
  rw [show (k + ((mNil.cntV () : Nat) : Int)) + ((mIntS.cntV xa0 : Nat) : Int) = (k + (((mTwo mNil mIntS).cntV ((), xa0) : Nat) : Int)) by have := s0; omega] at M
  refine wp_seq (hv_chk M (by decide) (by omega) ?_)
  intro a M
  refine hv_call (n := 1) (off := 1) (pre := [] ++ u0) (post := []) (U := mIntS) (b := xa1) M (by decide) (by kernel_rfl) v1 rfl (Or.inr ⟨rfl, ⟨by kernel_rfl, by kernel_rfl⟩, rfl⟩) ⟨_, Try.func35, by kernel_rfl, by kernel_rfl⟩ hdIntS_c (by simp only [List.nil_append, List.append_nil]) (by simp only [List.length_append, List.length_nil, l0]) r1 h1 (by omega) (by have := e2; have := s1; omega) ?_
  intro a W M
  rw [show (k + (((mTwo mNil mIntS).cntV ((), xa0) : Nat) : Int)) + ((mIntS.cntV xa1 : Nat) : Int) = (k + (((mTwo (mTwo mNil mIntS) mIntS).cntV (((), xa0), xa1) : Nat) : Int)) by have := s1; omega] at M
  refine wp_seq (hv_chk M (by decide) (by omega) ?_)
  intro a M
  exact hv_tail M (by decide) rfl (fun hb => ⟨rfl, hb⟩)
set_option maxRecDepth 10000 in
set_option maxHeartbeats 4000000 in
theorem hdByteS_c : HdF Try.prog mByteS v1 53 := by
  intro us xs w k hrep hby h1 hk
  have hl : xs.length < 9223372036854775807 := mRow_len (T := mByte) (fun x => Nat.le_refl _) (by have h9 : mByteS.cntV xs = psum mByte.cntF xs xs.length := rfl; omega)
  refine calls_of_wp Try.func53 rfl ?_
  refine row_held (T := mByte) rfl (by decide) rfl (by kernel_rfl) hrep hby h1 hk hl ?_
  clear hrep hby h1 hk hl
  intro a W p o n c i x k S hi H h1 hk Q' kc
  replace S := S.nil
  have H : HdE mByte W p (o + i * 1) x (k + ((mNil.cntF () : Nat) : Int)) := by
    rw [show k + ((mNil.cntF () : Nat) : Int) = k by show k + ((0 : Nat) : Int) = k; omega]
    exact H
  have q0 : ((mNil.cntF () : Nat) : Int) = 0 := rfl
  have q1 : ((mByte.cntF x : Nat) : Int) = 1 := rfl
  refine wp_seq (hd_B0 (K := 1) (eA := 5) S H (by decide) (by kernel_rfl) (by kernel_rfl) ⟨by kernel_rfl, by kernel_rfl⟩ (by kernel_rfl) (by kernel_rfl) hi (by decide) (by omega) ?_)
  intro a S
  refine hd_nx mByte x S rfl (by omega) (by omega) (by decide) (by decide) ?_
  intro a S
  exact kc a W S.un (Below.refl _ W)
set_option maxRecDepth 10000 in
set_option maxHeartbeats 4000000 in
theorem hdEntryS_c : HdF Try.prog mEntryS v1 54 := by
  intro us xs w k hrep hby h1 hk
  have hl : xs.length < 9223372036854775807 := mRow_len (T := mEntry) (fun x => Nat.le_trans (Nat.le_trans (Nat.le_add_left 1 0) (Nat.le_add_right _ _)) (Nat.le_add_right _ _)) (by have h9 : mEntryS.cntV xs = psum mEntry.cntF xs xs.length := rfl; omega)
  refine calls_of_wp Try.func54 rfl ?_
  refine row_held (T := mEntry) rfl (by decide) rfl (by kernel_rfl) hrep hby h1 hk hl ?_
  clear hrep hby h1 hk hl
  intro a W p o n c i x k S hi H h1 hk Q' kc
  have Ha : HdE mEntry W p (o + i * 3) x k := H
  clear H
  have z0 : 1 ≤ k := h1
  have B : Below W.heap.size W W := Below.refl _ W
  obtain ⟨⟨⟨ya, xa0⟩, xa1⟩, xa2⟩ := x
  obtain rfl : ya = () := rfl
  have ea3 : (mTwo (mTwo (mTwo mNil mInt) mInt) mByteS).cntF ((((), xa0), xa1), xa2) ≤ mEntry.cntF ((((), xa0), xa1), xa2) := Nat.le_refl _
  have ea2 : (mTwo (mTwo mNil mInt) mInt).cntF (((), xa0), xa1) ≤ mEntry.cntF ((((), xa0), xa1), xa2) := Nat.le_trans (Nat.le_add_right _ _) ea3
  have ea1 : (mTwo mNil mInt).cntF ((), xa0) ≤ mEntry.cntF ((((), xa0), xa1), xa2) := Nat.le_trans (Nat.le_add_right _ _) ea2
  have ea0 : mNil.cntF () ≤ mEntry.cntF ((((), xa0), xa1), xa2) := Nat.le_trans (Nat.le_add_right _ _) ea1
  obtain ⟨Ha, ga2⟩ := hdTwo (m := 2) rfl Ha
  obtain ⟨Ha, ga1⟩ := hdTwo (m := 1) rfl Ha
  obtain ⟨Ha, ga0⟩ := hdTwo (m := 0) rfl Ha
  replace S := S.nil
  refine wp_seq (hd_i1 (l0 := 0) (K := 3) (eA := 67) S (ga0.lat B) (by decide) (by kernel_rfl) (by kernel_rfl) (by kernel_rfl) ⟨by kernel_rfl, by kernel_rfl⟩ hi (by decide) rfl ?_)
  intro a S
  refine wp_seq (hd_nx mInt xa0 S rfl z0 (bnd0 hk ea0) (by decide) (by decide) ?_)
  intro a S
  refine wp_seq (hd_i1 (l0 := 1) (K := 3) (eA := 67) S (ga1.lat B) (by decide) (by kernel_rfl) (by kernel_rfl) (by kernel_rfl) ⟨by kernel_rfl, by kernel_rfl⟩ hi (by decide) rfl ?_)
  intro a S
  refine wp_seq (hd_nx mInt xa1 S rfl z0 (bnd0 hk ea1) (by decide) (by decide) ?_)
  intro a S
  refine wp_seq (hd_c1 (l0 := 2) (K := 3) (eA := 67) (T := mByteS) (b := xa2) S (ga2.lat B) (by decide) (by kernel_rfl) (by kernel_rfl) (by kernel_rfl) ⟨by kernel_rfl, by kernel_rfl⟩ hi (by decide) rfl rfl (fun _ => rfl) (fun _ _ h => h) ⟨_, Try.func53, by kernel_rfl, by kernel_rfl⟩ hdByteS_c (one_in z0) (bnd_in (T := mByteS) hk ea3) ?_)
  intro a W S B2
  replace B := B.trans (B2.mono B.size)
  clear B2
  replace S := S.two
  refine hd_chk S (by decide) (by decide) (z_in z0) ?_
  intro a S
  exact kc a _ S B
set_option maxRecDepth 10000 in
set_option maxHeartbeats 4000000 in
theorem hdKeep_c : HdF Try.prog mKeep vA 34 := by
  intro us x w k hrep hby h1 hk
  obtain ⟨⟨⟨⟨⟨⟨⟨ya, xa0⟩, xa1⟩, xa2⟩, xa3⟩, xa4⟩, xa5⟩, xa6⟩ := x
  obtain rfl : ya = () := rfl
  obtain ⟨_, u6, rfl, ⟨_, u5, rfl, ⟨_, u4, rfl, ⟨_, u3, rfl, ⟨_, u2, rfl, ⟨_, u1, rfl, ⟨_, u0, rfl, rfl, r0⟩, r1⟩, r2⟩, r3⟩, r4⟩, r5⟩, r6⟩ := hrep
  obtain ⟨⟨⟨⟨⟨⟨⟨_, h0⟩, h1⟩, h2⟩, h3⟩, h4⟩, h5⟩, h6⟩ := hby
  have l0 : u0.length = 1 := mInt.cd.len r0
  have l1 : u1.length = 1 := mInt.cd.len r1
  have l2 : u2.length = 1 := mInt.cd.len r2
  have l3 : u3.length = 1 := mInt.cd.len r3
  have l4 : u4.length = 2 := mGroup.cd.len r4
  have l5 : u5.length = 1 := mByteS.cd.len r5
  have e7 : (mTwo (mTwo (mTwo (mTwo (mTwo (mTwo (mTwo mNil mInt) mInt) mInt) mInt) mGroup) mByteS) mEntryS).cntV ((((((((), xa0), xa1), xa2), xa3), xa4), xa5), xa6) ≤ mKeep.cntV ((((((((), xa0), xa1), xa2), xa3), xa4), xa5), xa6) := Nat.le_refl _
  have e6 : (mTwo (mTwo (mTwo (mTwo (mTwo (mTwo mNil mInt) mInt) mInt) mInt) mGroup) mByteS).cntV (((((((), xa0), xa1), xa2), xa3), xa4), xa5) ≤ mKeep.cntV ((((((((), xa0), xa1), xa2), xa3), xa4), xa5), xa6) := Nat.le_trans (Nat.le_add_right _ _) e7
  have s6 : (mTwo (mTwo (mTwo (mTwo (mTwo (mTwo (mTwo mNil mInt) mInt) mInt) mInt) mGroup) mByteS) mEntryS).cntV ((((((((), xa0), xa1), xa2), xa3), xa4), xa5), xa6) = (mTwo (mTwo (mTwo (mTwo (mTwo (mTwo mNil mInt) mInt) mInt) mInt) mGroup) mByteS).cntV (((((((), xa0), xa1), xa2), xa3), xa4), xa5) + mEntryS.cntV xa6 := rfl
  have e5 : (mTwo (mTwo (mTwo (mTwo (mTwo mNil mInt) mInt) mInt) mInt) mGroup).cntV ((((((), xa0), xa1), xa2), xa3), xa4) ≤ mKeep.cntV ((((((((), xa0), xa1), xa2), xa3), xa4), xa5), xa6) := Nat.le_trans (Nat.le_add_right _ _) e6
  have s5 : (mTwo (mTwo (mTwo (mTwo (mTwo (mTwo mNil mInt) mInt) mInt) mInt) mGroup) mByteS).cntV (((((((), xa0), xa1), xa2), xa3), xa4), xa5) = (mTwo (mTwo (mTwo (mTwo (mTwo mNil mInt) mInt) mInt) mInt) mGroup).cntV ((((((), xa0), xa1), xa2), xa3), xa4) + mByteS.cntV xa5 := rfl
  have e4 : (mTwo (mTwo (mTwo (mTwo mNil mInt) mInt) mInt) mInt).cntV (((((), xa0), xa1), xa2), xa3) ≤ mKeep.cntV ((((((((), xa0), xa1), xa2), xa3), xa4), xa5), xa6) := Nat.le_trans (Nat.le_add_right _ _) e5
  have s4 : (mTwo (mTwo (mTwo (mTwo (mTwo mNil mInt) mInt) mInt) mInt) mGroup).cntV ((((((), xa0), xa1), xa2), xa3), xa4) = (mTwo (mTwo (mTwo (mTwo mNil mInt) mInt) mInt) mInt).cntV (((((), xa0), xa1), xa2), xa3) + mGroup.cntV xa4 := rfl
  have e3 : (mTwo (mTwo (mTwo mNil mInt) mInt) mInt).cntV ((((), xa0), xa1), xa2) ≤ mKeep.cntV ((((((((), xa0), xa1), xa2), xa3), xa4), xa5), xa6) := Nat.le_trans (Nat.le_add_right _ _) e4
  have s3 : (mTwo (mTwo (mTwo (mTwo mNil mInt) mInt) mInt) mInt).cntV (((((), xa0), xa1), xa2), xa3) = (mTwo (mTwo (mTwo mNil mInt) mInt) mInt).cntV ((((), xa0), xa1), xa2) + mInt.cntV xa3 := rfl
  have e2 : (mTwo (mTwo mNil mInt) mInt).cntV (((), xa0), xa1) ≤ mKeep.cntV ((((((((), xa0), xa1), xa2), xa3), xa4), xa5), xa6) := Nat.le_trans (Nat.le_add_right _ _) e3
  have s2 : (mTwo (mTwo (mTwo mNil mInt) mInt) mInt).cntV ((((), xa0), xa1), xa2) = (mTwo (mTwo mNil mInt) mInt).cntV (((), xa0), xa1) + mInt.cntV xa2 := rfl
  have e1 : (mTwo mNil mInt).cntV ((), xa0) ≤ mKeep.cntV ((((((((), xa0), xa1), xa2), xa3), xa4), xa5), xa6) := Nat.le_trans (Nat.le_add_right _ _) e2
  have s1 : (mTwo (mTwo mNil mInt) mInt).cntV (((), xa0), xa1) = (mTwo mNil mInt).cntV ((), xa0) + mInt.cntV xa1 := rfl
  have e0 : mNil.cntV () ≤ mKeep.cntV ((((((((), xa0), xa1), xa2), xa3), xa4), xa5), xa6) := Nat.le_trans (Nat.le_add_right _ _) e1
  have s0 : (mTwo mNil mInt).cntV ((), xa0) = mNil.cntV () + mInt.cntV xa0 := rfl
  have q0 : k = k + ((mNil.cntV () : Nat) : Int) := by show k = k + ((0 : Nat) : Int); omega
  refine calls_of_wp Try.func34 rfl ?_
  refine hv_head (us := (((((([] ++ u0) ++ u1) ++ u2) ++ u3) ++ u4) ++ u5) ++ u6) rfl rfl (by decide) ?_
  intro a W M
  have M : Hv _ _ (k + ((mNil.cntV () : Nat) : Int)) _ _ _ := q0 ▸ M
  replace M : Hv _ _ (k + (((mTwo mNil mInt).cntV ((), xa0) : Nat) : Int)) _ _ _ := M
  replace M : Hv _ _ (k + (((mTwo (mTwo mNil mInt) mInt).cntV (((), xa0), xa1) : Nat) : Int)) _ _ _ := M
  replace M : Hv _ _ (k + (((mTwo (mTwo (mTwo mNil mInt) mInt) mInt).cntV ((((), xa0), xa1), xa2) : Nat) : Int)) _ _ _ := M
  replace M : Hv _ _ (k + (((mTwo (mTwo (mTwo (mTwo mNil mInt) mInt) mInt) mInt).cntV (((((), xa0), xa1), xa2), xa3) : Nat) : Int)) _ _ _ := M
  refine hv_call (n := 2) (off := 4) (pre := ((([] ++ u0) ++ u1) ++ u2) ++ u3) (post := u5 ++ (u6)) (U := mGroup) (b := xa4) M (by decide) (by kernel_rfl) vA rfl (Or.inl ⟨rfl, ⟨by kernel_rfl, by kernel_rfl⟩⟩) ⟨_, Try.func52, by kernel_rfl, by kernel_rfl⟩ hdGroup_c (by simp only [List.append_assoc, List.nil_append]) (by simp only [List.length_append, List.length_nil, l0, l1, l2, l3]) r4 h4 (by omega) (by have := e5; have := s4; omega) ?_
  intro a W M
  rw [show (k + (((mTwo (mTwo (mTwo (mTwo mNil mInt) mInt) mInt) mInt).cntV (((((), xa0), xa1), xa2), xa3) : Nat) : Int)) + ((mGroup.cntV xa4 : Nat) : Int) = (k + (((mTwo (mTwo (mTwo (mTwo (mTwo mNil mInt) mInt) mInt) mInt) mGroup).cntV ((((((), xa0), xa1), xa2), xa3), xa4) : Nat) : Int)) by have := s4; omega] at M
  refine wp_seq (hv_chk M (by decide) (by omega) ?_)
  intro a M
  refine hv_call (n := 1) (off := 6) (pre := (((([] ++ u0) ++ u1) ++ u2) ++ u3) ++ u4) (post := u6) (U := mByteS) (b := xa5) M (by decide) (by kernel_rfl) v1 rfl (Or.inr ⟨rfl, ⟨by kernel_rfl, by kernel_rfl⟩, rfl⟩) ⟨_, Try.func53, by kernel_rfl, by kernel_rfl⟩ hdByteS_c (by simp only [List.append_assoc, List.nil_append]) (by simp only [List.length_append, List.length_nil, l0, l1, l2, l3, l4]) r5 h5 (by omega) (by have := e6; have := s5; omega) ?_
  intro a W M
  rw [show (k + (((mTwo (mTwo (mTwo (mTwo (mTwo mNil mInt) mInt) mInt) mInt) mGroup).cntV ((((((), xa0), xa1), xa2), xa3), xa4) : Nat) : Int)) + ((mByteS.cntV xa5 : Nat) : Int) = (k + (((mTwo (mTwo (mTwo (mTwo (mTwo (mTwo mNil mInt) mInt) mInt) mInt) mGroup) mByteS).cntV (((((((), xa0), xa1), xa2), xa3), xa4), xa5) : Nat) : Int)) by have := s5; omega] at M
  refine wp_seq (hv_chk M (by decide) (by omega) ?_)
  intro a M
  refine hv_call (n := 1) (off := 7) (pre := ((((([] ++ u0) ++ u1) ++ u2) ++ u3) ++ u4) ++ u5) (post := []) (U := mEntryS) (b := xa6) M (by decide) (by kernel_rfl) v1 rfl (Or.inr ⟨rfl, ⟨by kernel_rfl, by kernel_rfl⟩, rfl⟩) ⟨_, Try.func54, by kernel_rfl, by kernel_rfl⟩ hdEntryS_c (by simp only [List.append_assoc, List.nil_append, List.append_nil]) (by simp only [List.length_append, List.length_nil, l0, l1, l2, l3, l4, l5]) r6 h6 (by omega) (by have := e7; have := s6; omega) ?_
  intro a W M
  rw [show (k + (((mTwo (mTwo (mTwo (mTwo (mTwo (mTwo mNil mInt) mInt) mInt) mInt) mGroup) mByteS).cntV (((((((), xa0), xa1), xa2), xa3), xa4), xa5) : Nat) : Int)) + ((mEntryS.cntV xa6 : Nat) : Int) = (k + (((mTwo (mTwo (mTwo (mTwo (mTwo (mTwo (mTwo mNil mInt) mInt) mInt) mInt) mGroup) mByteS) mEntryS).cntV ((((((((), xa0), xa1), xa2), xa3), xa4), xa5), xa6) : Nat) : Int)) by have := s6; omega] at M
  refine wp_seq (hv_chk M (by decide) (by omega) ?_)
  intro a M
  exact hv_tail M (by decide) rfl (fun hb => ⟨rfl, hb⟩)
set_option maxRecDepth 10000 in
set_option maxHeartbeats 4000000 in
theorem hdServer_c : HdF Try.prog mServer vA 12 := by
  intro us x w k hrep hby h1 hk
  obtain ⟨⟨⟨⟨⟨⟨⟨⟨⟨⟨ya, xa0⟩, xa1⟩, xa2⟩, xa3⟩, xa4⟩, xa5⟩, xa6⟩, xa7⟩, xa8⟩, xa9⟩ := x
  obtain rfl : ya = () := rfl
  obtain ⟨_, u9, rfl, ⟨_, u8, rfl, ⟨_, u7, rfl, ⟨_, u6, rfl, ⟨_, u5, rfl, ⟨_, u4, rfl, ⟨_, u3, rfl, ⟨_, u2, rfl, ⟨_, u1, rfl, ⟨_, u0, rfl, rfl, r0⟩, r1⟩, r2⟩, r3⟩, r4⟩, r5⟩, r6⟩, r7⟩, r8⟩, r9⟩ := hrep
  obtain ⟨⟨⟨⟨⟨⟨⟨⟨⟨⟨_, h0⟩, h1⟩, h2⟩, h3⟩, h4⟩, h5⟩, h6⟩, h7⟩, h8⟩, h9⟩ := hby
  have l0 : u0.length = 1 := mInt.cd.len r0
  have l1 : u1.length = 8 := mKeep.cd.len r1
  have l2 : u2.length = 1 := mInt.cd.len r2
  have l3 : u3.length = 1 := mInt.cd.len r3
  have l4 : u4.length = 1 := mInt.cd.len r4
  have l5 : u5.length = 1 := mIntS.cd.len r5
  have l6 : u6.length = 8 := (mArr 8).cd.len r6
  have l7 : u7.length = 8 := (mArr 8).cd.len r7
  have l8 : u8.length = 1 := mInt.cd.len r8
  have e10 : (mTwo (mTwo (mTwo (mTwo (mTwo (mTwo (mTwo (mTwo (mTwo (mTwo mNil mInt) mKeep) mInt) mInt) mInt) mIntS) (mArr 8)) (mArr 8)) mInt) mInt).cntV (((((((((((), xa0), xa1), xa2), xa3), xa4), xa5), xa6), xa7), xa8), xa9) ≤ mServer.cntV (((((((((((), xa0), xa1), xa2), xa3), xa4), xa5), xa6), xa7), xa8), xa9) := Nat.le_refl _
  have e9 : (mTwo (mTwo (mTwo (mTwo (mTwo (mTwo (mTwo (mTwo (mTwo mNil mInt) mKeep) mInt) mInt) mInt) mIntS) (mArr 8)) (mArr 8)) mInt).cntV ((((((((((), xa0), xa1), xa2), xa3), xa4), xa5), xa6), xa7), xa8) ≤ mServer.cntV (((((((((((), xa0), xa1), xa2), xa3), xa4), xa5), xa6), xa7), xa8), xa9) := Nat.le_trans (Nat.le_add_right _ _) e10
  have s9 : (mTwo (mTwo (mTwo (mTwo (mTwo (mTwo (mTwo (mTwo (mTwo (mTwo mNil mInt) mKeep) mInt) mInt) mInt) mIntS) (mArr 8)) (mArr 8)) mInt) mInt).cntV (((((((((((), xa0), xa1), xa2), xa3), xa4), xa5), xa6), xa7), xa8), xa9) = (mTwo (mTwo (mTwo (mTwo (mTwo (mTwo (mTwo (mTwo (mTwo mNil mInt) mKeep) mInt) mInt) mInt) mIntS) (mArr 8)) (mArr 8)) mInt).cntV ((((((((((), xa0), xa1), xa2), xa3), xa4), xa5), xa6), xa7), xa8) + mInt.cntV xa9 := rfl
  have e8 : (mTwo (mTwo (mTwo (mTwo (mTwo (mTwo (mTwo (mTwo mNil mInt) mKeep) mInt) mInt) mInt) mIntS) (mArr 8)) (mArr 8)).cntV (((((((((), xa0), xa1), xa2), xa3), xa4), xa5), xa6), xa7) ≤ mServer.cntV (((((((((((), xa0), xa1), xa2), xa3), xa4), xa5), xa6), xa7), xa8), xa9) := Nat.le_trans (Nat.le_add_right _ _) e9
  have s8 : (mTwo (mTwo (mTwo (mTwo (mTwo (mTwo (mTwo (mTwo (mTwo mNil mInt) mKeep) mInt) mInt) mInt) mIntS) (mArr 8)) (mArr 8)) mInt).cntV ((((((((((), xa0), xa1), xa2), xa3), xa4), xa5), xa6), xa7), xa8) = (mTwo (mTwo (mTwo (mTwo (mTwo (mTwo (mTwo (mTwo mNil mInt) mKeep) mInt) mInt) mInt) mIntS) (mArr 8)) (mArr 8)).cntV (((((((((), xa0), xa1), xa2), xa3), xa4), xa5), xa6), xa7) + mInt.cntV xa8 := rfl
  have e7 : (mTwo (mTwo (mTwo (mTwo (mTwo (mTwo (mTwo mNil mInt) mKeep) mInt) mInt) mInt) mIntS) (mArr 8)).cntV ((((((((), xa0), xa1), xa2), xa3), xa4), xa5), xa6) ≤ mServer.cntV (((((((((((), xa0), xa1), xa2), xa3), xa4), xa5), xa6), xa7), xa8), xa9) := Nat.le_trans (Nat.le_add_right _ _) e8
  have s7 : (mTwo (mTwo (mTwo (mTwo (mTwo (mTwo (mTwo (mTwo mNil mInt) mKeep) mInt) mInt) mInt) mIntS) (mArr 8)) (mArr 8)).cntV (((((((((), xa0), xa1), xa2), xa3), xa4), xa5), xa6), xa7) = (mTwo (mTwo (mTwo (mTwo (mTwo (mTwo (mTwo mNil mInt) mKeep) mInt) mInt) mInt) mIntS) (mArr 8)).cntV ((((((((), xa0), xa1), xa2), xa3), xa4), xa5), xa6) + (mArr 8).cntV xa7 := rfl
  have e6 : (mTwo (mTwo (mTwo (mTwo (mTwo (mTwo mNil mInt) mKeep) mInt) mInt) mInt) mIntS).cntV (((((((), xa0), xa1), xa2), xa3), xa4), xa5) ≤ mServer.cntV (((((((((((), xa0), xa1), xa2), xa3), xa4), xa5), xa6), xa7), xa8), xa9) := Nat.le_trans (Nat.le_add_right _ _) e7
  have s6 : (mTwo (mTwo (mTwo (mTwo (mTwo (mTwo (mTwo mNil mInt) mKeep) mInt) mInt) mInt) mIntS) (mArr 8)).cntV ((((((((), xa0), xa1), xa2), xa3), xa4), xa5), xa6) = (mTwo (mTwo (mTwo (mTwo (mTwo (mTwo mNil mInt) mKeep) mInt) mInt) mInt) mIntS).cntV (((((((), xa0), xa1), xa2), xa3), xa4), xa5) + (mArr 8).cntV xa6 := rfl
  have e5 : (mTwo (mTwo (mTwo (mTwo (mTwo mNil mInt) mKeep) mInt) mInt) mInt).cntV ((((((), xa0), xa1), xa2), xa3), xa4) ≤ mServer.cntV (((((((((((), xa0), xa1), xa2), xa3), xa4), xa5), xa6), xa7), xa8), xa9) := Nat.le_trans (Nat.le_add_right _ _) e6
  have s5 : (mTwo (mTwo (mTwo (mTwo (mTwo (mTwo mNil mInt) mKeep) mInt) mInt) mInt) mIntS).cntV (((((((), xa0), xa1), xa2), xa3), xa4), xa5) = (mTwo (mTwo (mTwo (mTwo (mTwo mNil mInt) mKeep) mInt) mInt) mInt).cntV ((((((), xa0), xa1), xa2), xa3), xa4) + mIntS.cntV xa5 := rfl
  have e4 : (mTwo (mTwo (mTwo (mTwo mNil mInt) mKeep) mInt) mInt).cntV (((((), xa0), xa1), xa2), xa3) ≤ mServer.cntV (((((((((((), xa0), xa1), xa2), xa3), xa4), xa5), xa6), xa7), xa8), xa9) := Nat.le_trans (Nat.le_add_right _ _) e5
  have s4 : (mTwo (mTwo (mTwo (mTwo (mTwo mNil mInt) mKeep) mInt) mInt) mInt).cntV ((((((), xa0), xa1), xa2), xa3), xa4) = (mTwo (mTwo (mTwo (mTwo mNil mInt) mKeep) mInt) mInt).cntV (((((), xa0), xa1), xa2), xa3) + mInt.cntV xa4 := rfl
  have e3 : (mTwo (mTwo (mTwo mNil mInt) mKeep) mInt).cntV ((((), xa0), xa1), xa2) ≤ mServer.cntV (((((((((((), xa0), xa1), xa2), xa3), xa4), xa5), xa6), xa7), xa8), xa9) := Nat.le_trans (Nat.le_add_right _ _) e4
  have s3 : (mTwo (mTwo (mTwo (mTwo mNil mInt) mKeep) mInt) mInt).cntV (((((), xa0), xa1), xa2), xa3) = (mTwo (mTwo (mTwo mNil mInt) mKeep) mInt).cntV ((((), xa0), xa1), xa2) + mInt.cntV xa3 := rfl
  have e2 : (mTwo (mTwo mNil mInt) mKeep).cntV (((), xa0), xa1) ≤ mServer.cntV (((((((((((), xa0), xa1), xa2), xa3), xa4), xa5), xa6), xa7), xa8), xa9) := Nat.le_trans (Nat.le_add_right _ _) e3
  have s2 : (mTwo (mTwo (mTwo mNil mInt) mKeep) mInt).cntV ((((), xa0), xa1), xa2) = (mTwo (mTwo mNil mInt) mKeep).cntV (((), xa0), xa1) + mInt.cntV xa2 := rfl
  have e1 : (mTwo mNil mInt).cntV ((), xa0) ≤ mServer.cntV (((((((((((), xa0), xa1), xa2), xa3), xa4), xa5), xa6), xa7), xa8), xa9) := Nat.le_trans (Nat.le_add_right _ _) e2
  have s1 : (mTwo (mTwo mNil mInt) mKeep).cntV (((), xa0), xa1) = (mTwo mNil mInt).cntV ((), xa0) + mKeep.cntV xa1 := rfl
  have e0 : mNil.cntV () ≤ mServer.cntV (((((((((((), xa0), xa1), xa2), xa3), xa4), xa5), xa6), xa7), xa8), xa9) := Nat.le_trans (Nat.le_add_right _ _) e1
  have s0 : (mTwo mNil mInt).cntV ((), xa0) = mNil.cntV () + mInt.cntV xa0 := rfl
  have q0 : k = k + ((mNil.cntV () : Nat) : Int) := by show k = k + ((0 : Nat) : Int); omega
  refine calls_of_wp Try.func12 rfl ?_
  refine hv_head (us := ((((((((([] ++ u0) ++ u1) ++ u2) ++ u3) ++ u4) ++ u5) ++ u6) ++ u7) ++ u8) ++ u9) rfl rfl (by decide) ?_
  intro a W M
  have M : Hv _ _ (k + ((mNil.cntV () : Nat) : Int)) _ _ _ := q0 ▸ M
  replace M : Hv _ _ (k + (((mTwo mNil mInt).cntV ((), xa0) : Nat) : Int)) _ _ _ := M
  refine hv_call (n := 8) (off := 1) (pre := [] ++ u0) (post := u2 ++ (u3 ++ (u4 ++ (u5 ++ (u6 ++ (u7 ++ (u8 ++ (u9)))))))) (U := mKeep) (b := xa1) M (by decide) (by kernel_rfl) vA rfl (Or.inl ⟨rfl, ⟨by kernel_rfl, by kernel_rfl⟩⟩) ⟨_, Try.func34, by kernel_rfl, by kernel_rfl⟩ hdKeep_c (by simp only [List.append_assoc, List.nil_append]) (by simp only [List.length_append, List.length_nil, l0]) r1 h1 (by omega) (by have := e2; have := s1; omega) ?_
  intro a W M
  rw [show (k + (((mTwo mNil mInt).cntV ((), xa0) : Nat) : Int)) + ((mKeep.cntV xa1 : Nat) : Int) = (k + (((mTwo (mTwo mNil mInt) mKeep).cntV (((), xa0), xa1) : Nat) : Int)) by have := s1; omega] at M
  refine wp_seq (hv_chk M (by decide) (by omega) ?_)
  intro a M
  replace M : Hv _ _ (k + (((mTwo (mTwo (mTwo mNil mInt) mKeep) mInt).cntV ((((), xa0), xa1), xa2) : Nat) : Int)) _ _ _ := M
  replace M : Hv _ _ (k + (((mTwo (mTwo (mTwo (mTwo mNil mInt) mKeep) mInt) mInt).cntV (((((), xa0), xa1), xa2), xa3) : Nat) : Int)) _ _ _ := M
  replace M : Hv _ _ (k + (((mTwo (mTwo (mTwo (mTwo (mTwo mNil mInt) mKeep) mInt) mInt) mInt).cntV ((((((), xa0), xa1), xa2), xa3), xa4) : Nat) : Int)) _ _ _ := M
  refine hv_call (n := 1) (off := 12) (pre := (((([] ++ u0) ++ u1) ++ u2) ++ u3) ++ u4) (post := u6 ++ (u7 ++ (u8 ++ (u9)))) (U := mIntS) (b := xa5) M (by decide) (by kernel_rfl) v1 rfl (Or.inr ⟨rfl, ⟨by kernel_rfl, by kernel_rfl⟩, rfl⟩) ⟨_, Try.func35, by kernel_rfl, by kernel_rfl⟩ hdIntS_c (by simp only [List.append_assoc, List.nil_append]) (by simp only [List.length_append, List.length_nil, l0, l1, l2, l3, l4]) r5 h5 (by omega) (by have := e6; have := s5; omega) ?_
  intro a W M
  rw [show (k + (((mTwo (mTwo (mTwo (mTwo (mTwo mNil mInt) mKeep) mInt) mInt) mInt).cntV ((((((), xa0), xa1), xa2), xa3), xa4) : Nat) : Int)) + ((mIntS.cntV xa5 : Nat) : Int) = (k + (((mTwo (mTwo (mTwo (mTwo (mTwo (mTwo mNil mInt) mKeep) mInt) mInt) mInt) mIntS).cntV (((((((), xa0), xa1), xa2), xa3), xa4), xa5) : Nat) : Int)) by have := s5; omega] at M
  refine wp_seq (hv_chk M (by decide) (by omega) ?_)
  intro a M
  replace M : Hv _ _ (k + (((mTwo (mTwo (mTwo (mTwo (mTwo (mTwo (mTwo mNil mInt) mKeep) mInt) mInt) mInt) mIntS) (mArr 8)).cntV ((((((((), xa0), xa1), xa2), xa3), xa4), xa5), xa6) : Nat) : Int)) _ _ _ := M
  replace M : Hv _ _ (k + (((mTwo (mTwo (mTwo (mTwo (mTwo (mTwo (mTwo (mTwo mNil mInt) mKeep) mInt) mInt) mInt) mIntS) (mArr 8)) (mArr 8)).cntV (((((((((), xa0), xa1), xa2), xa3), xa4), xa5), xa6), xa7) : Nat) : Int)) _ _ _ := M
  replace M : Hv _ _ (k + (((mTwo (mTwo (mTwo (mTwo (mTwo (mTwo (mTwo (mTwo (mTwo mNil mInt) mKeep) mInt) mInt) mInt) mIntS) (mArr 8)) (mArr 8)) mInt).cntV ((((((((((), xa0), xa1), xa2), xa3), xa4), xa5), xa6), xa7), xa8) : Nat) : Int)) _ _ _ := M
  replace M : Hv _ _ (k + (((mTwo (mTwo (mTwo (mTwo (mTwo (mTwo (mTwo (mTwo (mTwo (mTwo mNil mInt) mKeep) mInt) mInt) mInt) mIntS) (mArr 8)) (mArr 8)) mInt) mInt).cntV (((((((((((), xa0), xa1), xa2), xa3), xa4), xa5), xa6), xa7), xa8), xa9) : Nat) : Int)) _ _ _ := M
  exact hv_tail M (by decide) rfl (fun hb => ⟨rfl, hb⟩)

end Go.Proofs.Ytlbjmmmadoehbaa
