/-
  The functions that mark.
-/
import Derived.Test.YtmfbmnpfgbenmaaZW27
namespace Go.Proofs.Ytmfbmnpfgbenmaa
open Go.ChangeShapes Go.WideShapes Go.RowKit

set_option maxRecDepth 10000 in
set_option maxHeartbeats 4000000 in
theorem mkIntS_c : MkF Try.prog mIntS v1 10 := by
  intro us xs w F k hown h1 hk
  refine calls_of_wp Try.func10 rfl ?_
  refine row_mark (T := mInt) rfl (by decide) rfl (by kernel_rfl) hown h1 hk ?_
  clear hown h1 hk
  intro a W p o n c i pre us post x k F S hi hb hp hown np h1 hk Q' kc
  have hown : us = [.int .i64 x] := hown
  subst hown
  have M := Me.start (k0 := k) hb
  replace S := S.nil
  have hp : pre.length = o + i * 1 := hp
  have q0 : ((mNil.cntF () : Nat) : Int) = 0 := rfl
  have q1 : ((mInt.cntF x : Nat) : Int) = 1 := rfl
  refine wp_seq (me_i0 (m0 := 0) (K := 1) (eA := 3) M S rfl (by decide) (by decide) (by kernel_rfl) (by kernel_rfl) (by kernel_rfl) hi (fun h => h) x rfl (by omega) ?_)
  intro a W S M
  refine me_nx M S rfl (by omega) (by omega) (by decide) (by decide) ?_
  intro a S M
  exact kc a W S.un (M.un.wide (fun _ h => h.elim))
set_option maxRecDepth 10000 in
set_option maxHeartbeats 4000000 in
theorem mkGroup_c : MkF Try.prog mGroup vA 36 := by
  intro us x w F k hown h1 hk
  replace hown := mGroup.trim hown
  obtain ⟨⟨ya, xa0⟩, xa1⟩ := x
  obtain rfl : ya = () := rfl
  obtain ⟨_, ua1, Ha1, Ga1, rfl, aa1, ba1, da1, ⟨_, ua0, Ha0, Ga0, rfl, aa0, ba0, da0, rfl, oa0⟩, oa1⟩ := hown
  have l0 : ua0.length = 1 := mIntS.len oa0
  have e2 : (mTwo (mTwo mNil mIntS) mIntS).cntV (((), xa0), xa1) ≤ mGroup.cntV (((), xa0), xa1) := Nat.le_refl _
  have e1 : (mTwo mNil mIntS).cntV ((), xa0) ≤ mGroup.cntV (((), xa0), xa1) := Nat.le_trans (Nat.le_add_right _ _) e2
  have s1 : (mTwo (mTwo mNil mIntS) mIntS).cntV (((), xa0), xa1) = (mTwo mNil mIntS).cntV ((), xa0) + mIntS.cntV xa1 := rfl
  have e0 : mNil.cntV () ≤ mGroup.cntV (((), xa0), xa1) := Nat.le_trans (Nat.le_add_right _ _) e1
  have s0 : (mTwo mNil mIntS).cntV ((), xa0) = mNil.cntV () + mIntS.cntV xa0 := rfl
  have w2 : ∀ q, (F q ∧ q < w.heap.size) → q < w.heap.size := fun _ h => h.2
  have w1 : ∀ q, Ha1 q → q < w.heap.size := fun q h => w2 q (aa1 q h)
  have w0 : ∀ q, Ha0 q → q < w.heap.size := fun q h => w1 q (aa0 q h)
  refine calls_of_wp Try.func36 rfl ?_
  refine mv_head (us := ([] ++ ua0) ++ ua1) rfl rfl (by decide) ?_
  intro a W M _
  replace M := M.wide (G := Ha0) (fun _ h => h.elim)
  refine mv_call (n := 1) (b := xa0) (off := 0) (pre := []) (post := ua1) M (by decide) (by kernel_rfl) v1 rfl (Or.inr ⟨rfl, ⟨by kernel_rfl, by kernel_rfl⟩, rfl⟩) ⟨_, Try.func10, by kernel_rfl, by kernel_rfl⟩ mkIntS_c (by simp only [List.nil_append]) rfl oa0 aa0 ba0 da0 w1 h1 (by have := e1; have := s0; omega) ?_
  intro a W M
  refine mv_call (n := 1) (b := xa1) (off := 1) (pre := [] ++ ua0) (post := []) M (by decide) (by kernel_rfl) v1 rfl (Or.inr ⟨rfl, ⟨by kernel_rfl, by kernel_rfl⟩, rfl⟩) ⟨_, Try.func10, by kernel_rfl, by kernel_rfl⟩ mkIntS_c (by simp only [List.nil_append, List.append_nil]) (by simp only [List.length_append, List.length_nil, l0]) oa1 aa1 ba1 da1 w2 h1 (by have := e2; have := s1; omega) ?_
  intro a W M
  refine mv_tail M (by decide) rfl ?_
  rintro ⟨x', g1, g2, g3⟩ hc
  exact ⟨rfl, hc.mono (fun _ h => h.1), x', mGroup.wid g1 (fun _ h => h.1), g2, g3⟩
set_option maxRecDepth 10000 in
set_option maxHeartbeats 4000000 in
theorem mkByteS_c : MkF Try.prog mByteS v1 72 := by
  intro us xs w F k hown h1 hk
  refine calls_of_wp Try.func72 rfl ?_
  refine row_mark (T := mByte) rfl (by decide) rfl (by kernel_rfl) hown h1 hk ?_
  clear hown h1 hk
  intro a W p o n c i pre us post x k F S hi hb hp hown np h1 hk Q' kc
  have hown : us = [.int .u8 x] := hown.1
  subst hown
  have M := Me.start (k0 := k) hb
  replace S := S.nil
  have hp : pre.length = o + i * 1 := hp
  have q0 : ((mNil.cntF () : Nat) : Int) = 0 := rfl
  have q1 : ((mByte.cntF x : Nat) : Int) = 1 := rfl
  refine wp_seq (me_B0 (m0 := 0) (K := 1) (eA := 5) M S rfl (by decide) (by decide) (by kernel_rfl) (by kernel_rfl) (by kernel_rfl) (by kernel_rfl) (by kernel_rfl) hi (fun h => h) x rfl (by omega) ?_)
  intro a W S M
  refine me_nx M S rfl (by omega) (by omega) (by decide) (by decide) ?_
  intro a S M
  exact kc a W S.un (M.un.wide (fun _ h => h.elim))
set_option maxRecDepth 10000 in
set_option maxHeartbeats 4000000 in
theorem mkEntryS_c : MkF Try.prog mEntryS v1 39 := by
  intro us xs w F k hown h1 hk
  refine calls_of_wp Try.func39 rfl ?_
  refine row_mark (T := mEntry) rfl (by decide) rfl (by kernel_rfl) hown h1 hk ?_
  clear hown h1 hk
  intro a W p o n c i pre us post x k F S hi hb hp hown np h1 hk Q' kc
  have hp : pre.length = o + i * 3 + 0 := hp
  have z0 : 1 ≤ k := h1
  obtain ⟨⟨⟨ya, xa0⟩, xa1⟩, xa2⟩ := x
  obtain rfl : ya = () := rfl
  obtain ⟨_, ua2, Ha2, Ga2, rfl, aa2, ba2, da2, ⟨_, ua1, Ha1, Ga1, rfl, aa1, ba1, da1, ⟨_, ua0, Ha0, Ga0, rfl, aa0, ba0, da0, rfl, oa0⟩, oa1⟩, oa2⟩ := hown
  have oa0 : ua0 = [.int .i64 xa0] := oa0
  subst oa0
  have oa1 : ua1 = [.int .i64 xa1] := oa1
  subst oa1
  simp only [List.append_assoc, List.nil_append] at hb
  have M := Me.start (k0 := k) hb
  have ea3 : (mTwo (mTwo (mTwo mNil mInt) mInt) mByteS).cntF ((((), xa0), xa1), xa2) ≤ mEntry.cntF ((((), xa0), xa1), xa2) := Nat.le_refl _
  have ea2 : (mTwo (mTwo mNil mInt) mInt).cntF (((), xa0), xa1) ≤ mEntry.cntF ((((), xa0), xa1), xa2) := Nat.le_trans (Nat.le_add_right _ _) ea3
  have ea1 : (mTwo mNil mInt).cntF ((), xa0) ≤ mEntry.cntF ((((), xa0), xa1), xa2) := Nat.le_trans (Nat.le_add_right _ _) ea2
  have ea0 : mNil.cntF () ≤ mEntry.cntF ((((), xa0), xa1), xa2) := Nat.le_trans (Nat.le_add_right _ _) ea1
  have na3 := np
  have na2 : ¬ Ha2 p := fun h => na3 (aa2 _ h)
  have na1 : ¬ Ha1 p := fun h => na2 (aa1 _ h)
  have na0 : ¬ Ha0 p := fun h => na1 (aa0 _ h)
  replace M := M.wide (G := Ha0) (fun _ h => h.elim)
  replace S := S.nil
  refine wp_seq (me_i1 (l0 := 0) (m0 := 0) (K := 3) (eA := 113) M S rfl (by decide) (by decide) (by kernel_rfl) (by kernel_rfl) (by kernel_rfl) (by kernel_rfl) hi na0 xa0 rfl (pos1 hp rfl) ?_)
  intro a W S M
  replace M := M.wide aa0
  refine wp_seq (me_nx M S rfl z0 (bnd0 hk ea0) (by decide) (by decide) ?_)
  intro a S M
  refine wp_seq (me_i1 (l0 := 1) (m0 := 1) (K := 3) (eA := 113) M S rfl (by decide) (by decide) (by kernel_rfl) (by kernel_rfl) (by kernel_rfl) (by kernel_rfl) hi na1 xa1 rfl (pos1 hp rfl) ?_)
  intro a W S M
  replace M := M.wide aa1
  refine wp_seq (me_nx M S rfl z0 (bnd0 hk ea1) (by decide) (by decide) ?_)
  intro a S M
  refine me_c1 (l0 := 2) (m0 := 2) (K := 3) (eA := 113) (T := mByteS) (b := xa2) M S rfl (by decide) (by decide) (by kernel_rfl) (by kernel_rfl) (by kernel_rfl) ⟨by kernel_rfl, by kernel_rfl⟩ hi rfl (pos1 hp rfl) rfl (fun _ => rfl) (fun _ _ h => h) ⟨_, Try.func72, by kernel_rfl, by kernel_rfl⟩ mkByteS_c (one_in z0) (bnd_in (T := mByteS) hk ea3) na3 aa2 ba2 da2 (M.todo oa2 na3 ba2 da2) ?_
  intro a W S M
  exact kc a _ S M
end Go.Proofs.Ytmfbmnpfgbenmaa

/-
  The functions that look for marks.
-/
namespace Go.Proofs.Ytmfbmnpfgbenmaa
open Go.ChangeShapes Go.WideShapes Go.RowKit

set_option maxRecDepth 10000 in
set_option maxHeartbeats 4000000 in
theorem hdIntS_c : HdF Try.prog mIntS v1 78 := by
  intro us xs w k hrep hby h1 hk
  have hl : xs.length < 9223372036854775807 := mRow_len (T := mInt) (fun x => Nat.le_refl _) (by have h9 : mIntS.cntV xs = psum mInt.cntF xs xs.length := rfl; omega)
  refine calls_of_wp Try.func78 rfl ?_
  refine row_held (T := mInt) rfl (by decide) rfl (by kernel_rfl) hrep hby h1 hk hl ?_
  clear hrep hby h1 hk hl
  intro a W p o n c i x k S hi H h1 hk Q' kc
  replace S := S.nil
  have H : HdE mInt W p (o + i * 1) x (k + ((mNil.cntF () : Nat) : Int)) := by
    rw [show k + ((mNil.cntF () : Nat) : Int) = k by show k + ((0 : Nat) : Int) = k; omega]
    exact H
  have q0 : ((mNil.cntF () : Nat) : Int) = 0 := rfl
  have q1 : ((mInt.cntF x : Nat) : Int) = 1 := rfl
  refine wp_seq (hd_i0 (K := 1) (eA := 3) S H (by decide) (by kernel_rfl) (by kernel_rfl) ⟨by kernel_rfl, by kernel_rfl⟩ hi (by decide) (by omega) ?_)
  intro a S
  refine hd_nx mInt x S rfl (by omega) (by omega) (by decide) (by decide) ?_
  intro a S
  exact kc a W S.un (Below.refl _ W)
set_option maxRecDepth 10000 in
set_option maxHeartbeats 4000000 in
theorem hdGroup_c : HdF Try.prog mGroup vA 42 := by
  intro us x w k hrep hby h1 hk
  obtain ⟨⟨ya, xa0⟩, xa1⟩ := x
  obtain rfl : ya = () := rfl
  obtain ⟨_, u1, rfl, ⟨_, u0, rfl, rfl, r0⟩, r1⟩ := hrep
  obtain ⟨⟨_, h0⟩, h1⟩ := hby
  have l0 : u0.length = 1 := mIntS.cd.len r0
  have e2 : (mTwo (mTwo mNil mIntS) mIntS).cntV (((), xa0), xa1) ≤ mGroup.cntV (((), xa0), xa1) := Nat.le_refl _
  have e1 : (mTwo mNil mIntS).cntV ((), xa0) ≤ mGroup.cntV (((), xa0), xa1) := Nat.le_trans (Nat.le_add_right _ _) e2
  have s1 : (mTwo (mTwo mNil mIntS) mIntS).cntV (((), xa0), xa1) = (mTwo mNil mIntS).cntV ((), xa0) + mIntS.cntV xa1 := rfl
  have e0 : mNil.cntV () ≤ mGroup.cntV (((), xa0), xa1) := Nat.le_trans (Nat.le_add_right _ _) e1
  have s0 : (mTwo mNil mIntS).cntV ((), xa0) = mNil.cntV () + mIntS.cntV xa0 := rfl
  have q0 : k = k + ((mNil.cntV () : Nat) : Int) := by show k = k + ((0 : Nat) : Int); omega
  refine calls_of_wp Try.func42 rfl ?_
  refine hv_head (us := ([] ++ u0) ++ u1) rfl rfl (by decide) ?_
  intro a W M
  have M : Hv _ _ (k + ((mNil.cntV () : Nat) : Int)) _ _ _ := q0 ▸ M
  refine hv_call (n := 1) (off := 0) (pre := []) (post := u1) (U := mIntS) (b := xa0) M (by decide) (by kernel_rfl) v1 rfl (Or.inr ⟨rfl, ⟨by kernel_rfl, by kernel_rfl⟩, rfl⟩) ⟨_, Try.func78, by kernel_rfl, by kernel_rfl⟩ hdIntS_c (by simp only [List.nil_append]) rfl r0 h0 (by omega) (by have := e1; have := s0; omega) ?_
  intro a W M
  rw [show (k + ((mNil.cntV () : Nat) : Int)) + ((mIntS.cntV xa0 : Nat) : Int) = (k + (((mTwo mNil mIntS).cntV ((), xa0) : Nat) : Int)) by have := s0; omega] at M
  refine wp_seq (hv_chk M (by decide) (by omega) ?_)
  intro a M
  refine hv_call (n := 1) (off := 1) (pre := [] ++ u0) (post := []) (U := mIntS) (b := xa1) M (by decide) (by kernel_rfl) v1 rfl (Or.inr ⟨rfl, ⟨by kernel_rfl, by kernel_rfl⟩, rfl⟩) ⟨_, Try.func78, by kernel_rfl, by kernel_rfl⟩ hdIntS_c (by simp only [List.nil_append, List.append_nil]) (by simp only [List.length_append, List.length_nil, l0]) r1 h1 (by omega) (by have := e2; have := s1; omega) ?_
  intro a W M
  rw [show (k + (((mTwo mNil mIntS).cntV ((), xa0) : Nat) : Int)) + ((mIntS.cntV xa1 : Nat) : Int) = (k + (((mTwo (mTwo mNil mIntS) mIntS).cntV (((), xa0), xa1) : Nat) : Int)) by have := s1; omega] at M
  refine wp_seq (hv_chk M (by decide) (by omega) ?_)
  intro a M
  exact hv_tail M (by decide) rfl (fun hb => ⟨rfl, hb⟩)
set_option maxRecDepth 10000 in
set_option maxHeartbeats 4000000 in
theorem hdByteS_c : HdF Try.prog mByteS v1 79 := by
  intro us xs w k hrep hby h1 hk
  have hl : xs.length < 9223372036854775807 := mRow_len (T := mByte) (fun x => Nat.le_refl _) (by have h9 : mByteS.cntV xs = psum mByte.cntF xs xs.length := rfl; omega)
  refine calls_of_wp Try.func79 rfl ?_
  refine row_held (T := mByte) rfl (by decide) rfl (by kernel_rfl) hrep hby h1 hk hl ?_
  clear hrep hby h1 hk hl
  intro a W p o n c i x k S hi H h1 hk Q' kc
  replace S := S.nil
  have H : HdE mByte W p (o + i * 1) x (k + ((mNil.cntF () : Nat) : Int)) := by
    rw [show k + ((mNil.cntF () : Nat) : Int) = k by show k + ((0 : Nat) : Int) = k; omega]
    exact H
  have q0 : ((mNil.cntF () : Nat) : Int) = 0 := rfl
  have q1 : ((mByte.cntF x : Nat) : Int) = 1 := rfl
  refine wp_seq (hd_B0 (K := 1) (eA := 5) S H (by decide) (by kernel_rfl) (by kernel_rfl) ⟨by kernel_rfl, by kernel_rfl⟩ (by kernel_rfl) (by kernel_rfl) hi (by decide) (by omega) ?_)
  intro a S
  refine hd_nx mByte x S rfl (by omega) (by omega) (by decide) (by decide) ?_
  intro a S
  exact kc a W S.un (Below.refl _ W)
set_option maxRecDepth 10000 in
set_option maxHeartbeats 4000000 in
theorem hdEntryS_c : HdF Try.prog mEntryS v1 45 := by
  intro us xs w k hrep hby h1 hk
  have hl : xs.length < 9223372036854775807 := mRow_len (T := mEntry) (fun x => Nat.le_trans (Nat.le_trans (Nat.le_add_left 1 0) (Nat.le_add_right _ _)) (Nat.le_add_right _ _)) (by have h9 : mEntryS.cntV xs = psum mEntry.cntF xs xs.length := rfl; omega)
  refine calls_of_wp Try.func45 rfl ?_
  refine row_held (T := mEntry) rfl (by decide) rfl (by kernel_rfl) hrep hby h1 hk hl ?_
  clear hrep hby h1 hk hl
  intro a W p o n c i x k S hi H h1 hk Q' kc
  have Ha : HdE mEntry W p (o + i * 3) x k := H
  clear H
  have z0 : 1 ≤ k := h1
  have B : Below W.heap.size W W := Below.refl _ W
  obtain ⟨⟨⟨ya, xa0⟩, xa1⟩, xa2⟩ := x
  obtain rfl : ya = () := rfl
  have ea3 : (mTwo (mTwo (mTwo mNil mInt) mInt) mByteS).cntF ((((), xa0), xa1), xa2) ≤ mEntry.cntF ((((), xa0), xa1), xa2) := Nat.le_refl _
  have ea2 : (mTwo (mTwo mNil mInt) mInt).cntF (((), xa0), xa1) ≤ mEntry.cntF ((((), xa0), xa1), xa2) := Nat.le_trans (Nat.le_add_right _ _) ea3
  have ea1 : (mTwo mNil mInt).cntF ((), xa0) ≤ mEntry.cntF ((((), xa0), xa1), xa2) := Nat.le_trans (Nat.le_add_right _ _) ea2
  have ea0 : mNil.cntF () ≤ mEntry.cntF ((((), xa0), xa1), xa2) := Nat.le_trans (Nat.le_add_right _ _) ea1
  obtain ⟨Ha, ga2⟩ := hdTwo (m := 2) rfl Ha
  obtain ⟨Ha, ga1⟩ := hdTwo (m := 1) rfl Ha
  obtain ⟨Ha, ga0⟩ := hdTwo (m := 0) rfl Ha
  replace S := S.nil
  refine wp_seq (hd_i1 (l0 := 0) (K := 3) (eA := 113) S (ga0.lat B) (by decide) (by kernel_rfl) (by kernel_rfl) (by kernel_rfl) ⟨by kernel_rfl, by kernel_rfl⟩ hi (by decide) rfl ?_)
  intro a S
  refine wp_seq (hd_nx mInt xa0 S rfl z0 (bnd0 hk ea0) (by decide) (by decide) ?_)
  intro a S
  refine wp_seq (hd_i1 (l0 := 1) (K := 3) (eA := 113) S (ga1.lat B) (by decide) (by kernel_rfl) (by kernel_rfl) (by kernel_rfl) ⟨by kernel_rfl, by kernel_rfl⟩ hi (by decide) rfl ?_)
  intro a S
  refine wp_seq (hd_nx mInt xa1 S rfl z0 (bnd0 hk ea1) (by decide) (by decide) ?_)
  intro a S
  refine wp_seq (hd_c1 (l0 := 2) (K := 3) (eA := 113) (T := mByteS) (b := xa2) S (ga2.lat B) (by decide) (by kernel_rfl) (by kernel_rfl) (by kernel_rfl) ⟨by kernel_rfl, by kernel_rfl⟩ hi (by decide) rfl rfl (fun _ => rfl) (fun _ _ h => h) ⟨_, Try.func79, by kernel_rfl, by kernel_rfl⟩ hdByteS_c (one_in z0) (bnd_in (T := mByteS) hk ea3) ?_)
  intro a W S B2
  replace B := B.trans (B2.mono B.size)
  clear B2
  replace S := S.two
  refine hd_chk S (by decide) (by decide) (z_in z0) ?_
  intro a S
  exact kc a _ S B
end Go.Proofs.Ytmfbmnpfgbenmaa
