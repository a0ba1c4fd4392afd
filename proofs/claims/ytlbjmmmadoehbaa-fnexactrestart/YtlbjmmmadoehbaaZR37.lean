/-
  The functions that mark.
-/
import Derived.Test.YtlbjmmmadoehbaaZR15
namespace Go.Proofs.Ytlbjmmmadoehbaa
open Go.ChangeShapes Go.WideShapes Go.RowKit

set_option maxRecDepth 10000 in
set_option maxHeartbeats 4000000 in
theorem mkIntS_c : MkF Try.prog mIntS v1 33 := by
  intro us xs w F k hown h1 hk
  refine calls_of_wp Try.func33 rfl ?_
  refine row_mark (T := mInt) rfl (by decide) rfl (by kernel_rfl) hown h1 hk ?_
  clear hown h1 hk
  intro a W p o n c i pre us post x k F S hi hb hp hown np h1 hk Q' kc
  have hown : us = [.int .i64 x] := hown
  subst hown
  have M := Me.start (k0 := k) hb
  replace S := S.nil
  have hp : pre.length = o + i * 1 := hp
  have q0 : ((mNil.cntF () : Nat) : Int) = 0 := rfl
  have q1 : ((mInt.cntF x : Nat) : Int) = 1 := rfl
  refine wp_seq (me_i0 (m0 := 0) (K := 1) (eA := 3) M S rfl (by decide) (by decide) (by kernel_rfl) (by kernel_rfl) (by kernel_rfl) hi (fun h => h) x rfl (by omega) ?_)
  intro a W S M
  refine me_nx M S rfl (by omega) (by omega) (by decide) (by decide) ?_
  intro a S M
  exact kc a W S.un (M.un.wide (fun _ h => h.elim))
set_option maxRecDepth 10000 in
set_option maxHeartbeats 4000000 in
theorem mkGroup_c : MkF Try.prog mGroup vA 30 := by
  intro us x w F k hown h1 hk
  replace hown := mGroup.trim hown
  obtain ⟨⟨ya, xa0⟩, xa1⟩ := x
  obtain rfl : ya = () := rfl
  obtain ⟨_, ua1, Ha1, Ga1, rfl, aa1, ba1, da1, ⟨_, ua0, Ha0, Ga0, rfl, aa0, ba0, da0, rfl, oa0⟩, oa1⟩ := hown
  have l0 : ua0.length = 1 := mIntS.len oa0
  have e2 : (mTwo (mTwo mNil mIntS) mIntS).cntV (((), xa0), xa1) ≤ mGroup.cntV (((), xa0), xa1) := Nat.le_refl _
  have e1 : (mTwo mNil mIntS).cntV ((), xa0) ≤ mGroup.cntV (((), xa0), xa1) := Nat.le_trans (Nat.le_add_right _ _) e2
  have s1 : (mTwo (mTwo mNil mIntS) mIntS).cntV (((), xa0), xa1) = (mTwo mNil mIntS).cntV ((), xa0) + mIntS.cntV xa1 := rfl
  have e0 : mNil.cntV () ≤ mGroup.cntV (((), xa0), xa1) := Nat.le_trans (Nat.le_add_right _ _) e1
  have s0 : (mTwo mNil mIntS).cntV ((), xa0) = mNil.cntV () + mIntS.cntV xa0 := rfl
  have w2 : ∀ q, (F q ∧ q < w.heap.size) → q < w.heap.size := fun _ h => h.2
  have w1 : ∀ q, Ha1 q → q < w.heap.size := fun q h => w2 q (aa1 q h)
  have w0 : ∀ q, Ha0 q → q < w.heap.size := fun q h => w1 q (aa0 q h)
  refine calls_of_wp Try.func30 rfl ?_
  refine mv_head (us := ([] ++ ua0) ++ ua1) rfl rfl (by decide) ?_
  intro a W M _
  replace M := M.wide (G := Ha0) (fun _ h => h.elim)
  refine mv_call (n := 1) (b := xa0) (off := 0) (pre := []) (post := ua1) M (by decide) (by kernel_rfl) v1 rfl (Or.inr ⟨rfl, ⟨by kernel_rfl, by kernel_rfl⟩, rfl⟩) ⟨_, Try.func33, by kernel_rfl, by kernel_rfl⟩ mkIntS_c (by simp only [List.nil_append]) rfl oa0 aa0 ba0 da0 w1 h1 (by have := e1; have := s0; omega) ?_
  intro a W M
  refine mv_call (n := 1) (b := xa1) (off := 1) (pre := [] ++ ua0) (post := []) M (by decide) (by kernel_rfl) v1 rfl (Or.inr ⟨rfl, ⟨by kernel_rfl, by kernel_rfl⟩, rfl⟩) ⟨_, Try.func33, by kernel_rfl, by kernel_rfl⟩ mkIntS_c (by simp only [List.nil_append, List.append_nil]) (by simp only [List.length_append, List.length_nil, l0]) oa1 aa1 ba1 da1 w2 h1 (by have := e2; have := s1; omega) ?_
  intro a W M
  refine mv_tail M (by decide) rfl ?_
  rintro ⟨x', g1, g2, g3⟩ hc
  exact ⟨rfl, hc.mono (fun _ h => h.1), x', mGroup.wid g1 (fun _ h => h.1), g2, g3⟩
set_option maxRecDepth 10000 in
set_option maxHeartbeats 4000000 in
theorem mkByteS_c : MkF Try.prog mByteS v1 31 := by
  intro us xs w F k hown h1 hk
  refine calls_of_wp Try.func31 rfl ?_
  refine row_mark (T := mByte) rfl (by decide) rfl (by kernel_rfl) hown h1 hk ?_
  clear hown h1 hk
  intro a W p o n c i pre us post x k F S hi hb hp hown np h1 hk Q' kc
  have hown : us = [.int .u8 x] := hown.1
  subst hown
  have M := Me.start (k0 := k) hb
  replace S := S.nil
  have hp : pre.length = o + i * 1 := hp
  have q0 : ((mNil.cntF () : Nat) : Int) = 0 := rfl
  have q1 : ((mByte.cntF x : Nat) : Int) = 1 := rfl
  refine wp_seq (me_B0 (m0 := 0) (K := 1) (eA := 5) M S rfl (by decide) (by decide) (by kernel_rfl) (by kernel_rfl) (by kernel_rfl) (by kernel_rfl) (by kernel_rfl) hi (fun h => h) x rfl (by omega) ?_)
  intro a W S M
  refine me_nx M S rfl (by omega) (by omega) (by decide) (by decide) ?_
  intro a S M
  exact kc a W S.un (M.un.wide (fun _ h => h.elim))
set_option maxRecDepth 10000 in
set_option maxHeartbeats 4000000 in
theorem mkEntryS_c : MkF Try.prog mEntryS v1 32 := by
  intro us xs w F k hown h1 hk
  refine calls_of_wp Try.func32 rfl ?_
  refine row_mark (T := mEntry) rfl (by decide) rfl (by kernel_rfl) hown h1 hk ?_
  clear hown h1 hk
  intro a W p o n c i pre us post x k F S hi hb hp hown np h1 hk Q' kc
  have hp : pre.length = o + i * 3 + 0 := hp
  have z0 : 1 ≤ k := h1
  obtain ⟨⟨⟨ya, xa0⟩, xa1⟩, xa2⟩ := x
  obtain rfl : ya = () := rfl
  obtain ⟨_, ua2, Ha2, Ga2, rfl, aa2, ba2, da2, ⟨_, ua1, Ha1, Ga1, rfl, aa1, ba1, da1, ⟨_, ua0, Ha0, Ga0, rfl, aa0, ba0, da0, rfl, oa0⟩, oa1⟩, oa2⟩ := hown
  have oa0 : ua0 = [.int .i64 xa0] := oa0
  subst oa0
  have oa1 : ua1 = [.int .i64 xa1] := oa1
  subst oa1
  simp only [List.append_assoc, List.nil_append] at hb
  have M := Me.start (k0 := k) hb
  have ea3 : (mTwo (mTwo (mTwo mNil mInt) mInt) mByteS).cntF ((((), xa0), xa1), xa2) ≤ mEntry.cntF ((((), xa0), xa1), xa2) := Nat.le_refl _
  have ea2 : (mTwo (mTwo mNil mInt) mInt).cntF (((), xa0), xa1) ≤ mEntry.cntF ((((), xa0), xa1), xa2) := Nat.le_trans (Nat.le_add_right _ _) ea3
  have ea1 : (mTwo mNil mInt).cntF ((), xa0) ≤ mEntry.cntF ((((), xa0), xa1), xa2) := Nat.le_trans (Nat.le_add_right _ _) ea2
  have ea0 : mNil.cntF () ≤ mEntry.cntF ((((), xa0), xa1), xa2) := Nat.le_trans (Nat.le_add_right _ _) ea1
  have na3 := np
  have na2 : ¬ Ha2 p := fun h => na3 (aa2 _ h)
  have na1 : ¬ Ha1 p := fun h => na2 (aa1 _ h)
  have na0 : ¬ Ha0 p := fun h => na1 (aa0 _ h)
  replace M := M.wide (G := Ha0) (fun _ h => h.elim)
  replace S := S.nil
  refine wp_seq (me_i1 (l0 := 0) (m0 := 0) (K := 3) (eA := 67) M S rfl (by decide) (by decide) (by kernel_rfl) (by kernel_rfl) (by kernel_rfl) (by kernel_rfl) hi na0 xa0 rfl (pos1 hp rfl) ?_)
  intro a W S M
  replace M := M.wide aa0
  refine wp_seq (me_nx M S rfl z0 (bnd0 hk ea0) (by decide) (by decide) ?_)
  intro a S M
  refine wp_seq (me_i1 (l0 := 1) (m0 := 1) (K := 3) (eA := 67) M S rfl (by decide) (by decide) (by kernel_rfl) (by kernel_rfl) (by kernel_rfl) (by kernel_rfl) hi na1 xa1 rfl (pos1 hp rfl) ?_)
  intro a W S M
  replace M := M.wide aa1
  refine wp_seq (me_nx M S rfl z0 (bnd0 hk ea1) (by decide) (by decide) ?_)
  intro a S M
  refine me_c1 (l0 := 2) (m0 := 2) (K := 3) (eA := 67) (T := mByteS) (b := xa2) M S rfl (by decide) (by decide) (by kernel_rfl) (by kernel_rfl) (by kernel_rfl) ⟨by kernel_rfl, by kernel_rfl⟩ hi rfl (pos1 hp rfl) rfl (fun _ => rfl) (fun _ _ h => h) ⟨_, Try.func31, by kernel_rfl, by kernel_rfl⟩ mkByteS_c (one_in z0) (bnd_in (T := mByteS) hk ea3) na3 aa2 ba2 da2 (M.todo oa2 na3 ba2 da2) ?_
  intro a W S M
  exact kc a _ S M
set_option maxRecDepth 10000 in
set_option maxHeartbeats 4000000 in
theorem mkKeep_c : MkF Try.prog mKeep vA 10 := by
  intro us x w F k hown h1 hk
  replace hown := mKeep.trim hown
  obtain ⟨⟨⟨⟨⟨⟨⟨ya, xa0⟩, xa1⟩, xa2⟩, xa3⟩, xa4⟩, xa5⟩, xa6⟩ := x
  obtain rfl : ya = () := rfl
  obtain ⟨_, ua6, Ha6, Ga6, rfl, aa6, ba6, da6, ⟨_, ua5, Ha5, Ga5, rfl, aa5, ba5, da5, ⟨_, ua4, Ha4, Ga4, rfl, aa4, ba4, da4, ⟨_, ua3, Ha3, Ga3, rfl, aa3, ba3, da3, ⟨_, ua2, Ha2, Ga2, rfl, aa2, ba2, da2, ⟨_, ua1, Ha1, Ga1, rfl, aa1, ba1, da1, ⟨_, ua0, Ha0, Ga0, rfl, aa0, ba0, da0, rfl, oa0⟩, oa1⟩, oa2⟩, oa3⟩, oa4⟩, oa5⟩, oa6⟩ := hown
  have l0 : ua0.length = 1 := mInt.len oa0
  have l1 : ua1.length = 1 := mInt.len oa1
  have l2 : ua2.length = 1 := mInt.len oa2
  have l3 : ua3.length = 1 := mInt.len oa3
  have l4 : ua4.length = 2 := mGroup.len oa4
  have l5 : ua5.length = 1 := mByteS.len oa5
  have e7 : (mTwo (mTwo (mTwo (mTwo (mTwo (mTwo (mTwo mNil mInt) mInt) mInt) mInt) mGroup) mByteS) mEntryS).cntV ((((((((), xa0), xa1), xa2), xa3), xa4), xa5), xa6) ≤ mKeep.cntV ((((((((), xa0), xa1), xa2), xa3), xa4), xa5), xa6) := Nat.le_refl _
  have e6 : (mTwo (mTwo (mTwo (mTwo (mTwo (mTwo mNil mInt) mInt) mInt) mInt) mGroup) mByteS).cntV (((((((), xa0), xa1), xa2), xa3), xa4), xa5) ≤ mKeep.cntV ((((((((), xa0), xa1), xa2), xa3), xa4), xa5), xa6) := Nat.le_trans (Nat.le_add_right _ _) e7
  have s6 : (mTwo (mTwo (mTwo (mTwo (mTwo (mTwo (mTwo mNil mInt) mInt) mInt) mInt) mGroup) mByteS) mEntryS).cntV ((((((((), xa0), xa1), xa2), xa3), xa4), xa5), xa6) = (mTwo (mTwo (mTwo (mTwo (mTwo (mTwo mNil mInt) mInt) mInt) mInt) mGroup) mByteS).cntV (((((((), xa0), xa1), xa2), xa3), xa4), xa5) + mEntryS.cntV xa6 := rfl
  have e5 : (mTwo (mTwo (mTwo (mTwo (mTwo mNil mInt) mInt) mInt) mInt) mGroup).cntV ((((((), xa0), xa1), xa2), xa3), xa4) ≤ mKeep.cntV ((((((((), xa0), xa1), xa2), xa3), xa4), xa5), xa6) := Nat.le_trans (Nat.le_add_right _ _) e6
  have s5 : (mTwo (mTwo (mTwo (mTwo (mTwo (mTwo mNil mInt) mInt) mInt) mInt) mGroup) mByteS).cntV (((((((), xa0), xa1), xa2), xa3), xa4), xa5) = (mTwo (mTwo (mTwo (mTwo (mTwo mNil mInt) mInt) mInt) mInt) mGroup).cntV ((((((), xa0), xa1), xa2), xa3), xa4) + mByteS.cntV xa5 := rfl
  have e4 : (mTwo (mTwo (mTwo (mTwo mNil mInt) mInt) mInt) mInt).cntV (((((), xa0), xa1), xa2), xa3) ≤ mKeep.cntV ((((((((), xa0), xa1), xa2), xa3), xa4), xa5), xa6) := Nat.le_trans (Nat.le_add_right _ _) e5
  have s4 : (mTwo (mTwo (mTwo (mTwo (mTwo mNil mInt) mInt) mInt) mInt) mGroup).cntV ((((((), xa0), xa1), xa2), xa3), xa4) = (mTwo (mTwo (mTwo (mTwo mNil mInt) mInt) mInt) mInt).cntV (((((), xa0), xa1), xa2), xa3) + mGroup.cntV xa4 := rfl
  have e3 : (mTwo (mTwo (mTwo mNil mInt) mInt) mInt).cntV ((((), xa0), xa1), xa2) ≤ mKeep.cntV ((((((((), xa0), xa1), xa2), xa3), xa4), xa5), xa6) := Nat.le_trans (Nat.le_add_right _ _) e4
  have s3 : (mTwo (mTwo (mTwo (mTwo mNil mInt) mInt) mInt) mInt).cntV (((((), xa0), xa1), xa2), xa3) = (mTwo (mTwo (mTwo mNil mInt) mInt) mInt).cntV ((((), xa0), xa1), xa2) + mInt.cntV xa3 := rfl
  have e2 : (mTwo (mTwo mNil mInt) mInt).cntV (((), xa0), xa1) ≤ mKeep.cntV ((((((((), xa0), xa1), xa2), xa3), xa4), xa5), xa6) := Nat.le_trans (Nat.le_add_right _ _) e3
  have s2 : (mTwo (mTwo (mTwo mNil mInt) mInt) mInt).cntV ((((), xa0), xa1), xa2) = (mTwo (mTwo mNil mInt) mInt).cntV (((), xa0), xa1) + mInt.cntV xa2 := rfl
  have e1 : (mTwo mNil mInt).cntV ((), xa0) ≤ mKeep.cntV ((((((((), xa0), xa1), xa2), xa3), xa4), xa5), xa6) := Nat.le_trans (Nat.le_add_right _ _) e2
  have s1 : (mTwo (mTwo mNil mInt) mInt).cntV (((), xa0), xa1) = (mTwo mNil mInt).cntV ((), xa0) + mInt.cntV xa1 := rfl
  have e0 : mNil.cntV () ≤ mKeep.cntV ((((((((), xa0), xa1), xa2), xa3), xa4), xa5), xa6) := Nat.le_trans (Nat.le_add_right _ _) e1
  have s0 : (mTwo mNil mInt).cntV ((), xa0) = mNil.cntV () + mInt.cntV xa0 := rfl
  have w7 : ∀ q, (F q ∧ q < w.heap.size) → q < w.heap.size := fun _ h => h.2
  have w6 : ∀ q, Ha6 q → q < w.heap.size := fun q h => w7 q (aa6 q h)
  have w5 : ∀ q, Ha5 q → q < w.heap.size := fun q h => w6 q (aa5 q h)
  have w4 : ∀ q, Ha4 q → q < w.heap.size := fun q h => w5 q (aa4 q h)
  have w3 : ∀ q, Ha3 q → q < w.heap.size := fun q h => w4 q (aa3 q h)
  have w2 : ∀ q, Ha2 q → q < w.heap.size := fun q h => w3 q (aa2 q h)
  have w1 : ∀ q, Ha1 q → q < w.heap.size := fun q h => w2 q (aa1 q h)
  have w0 : ∀ q, Ha0 q → q < w.heap.size := fun q h => w1 q (aa0 q h)
  refine calls_of_wp Try.func10 rfl ?_
  refine mv_head (us := (((((([] ++ ua0) ++ ua1) ++ ua2) ++ ua3) ++ ua4) ++ ua5) ++ ua6) rfl rfl (by decide) ?_
  intro a W M _
  replace M := M.wide (G := Ha0) (fun _ h => h.elim)
  replace M := (mv_skip (vs := ua0) (b := xa0) (U := mInt) M (fun _ _ => oa0) rfl (fun _ => trivial)).wide aa0
  replace M := (mv_skip (vs := ua1) (b := xa1) (U := mInt) M (fun _ _ => oa1) rfl (fun _ => trivial)).wide aa1
  replace M := (mv_skip (vs := ua2) (b := xa2) (U := mInt) M (fun _ _ => oa2) rfl (fun _ => trivial)).wide aa2
  replace M := (mv_skip (vs := ua3) (b := xa3) (U := mInt) M (fun _ _ => oa3) rfl (fun _ => trivial)).wide aa3
  refine mv_call (n := 2) (b := xa4) (off := 4) (pre := ((([] ++ ua0) ++ ua1) ++ ua2) ++ ua3) (post := ua5 ++ (ua6)) M (by decide) (by kernel_rfl) vA rfl (Or.inl ⟨rfl, ⟨by kernel_rfl, by kernel_rfl⟩⟩) ⟨_, Try.func30, by kernel_rfl, by kernel_rfl⟩ mkGroup_c (by simp only [List.append_assoc, List.nil_append]) (by simp only [List.length_append, List.length_nil, l0, l1, l2, l3]) oa4 aa4 ba4 da4 w5 h1 (by have := e5; have := s4; omega) ?_
  intro a W M
  refine mv_call (n := 1) (b := xa5) (off := 6) (pre := (((([] ++ ua0) ++ ua1) ++ ua2) ++ ua3) ++ ua4) (post := ua6) M (by decide) (by kernel_rfl) v1 rfl (Or.inr ⟨rfl, ⟨by kernel_rfl, by kernel_rfl⟩, rfl⟩) ⟨_, Try.func31, by kernel_rfl, by kernel_rfl⟩ mkByteS_c (by simp only [List.append_assoc, List.nil_append]) (by simp only [List.length_append, List.length_nil, l0, l1, l2, l3, l4]) oa5 aa5 ba5 da5 w6 h1 (by have := e6; have := s5; omega) ?_
  intro a W M
  refine mv_call (n := 1) (b := xa6) (off := 7) (pre := ((((([] ++ ua0) ++ ua1) ++ ua2) ++ ua3) ++ ua4) ++ ua5) (post := []) M (by decide) (by kernel_rfl) v1 rfl (Or.inr ⟨rfl, ⟨by kernel_rfl, by kernel_rfl⟩, rfl⟩) ⟨_, Try.func32, by kernel_rfl, by kernel_rfl⟩ mkEntryS_c (by simp only [List.append_assoc, List.nil_append, List.append_nil]) (by simp only [List.length_append, List.length_nil, l0, l1, l2, l3, l4, l5]) oa6 aa6 ba6 da6 w7 h1 (by have := e7; have := s6; omega) ?_
  intro a W M
  refine mv_tail M (by decide) rfl ?_
  rintro ⟨x', g1, g2, g3⟩ hc
  exact ⟨rfl, hc.mono (fun _ h => h.1), x', mKeep.wid g1 (fun _ h => h.1), g2, g3⟩
set_option maxRecDepth 10000 in
set_option maxHeartbeats 4000000 in
theorem mkServer_c : MkF Try.prog mServer vA 11 := by
  intro us x w F k hown h1 hk
  replace hown := mServer.trim hown
  obtain ⟨⟨⟨⟨⟨⟨⟨⟨⟨⟨ya, xa0⟩, xa1⟩, xa2⟩, xa3⟩, xa4⟩, xa5⟩, xa6⟩, xa7⟩, xa8⟩, xa9⟩ := x
  obtain rfl : ya = () := rfl
  obtain ⟨_, ua9, Ha9, Ga9, rfl, aa9, ba9, da9, ⟨_, ua8, Ha8, Ga8, rfl, aa8, ba8, da8, ⟨_, ua7, Ha7, Ga7, rfl, aa7, ba7, da7, ⟨_, ua6, Ha6, Ga6, rfl, aa6, ba6, da6, ⟨_, ua5, Ha5, Ga5, rfl, aa5, ba5, da5, ⟨_, ua4, Ha4, Ga4, rfl, aa4, ba4, da4, ⟨_, ua3, Ha3, Ga3, rfl, aa3, ba3, da3, ⟨_, ua2, Ha2, Ga2, rfl, aa2, ba2, da2, ⟨_, ua1, Ha1, Ga1, rfl, aa1, ba1, da1, ⟨_, ua0, Ha0, Ga0, rfl, aa0, ba0, da0, rfl, oa0⟩, oa1⟩, oa2⟩, oa3⟩, oa4⟩, oa5⟩, oa6⟩, oa7⟩, oa8⟩, oa9⟩ := hown
  have l0 : ua0.length = 1 := mInt.len oa0
  have l1 : ua1.length = 8 := mKeep.len oa1
  have l2 : ua2.length = 1 := mInt.len oa2
  have l3 : ua3.length = 1 := mInt.len oa3
  have l4 : ua4.length = 1 := mInt.len oa4
  have l5 : ua5.length = 1 := mIntS.len oa5
  have l6 : ua6.length = 8 := (mArr 8).len oa6
  have l7 : ua7.length = 8 := (mArr 8).len oa7
  have l8 : ua8.length = 1 := mInt.len oa8
  have e10 : (mTwo (mTwo (mTwo (mTwo (mTwo (mTwo (mTwo (mTwo (mTwo (mTwo mNil mInt) mKeep) mInt) mInt) mInt) mIntS) (mArr 8)) (mArr 8)) mInt) mInt).cntV (((((((((((), xa0), xa1), xa2), xa3), xa4), xa5), xa6), xa7), xa8), xa9) ≤ mServer.cntV (((((((((((), xa0), xa1), xa2), xa3), xa4), xa5), xa6), xa7), xa8), xa9) := Nat.le_refl _
  have e9 : (mTwo (mTwo (mTwo (mTwo (mTwo (mTwo (mTwo (mTwo (mTwo mNil mInt) mKeep) mInt) mInt) mInt) mIntS) (mArr 8)) (mArr 8)) mInt).cntV ((((((((((), xa0), xa1), xa2), xa3), xa4), xa5), xa6), xa7), xa8) ≤ mServer.cntV (((((((((((), xa0), xa1), xa2), xa3), xa4), xa5), xa6), xa7), xa8), xa9) := Nat.le_trans (Nat.le_add_right _ _) e10
  have s9 : (mTwo (mTwo (mTwo (mTwo (mTwo (mTwo (mTwo (mTwo (mTwo (mTwo mNil mInt) mKeep) mInt) mInt) mInt) mIntS) (mArr 8)) (mArr 8)) mInt) mInt).cntV (((((((((((), xa0), xa1), xa2), xa3), xa4), xa5), xa6), xa7), xa8), xa9) = (mTwo (mTwo (mTwo (mTwo (mTwo (mTwo (mTwo (mTwo (mTwo mNil mInt) mKeep) mInt) mInt) mInt) mIntS) (mArr 8)) (mArr 8)) mInt).cntV ((((((((((), xa0), xa1), xa2), xa3), xa4), xa5), xa6), xa7), xa8) + mInt.cntV xa9 := rfl
  have e8 : (mTwo (mTwo (mTwo (mTwo (mTwo (mTwo (mTwo (mTwo mNil mInt) mKeep) mInt) mInt) mInt) mIntS) (mArr 8)) (mArr 8)).cntV (((((((((), xa0), xa1), xa2), xa3), xa4), xa5), xa6), xa7) ≤ mServer.cntV (((((((((((), xa0), xa1), xa2), xa3), xa4), xa5), xa6), xa7), xa8), xa9) := Nat.le_trans (Nat.le_add_right _ _) e9
  have s8 : (mTwo (mTwo (mTwo (mTwo (mTwo (mTwo (mTwo (mTwo (mTwo mNil mInt) mKeep) mInt) mInt) mInt) mIntS) (mArr 8)) (mArr 8)) mInt).cntV ((((((((((), xa0), xa1), xa2), xa3), xa4), xa5), xa6), xa7), xa8) = (mTwo (mTwo (mTwo (mTwo (mTwo (mTwo (mTwo (mTwo mNil mInt) mKeep) mInt) mInt) mInt) mIntS) (mArr 8)) (mArr 8)).cntV (((((((((), xa0), xa1), xa2), xa3), xa4), xa5), xa6), xa7) + mInt.cntV xa8 := rfl
  have e7 : (mTwo (mTwo (mTwo (mTwo (mTwo (mTwo (mTwo mNil mInt) mKeep) mInt) mInt) mInt) mIntS) (mArr 8)).cntV ((((((((), xa0), xa1), xa2), xa3), xa4), xa5), xa6) ≤ mServer.cntV (((((((((((), xa0), xa1), xa2), xa3), xa4), xa5), xa6), xa7), xa8), xa9) := Nat.le_trans (Nat.le_add_right _ _) e8
  have s7 : (mTwo (mTwo (mTwo (mTwo (mTwo (mTwo (mTwo (mTwo mNil mInt) mKeep) mInt) mInt) mInt) mIntS) (mArr 8)) (mArr 8)).cntV (((((((((), xa0), xa1), xa2), xa3), xa4), xa5), xa6), xa7) = (mTwo (mTwo (mTwo (mTwo (mTwo (mTwo (mTwo mNil mInt) mKeep) mInt) mInt) mInt) mIntS) (mArr 8)).cntV ((((((((), xa0), xa1), xa2), xa3), xa4), xa5), xa6) + (mArr 8).cntV xa7 := rfl
  have e6 : (mTwo (mTwo (mTwo (mTwo (mTwo (mTwo mNil mInt) mKeep) mInt) mInt) mInt) mIntS).cntV (((((((), xa0), xa1), xa2), xa3), xa4), xa5) ≤ mServer.cntV (((((((((((), xa0), xa1), xa2), xa3), xa4), xa5), xa6), xa7), xa8), xa9) := Nat.le_trans (Nat.le_add_right _ _) e7
  have s6 : (mTwo (mTwo (mTwo (mTwo (mTwo (mTwo (mTwo mNil mInt) mKeep) mInt) mInt) mInt) mIntS) (mArr 8)).cntV ((((((((), xa0), xa1), xa2), xa3), xa4), xa5), xa6) = (mTwo (mTwo (mTwo (mTwo (mTwo (mTwo mNil mInt) mKeep) mInt) mInt) mInt) mIntS).cntV (((((((), xa0), xa1), xa2), xa3), xa4), xa5) + (mArr 8).cntV xa6 := rfl
  have e5 : (mTwo (mTwo (mTwo (mTwo (mTwo mNil mInt) mKeep) mInt) mInt) mInt).cntV ((((((), xa0), xa1), xa2), xa3), xa4) ≤ mServer.cntV (((((((((((), xa0), xa1), xa2), xa3), xa4), xa5), xa6), xa7), xa8), xa9) := Nat.le_trans (Nat.le_add_right _ _) e6
  have s5 : (mTwo (mTwo (mTwo (mTwo (mTwo (mTwo mNil mInt) mKeep) mInt) mInt) mInt) mIntS).cntV (((((((), xa0), xa1), xa2), xa3), xa4), xa5) = (mTwo (mTwo (mTwo (mTwo (mTwo mNil mInt) mKeep) mInt) mInt) mInt).cntV ((((((), xa0), xa1), xa2), xa3), xa4) + mIntS.cntV xa5 := rfl
  have e4 : (mTwo (mTwo (mTwo (mTwo mNil mInt) mKeep) mInt) mInt).cntV (((((), xa0), xa1), xa2), xa3) ≤ mServer.cntV (((((((((((), xa0), xa1), xa2), xa3), xa4), xa5), xa6), xa7), xa8), xa9) := Nat.le_trans (Nat.le_add_right _ _) e5
  have s4 : (mTwo (mTwo (mTwo (mTwo (mTwo mNil mInt) mKeep) mInt) mInt) mInt).cntV ((((((), xa0), xa1), xa2), xa3), xa4) = (mTwo (mTwo (mTwo (mTwo mNil mInt) mKeep) mInt) mInt).cntV (((((), xa0), xa1), xa2), xa3) + mInt.cntV xa4 := rfl
  have e3 : (mTwo (mTwo (mTwo mNil mInt) mKeep) mInt).cntV ((((), xa0), xa1), xa2) ≤ mServer.cntV (((((((((((), xa0), xa1), xa2), xa3), xa4), xa5), xa6), xa7), xa8), xa9) := Nat.le_trans (Nat.le_add_right _ _) e4
  have s3 : (mTwo (mTwo (mTwo (mTwo mNil mInt) mKeep) mInt) mInt).cntV (((((), xa0), xa1), xa2), xa3) = (mTwo (mTwo (mTwo mNil mInt) mKeep) mInt).cntV ((((), xa0), xa1), xa2) + mInt.cntV xa3 := rfl
  have e2 : (mTwo (mTwo mNil mInt) mKeep).cntV (((), xa0), xa1) ≤ mServer.cntV (((((((((((), xa0), xa1), xa2), xa3), xa4), xa5), xa6), xa7), xa8), xa9) := Nat.le_trans (Nat.le_add_right _ _) e3
  have s2 : (mTwo (mTwo (mTwo mNil mInt) mKeep) mInt).cntV ((((), xa0), xa1), xa2) = (mTwo (mTwo mNil mInt) mKeep).cntV (((), xa0), xa1) + mInt.cntV xa2 := rfl
  have e1 : (mTwo mNil mInt).cntV ((), xa0) ≤ mServer.cntV (((((((((((), xa0), xa1), xa2), xa3), xa4), xa5), xa6), xa7), xa8), xa9) := Nat.le_trans (Nat.le_add_right _ _) e2
  have s1 : (mTwo (mTwo mNil mInt) mKeep).cntV (((), xa0), xa1) = (mTwo mNil mInt).cntV ((), xa0) + mKeep.cntV xa1 := rfl
  have e0 : mNil.cntV () ≤ mServer.cntV (((((((((((), xa0), xa1), xa2), xa3), xa4), xa5), xa6), xa7), xa8), xa9) := Nat.le_trans (Nat.le_add_right _ _) e1
  have s0 : (mTwo mNil mInt).cntV ((), xa0) = mNil.cntV () + mInt.cntV xa0 := rfl
  have w10 : ∀ q, (F q ∧ q < w.heap.size) → q < w.heap.size := fun _ h => h.2
  have w9 : ∀ q, Ha9 q → q < w.heap.size := fun q h => w10 q (aa9 q h)
  have w8 : ∀ q, Ha8 q → q < w.heap.size := fun q h => w9 q (aa8 q h)
  have w7 : ∀ q, Ha7 q → q < w.heap.size := fun q h => w8 q (aa7 q h)
  have w6 : ∀ q, Ha6 q → q < w.heap.size := fun q h => w7 q (aa6 q h)
  have w5 : ∀ q, Ha5 q → q < w.heap.size := fun q h => w6 q (aa5 q h)
  have w4 : ∀ q, Ha4 q → q < w.heap.size := fun q h => w5 q (aa4 q h)
  have w3 : ∀ q, Ha3 q → q < w.heap.size := fun q h => w4 q (aa3 q h)
  have w2 : ∀ q, Ha2 q → q < w.heap.size := fun q h => w3 q (aa2 q h)
  have w1 : ∀ q, Ha1 q → q < w.heap.size := fun q h => w2 q (aa1 q h)
  have w0 : ∀ q, Ha0 q → q < w.heap.size := fun q h => w1 q (aa0 q h)
  refine calls_of_wp Try.func11 rfl ?_
  refine mv_head (us := ((((((((([] ++ ua0) ++ ua1) ++ ua2) ++ ua3) ++ ua4) ++ ua5) ++ ua6) ++ ua7) ++ ua8) ++ ua9) rfl rfl (by decide) ?_
  intro a W M _
  replace M := M.wide (G := Ha0) (fun _ h => h.elim)
  replace M := (mv_skip (vs := ua0) (b := xa0) (U := mInt) M (fun _ _ => oa0) rfl (fun _ => trivial)).wide aa0
  refine mv_call (n := 8) (b := xa1) (off := 1) (pre := [] ++ ua0) (post := ua2 ++ (ua3 ++ (ua4 ++ (ua5 ++ (ua6 ++ (ua7 ++ (ua8 ++ (ua9)))))))) M (by decide) (by kernel_rfl) vA rfl (Or.inl ⟨rfl, ⟨by kernel_rfl, by kernel_rfl⟩⟩) ⟨_, Try.func10, by kernel_rfl, by kernel_rfl⟩ mkKeep_c (by simp only [List.append_assoc, List.nil_append]) (by simp only [List.length_append, List.length_nil, l0]) oa1 aa1 ba1 da1 w2 h1 (by have := e2; have := s1; omega) ?_
  intro a W M
  replace M := (mv_skip (vs := ua2) (b := xa2) (U := mInt) M (fun _ _ => oa2) rfl (fun _ => trivial)).wide aa2
  replace M := (mv_skip (vs := ua3) (b := xa3) (U := mInt) M (fun _ _ => oa3) rfl (fun _ => trivial)).wide aa3
  replace M := (mv_skip (vs := ua4) (b := xa4) (U := mInt) M (fun _ _ => oa4) rfl (fun _ => trivial)).wide aa4
  refine mv_call (n := 1) (b := xa5) (off := 12) (pre := (((([] ++ ua0) ++ ua1) ++ ua2) ++ ua3) ++ ua4) (post := ua6 ++ (ua7 ++ (ua8 ++ (ua9)))) M (by decide) (by kernel_rfl) v1 rfl (Or.inr ⟨rfl, ⟨by kernel_rfl, by kernel_rfl⟩, rfl⟩) ⟨_, Try.func33, by kernel_rfl, by kernel_rfl⟩ mkIntS_c (by simp only [List.append_assoc, List.nil_append]) (by simp only [List.length_append, List.length_nil, l0, l1, l2, l3, l4]) oa5 aa5 ba5 da5 w6 h1 (by have := e6; have := s5; omega) ?_
  intro a W M
  replace M := (mv_skip (vs := ua6) (b := xa6) (U := (mArr 8)) M (fun _ _ => oa6) rfl (fun _ => trivial)).wide aa6
  replace M := (mv_skip (vs := ua7) (b := xa7) (U := (mArr 8)) M (fun _ _ => oa7) rfl (fun _ => trivial)).wide aa7
  replace M := (mv_skip (vs := ua8) (b := xa8) (U := mInt) M (fun _ _ => oa8) rfl (fun _ => trivial)).wide aa8
  replace M := (mv_skip (vs := ua9) (b := xa9) (U := mInt) M (fun _ _ => oa9) rfl (fun _ => trivial)).wide aa9
  refine mv_tail M (by decide) rfl ?_
  rintro ⟨x', g1, g2, g3⟩ hc
  exact ⟨rfl, hc.mono (fun _ h => h.1), x', mServer.wid g1 (fun _ h => h.1), g2, g3⟩

end Go.Proofs.Ytlbjmmmadoehbaa
