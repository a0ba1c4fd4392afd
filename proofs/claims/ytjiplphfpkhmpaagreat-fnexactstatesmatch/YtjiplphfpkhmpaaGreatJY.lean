/-
  The specification's StatesMatch.
-/
import Derived.Test.YtjiplphfpkhmpaaGreatJW
namespace Go.Proofs.YtjiplphfpkhmpaaGreat
open Go.RowKit

set_option maxRecDepth 20000 in
set_option maxHeartbeats 8000000 in
theorem sSts_m (us : List Value) (R : List RepA) (o : Option Addr) (c : Nat) (w : World) (k0 : us[0]? = some (.slice o R.length c)) (hn : R.length ≤ 1048576) (hat : ∀ j y, R[j]? = some y → At cReplica w 0 o j y) (htt : ∀ (j : Nat) (y : RepA), R[j]? = some y → cState.tot (rState y) ≤ 1048576) :
    Calls Tryz.prog 5 #[.agg us.toArray] w fun e w' => e = .returned (.bool (allN (stG R) R.length)) ∧ Below w.heap.size w w' := by
  refine calls_of_wp Tryz.func5 rfl ?_
  have hpan := pan_body (P := Tryz.prog) (fn := Tryz.f5) (R := fun e w' => e = .returned (.bool (allN (stG R) R.length)) ∧ Below w.heap.size w w')
  refine env1 (N := 50) rfl (by decide) ?_
  intro a S
  have M : Below w.heap.size w w := Below.refl _ _
  refine wp_seq (wp_region_list ?_)
  refine wpl_box (us := us) (by rw [S.get 0 _ rfl]; rfl) ?_
  intro X1 B2 l3 _
  have M := M.trans (l3.mono M.size)
  replace S := S.put (by decide : 1 < 50) (.pointer (some ⟨w.heap.size, 0, none⟩))
  refine wpl_val (v := (.bool false)) (ex_assign (v := (.bool false)) rfl _) ?_
  replace S := S.put (by decide : 2 < 50) (.bool false)
  refine wpl_nil ?_
  replace S := (S.nil).add (S.get 1 _ rfl)
  refine env_gen (C := fun a => Code.wp Tryz.prog _ _ a _) S ?_
  clear S; intro a S
  refine wp_seq (wp_seq (wp_region_list ?_))
  refine wpl_val (v := (.int .i64 0)) (ex_assign (v := (.int .i64 0)) rfl _) ?_
  replace S := S.put (by decide : 3 < 50) (.int .i64 0)
  refine wpl_nil ?_
  replace S := ((S.nil).add (S.get 1 _ rfl)).add (S.get 3 _ rfl)
  refine env_gen (C := fun a => Code.wp Tryz.prog _ _ a _) S ?_
  clear S; intro a S
  refine wp_block (wp_count R.length (fun i a W => Env 50 (upd (upd ((fun _ => none)) 1 (.pointer (some ⟨w.heap.size, 0, none⟩))) 3 (.int .i64 i)) a ∧ allN (stG R) i = true ∧ Below w.heap.size w W ∧ Box W (w.heap.size) us) ⟨S, rfl, M, B2⟩ ?_)
  clear S M B2
  rintro i a W hin ⟨S, hall, M, B2⟩
  refine wp_seq (wp_seq (wp_region_list ?_))
  refine wpl_val (v := (.int .i64 i)) (ex_move (S.get 3 _ rfl) _) ?_
  replace S := S.put (by decide : 7 < 50) (.int .i64 i)
  refine wpl_val (v := (.pointer (some ⟨w.heap.size, 0 + 0, none⟩))) (ex_field (S.get 1 _ rfl) (by kernel_rfl) _) ?_
  replace S := S.put (by decide : 8 < 50) (.pointer (some ⟨w.heap.size, 0 + 0, none⟩))
  refine wpl_val (v := (.slice o R.length c)) (ex_load (S.get 8 _ rfl) ⟨by kernel_rfl, by kernel_rfl⟩ _ (box_at B2 k0)) ?_
  replace S := S.put (by decide : 9 < 50) (.slice o R.length c)
  refine env_gen (C := fun a => wpList Tryz.prog _ _ _ a _) S ?_
  clear S; intro a S
  refine wpl_val (v := (.int .i64 R.length)) (ex_len (by kernel_rfl) (S.get 9 _ rfl) _) ?_
  replace S := S.put (by decide : 10 < 50) (.int .i64 R.length)
  refine wpl_val (v := (.bool (decide ((i : Int) < (R.length : Int))))) (ex_bin (u := (.int .i64 i)) (v := (.int .i64 R.length)) (S.get 7 _ rfl) (S.get 10 _ rfl) _ (run_lss _)) ?_
  replace S := S.put (by decide : 11 < 50) (.bool (decide ((i : Int) < (R.length : Int))))
  refine wpl_nil ?_
  by_cases hlt : i < R.length
  case neg =>
    rw [decide_eq_false (by omega : ¬ (i : Int) < (R.length : Int))] at S ⊢
    have hiR : i = R.length := by omega
    refine wp_cond_false (S.get 11 _ rfl) (wp_exit ?_)
    simp only [Exit.then, Exit.inBlock, if_true]
    refine wp_seq (wp_region_list ?_)
    refine wpl_val (v := (.bool true)) (ex_assign (v := (.bool true)) rfl _) ?_
    replace S := S.put (by decide : 2 < 50) (.bool true)
    refine wpl_nil ?_
    refine wp_ret ?_
    rw [hiR] at hall
    exact ret_at (P := Tryz.prog) (fn := Tryz.f5) (R := fun e w' => e = .returned (.bool (allN (stG R) R.length)) ∧ Below w.heap.size w w') S rfl rfl ⟨by rw [hall], M⟩
  rw [decide_eq_true (by omega : (i : Int) < (R.length : Int))] at S ⊢
  refine wp_cond_true (S.get 11 _ rfl) (wp_skip ?_)
  replace S := ((S.nil).add (S.get 1 _ rfl)).add (S.get 3 _ rfl)
  refine env_gen (C := fun a => Code.wp Tryz.prog _ _ a _) S ?_
  clear S; intro a S
  obtain ⟨r, hri⟩ : ∃ r, R[i]? = some r := ⟨_, List.getElem?_eq_getElem (by omega)⟩
  obtain ⟨p, q, rfl⟩ : ∃ p q, o = some ⟨p, q, none⟩ := by obtain ⟨p, q, _, e, _⟩ := hat i r hri; exact ⟨p, q, e⟩
  obtain ⟨ur, hp, hs, hrr⟩ := (hat i r hri).out2
  rw [show cReplica.k = 43 by kernel_rfl] at hs
  refine wp_seq (wp_block ?_)
  refine wp_seq (wp_region_list ?_)
  refine wpl_val (v := (.int .i64 0)) (ex_assign (v := (.int .i64 0)) rfl _) ?_
  replace S := S.put (by decide : 4 < 50) (.int .i64 0)
  refine wpl_nil ?_
  replace S := (((S.nil).add (S.get 1 _ rfl)).add (S.get 3 _ rfl)).add (S.get 4 _ rfl)
  refine env_gen (C := fun a => Code.wp Tryz.prog _ _ a _) S ?_
  clear S; intro a S
  refine wp_block (wp_count i (fun k a W => Env 50 (upd (upd (upd ((fun _ => none)) 1 (.pointer (some ⟨w.heap.size, 0, none⟩))) 3 (.int .i64 i)) 4 (.int .i64 k)) a ∧ allN (stF R i) k = true ∧ Below w.heap.size w W ∧ Box W (w.heap.size) us) ⟨S, rfl, M, B2⟩ ?_)
  clear S M B2
  rintro k a W hik ⟨S, hak, M, B2⟩
  refine wp_seq (wp_seq (wp_region_list ?_))
  refine wpl_val (v := (.int .i64 k)) (ex_move (S.get 4 _ rfl) _) ?_
  replace S := S.put (by decide : 14 < 50) (.int .i64 k)
  refine wpl_val (v := (.int .i64 i)) (ex_move (S.get 3 _ rfl) _) ?_
  replace S := S.put (by decide : 15 < 50) (.int .i64 i)
  refine env_gen (C := fun a => wpList Tryz.prog _ _ _ a _) S ?_
  clear S; intro a S
  refine wpl_val (v := (.bool (decide ((k : Int) < (i : Int))))) (ex_bin (u := (.int .i64 k)) (v := (.int .i64 i)) (S.get 14 _ rfl) (S.get 15 _ rfl) _ (run_lss _)) ?_
  replace S := S.put (by decide : 16 < 50) (.bool (decide ((k : Int) < (i : Int))))
  refine wpl_nil ?_
  by_cases hkl : k < i
  case neg =>
    rw [decide_eq_false (by omega : ¬ (k : Int) < (i : Int))] at S ⊢
    have hki : k = i := by omega
    rw [hki] at hak
    refine wp_cond_false (S.get 16 _ rfl) (wp_exit ?_)
    simp only [Exit.then, Exit.inBlock, if_true]
    replace S := ((S.nil).add (S.get 1 _ rfl)).add (S.get 3 _ rfl)
    refine env_gen (C := fun a => Code.wp Tryz.prog _ _ a _) S ?_
    clear S; intro a S
    refine wp_region_list ?_
    refine wpl_val (v := (.int .i64 i)) (ex_move (S.get 3 _ rfl) _) ?_
    replace S := S.put (by decide : 12 < 50) (.int .i64 i)
    refine wpl_val (v := (.int .i64 (i + 1))) (ex_bin (u := (.int .i64 i)) (v := (.int .i64 1)) (S.get 12 _ rfl) rfl _ (run_inc _ (by omega) (by omega))) ?_
    replace S := S.put (by decide : 13 < 50) (.int .i64 (i + 1))
    refine env_gen (C := fun a => wpList Tryz.prog _ _ _ a _) S ?_
    clear S; intro a S
    refine wpl_val (v := (.int .i64 (i + 1))) (ex_assign (S.get 13 _ rfl) _) ?_
    replace S := S.put (by decide : 3 < 50) (.int .i64 (i + 1))
    refine wpl_nil ?_
    exact ⟨⟨((S.nil).add (S.get 1 _ rfl)).add (S.get 3 _ rfl), allN_step hall hak, M, B2⟩, hlt⟩
  rw [decide_eq_true (by omega : (k : Int) < (i : Int))] at S ⊢
  refine wp_cond_true (S.get 16 _ rfl) (wp_skip ?_)
  replace S := (((S.nil).add (S.get 1 _ rfl)).add (S.get 3 _ rfl)).add (S.get 4 _ rfl)
  refine env_gen (C := fun a => Code.wp Tryz.prog _ _ a _) S ?_
  clear S; intro a S
  obtain ⟨z, hzk⟩ : ∃ z, R[k]? = some z := ⟨_, List.getElem?_eq_getElem (by omega)⟩
  obtain ⟨uz, _, hz, hrz⟩ := (hat k z hzk).out2
  rw [show cReplica.k = 43 by kernel_rfl] at hz
  have hg := stF_at hri hzk
  obtain ⟨⟨hlr, h1r, _, hapr, hupr⟩, prer, ssr, postr, eprer, lprer, lssr, hstr⟩ := rep_partS hrr
  obtain ⟨⟨hlz, h1z, _, hapz, hupz⟩, prez, ssz, postz, eprez, lprez, lssz, hstz⟩ := rep_partS hrz
  have hsp : stP r z = (!((rUp r && rUp z) && rApplied r == rApplied z) || sameSt (rState r) (rState z)) := rfl
  have ht1 := htt i r hri
  have ht2 := htt k z hzk
  generalize rUp r = up at *
  generalize rUp z = uz2 at *
  generalize rApplied r = ap at *
  generalize rApplied z = az at *
  generalize rState r = sr at *
  generalize rState z = sz at *
  refine wp_seq (wp_block ?_)
  refine wp_seq (wp_region_list ?_)
  refine wpl_val (v := (.pointer (some ⟨w.heap.size, 0 + 0, none⟩))) (ex_field (S.get 1 _ rfl) (by kernel_rfl) _) ?_
  replace S := S.put (by decide : 19 < 50) (.pointer (some ⟨w.heap.size, 0 + 0, none⟩))
  refine wpl_val (v := (.slice (some ⟨p, q, none⟩) R.length c)) (ex_load (S.get 19 _ rfl) ⟨by kernel_rfl, by kernel_rfl⟩ _ (box_at B2 k0)) ?_
  replace S := S.put (by decide : 20 < 50) (.slice (some ⟨p, q, none⟩) R.length c)
  refine env_gen (C := fun a => wpList Tryz.prog _ _ _ a _) S ?_
  clear S; intro a S
  refine wpl_val (v := (.int .i64 i)) (ex_move (S.get 3 _ rfl) _) ?_
  replace S := S.put (by decide : 21 < 50) (.int .i64 i)
  refine wpl_val (v := (.pointer (some ⟨p, q + i * 43, none⟩))) (ex_index (e := 70) (i := i) (k := 43) (by kernel_rfl) (by kernel_rfl) (S.get 20 _ rfl) (S.get 21 _ rfl) hlt _) ?_
  replace S := S.put (by decide : 22 < 50) (.pointer (some ⟨p, q + i * 43, none⟩))
  refine wpl_val (v := (.agg (List.toArray ur))) (ex_agg (us := ur) (S.get 22 _ rfl) ⟨by kernel_rfl, by kernel_rfl⟩ hlr _ (hs.frm (Fr.of M) (Nat.zero_le _) hp)) ?_
  replace S := S.put (by decide : 23 < 50) (.agg (List.toArray ur))
  refine wpl_alloc (zs := rpN) (z := .agg rpN.toArray) (by kernel_rfl) rfl ?_
  intro X6 B4 l7 n8
  have p5 : ∃ p, p = W.heap.size := ⟨_, rfl⟩
  obtain ⟨p5, ep5⟩ := p5
  rw [← ep5] at B4 ⊢
  replace S := S.put (by decide : 5 < 50) (.pointer (some ⟨p5, 0, none⟩))
  refine wpl_store (off := 0) (n := 43) rfl 70 (.tmp 5) (.tmp 23) rfl (S.get 5 _ rfl) (S.get 23 _ rfl) ur [] (rpN) [] rfl h1r (by kernel_rfl) hlr (by rw [List.append_nil]; exact B4) rfl rfl ?_
  intro U9 B4 g10 _
  rw [List.nil_append, List.append_nil] at B4
  rw [put_none]
  have h11 : Below W.heap.size W U9 := l7.grown g10 l7.size (fun q hq => by have := Option.some.inj hq; omega)
  have B2 := B2.later h11
  have M := M.trans (h11.mono M.size)
  have z12 := h11.size
  refine wpl_nil ?_
  replace S := ((((S.nil).add (S.get 1 _ rfl)).add (S.get 3 _ rfl)).add (S.get 4 _ rfl)).add (S.get 5 _ rfl)
  refine env_gen (C := fun a => Code.wp Tryz.prog _ _ a _) S ?_
  clear S; intro a S
  refine wp_seq (wp_region_list ?_)
  refine wpl_val (v := (.pointer (some ⟨w.heap.size, 0 + 0, none⟩))) (ex_field (S.get 1 _ rfl) (by kernel_rfl) _) ?_
  replace S := S.put (by decide : 24 < 50) (.pointer (some ⟨w.heap.size, 0 + 0, none⟩))
  refine wpl_val (v := (.slice (some ⟨p, q, none⟩) R.length c)) (ex_load (S.get 24 _ rfl) ⟨by kernel_rfl, by kernel_rfl⟩ _ (box_at B2 k0)) ?_
  replace S := S.put (by decide : 25 < 50) (.slice (some ⟨p, q, none⟩) R.length c)
  refine wpl_val (v := (.int .i64 k)) (ex_move (S.get 4 _ rfl) _) ?_
  replace S := S.put (by decide : 26 < 50) (.int .i64 k)
  refine env_gen (C := fun a => wpList Tryz.prog _ _ _ a _) S ?_
  clear S; intro a S
  refine wpl_val (v := (.pointer (some ⟨p, q + k * 43, none⟩))) (ex_index (e := 70) (i := k) (k := 43) (by kernel_rfl) (by kernel_rfl) (S.get 25 _ rfl) (S.get 26 _ rfl) (by omega) _) ?_
  replace S := S.put (by decide : 27 < 50) (.pointer (some ⟨p, q + k * 43, none⟩))
  refine wpl_val (v := (.agg (List.toArray uz))) (ex_agg (us := uz) (S.get 27 _ rfl) ⟨by kernel_rfl, by kernel_rfl⟩ hlz _ (hz.frm (Fr.of M) (Nat.zero_le _) hp)) ?_
  replace S := S.put (by decide : 28 < 50) (.agg (List.toArray uz))
  refine wpl_alloc (zs := rpN) (z := .agg rpN.toArray) (by kernel_rfl) rfl ?_
  intro X15 B13 l16 n17
  have p14 : ∃ p, p = U9.heap.size := ⟨_, rfl⟩
  obtain ⟨p14, ep14⟩ := p14
  rw [← ep14] at B13 ⊢
  replace S := S.put (by decide : 6 < 50) (.pointer (some ⟨p14, 0, none⟩))
  refine wpl_store (off := 0) (n := 43) rfl 70 (.tmp 6) (.tmp 28) rfl (S.get 6 _ rfl) (S.get 28 _ rfl) uz [] (rpN) [] rfl h1z (by kernel_rfl) hlz (by rw [List.append_nil]; exact B13) rfl rfl ?_
  intro U18 B13 g19 _
  rw [List.nil_append, List.append_nil] at B13
  rw [put_none]
  have h20 : Below U9.heap.size U9 U18 := l16.grown g19 l16.size (fun q hq => by have := Option.some.inj hq; omega)
  have B2 := B2.later h20
  have B4 := B4.later h20
  have M := M.trans (h20.mono M.size)
  have z21 := h20.size
  refine wpl_nil ?_
  replace S := (((((S.nil).add (S.get 1 _ rfl)).add (S.get 3 _ rfl)).add (S.get 4 _ rfl)).add (S.get 5 _ rfl)).add (S.get 6 _ rfl)
  refine env_gen (C := fun a => Code.wp Tryz.prog _ _ a _) S ?_
  clear S; intro a S
  cases up
  case false =>
    refine wp_seq (wp_region_list ?_)
    refine wpl_val (v := (.pointer (some ⟨p5, 0 + 42, none⟩))) (ex_field (S.get 5 _ rfl) (by kernel_rfl) _) ?_
    replace S := S.put (by decide : 29 < 50) (.pointer (some ⟨p5, 0 + 42, none⟩))
    refine env_gen (C := fun a => wpList Tryz.prog _ _ _ a _) S ?_
    clear S; intro a S
    refine wpl_val (v := (.bool false)) (ex_load (S.get 29 _ rfl) ⟨by kernel_rfl, by kernel_rfl⟩ _ (box_at B4 hupr)) ?_
    replace S := S.put (by decide : 30 < 50) (.bool false)
    refine wpl_val (v := (.bool false)) (ex_move (S.get 30 _ rfl) _) ?_
    replace S := S.put (by decide : 31 < 50) (.bool false)
    refine env_gen (C := fun a => wpList Tryz.prog _ _ _ a _) S ?_
    clear S; intro a S
    refine wg_skip (wan_no (j := 2) (t := 31) (b := true) (c := false) rfl (S.get 31 _ rfl) (by decide)) ?_
    replace S := S.put (by decide : 32 < 50) undef
    refine env_gen (C := fun a => wpList Tryz.prog _ _ _ a _) S ?_
    clear S; intro a S
    refine wg_skip (wan_no (j := 2) (t := 31) (b := true) (c := false) rfl (S.get 31 _ rfl) (by decide)) ?_
    replace S := S.put (by decide : 33 < 50) undef
    refine wpl_val (v := (.bool false)) (ex_pickF (v := (.bool false)) (S.get 31 _ rfl) rfl _) ?_
    replace S := S.put (by decide : 34 < 50) (.bool false)
    refine env_gen (C := fun a => wpList Tryz.prog _ _ _ a _) S ?_
    clear S; intro a S
    refine wpl_val (v := (.bool false)) (ex_move (S.get 34 _ rfl) _) ?_
    replace S := S.put (by decide : 35 < 50) (.bool false)
    refine env_gen (C := fun a => wpList Tryz.prog _ _ _ a _) S ?_
    clear S; intro a S
    refine wg_skip (wan_no (j := 6) (t := 35) (b := true) (c := false) rfl (S.get 35 _ rfl) (by decide)) ?_
    replace S := S.put (by decide : 36 < 50) undef
    refine env_gen (C := fun a => wpList Tryz.prog _ _ _ a _) S ?_
    clear S; intro a S
    refine wg_skip (wan_no (j := 6) (t := 35) (b := true) (c := false) rfl (S.get 35 _ rfl) (by decide)) ?_
    replace S := S.put (by decide : 37 < 50) undef
    refine env_gen (C := fun a => wpList Tryz.prog _ _ _ a _) S ?_
    clear S; intro a S
    refine wg_skip (wan_no (j := 6) (t := 35) (b := true) (c := false) rfl (S.get 35 _ rfl) (by decide)) ?_
    replace S := S.put (by decide : 38 < 50) undef
    refine env_gen (C := fun a => wpList Tryz.prog _ _ _ a _) S ?_
    clear S; intro a S
    refine wg_skip (wan_no (j := 6) (t := 35) (b := true) (c := false) rfl (S.get 35 _ rfl) (by decide)) ?_
    replace S := S.put (by decide : 39 < 50) undef
    refine env_gen (C := fun a => wpList Tryz.prog _ _ _ a _) S ?_
    clear S; intro a S
    refine wg_skip (wan_no (j := 6) (t := 35) (b := true) (c := false) rfl (S.get 35 _ rfl) (by decide)) ?_
    replace S := S.put (by decide : 40 < 50) undef
    refine wpl_val (v := (.bool false)) (ex_pickF (v := (.bool false)) (S.get 35 _ rfl) rfl _) ?_
    replace S := S.put (by decide : 41 < 50) (.bool false)
    refine wpl_val (v := (.bool false)) (ex_move (S.get 41 _ rfl) _) ?_
    replace S := S.put (by decide : 42 < 50) (.bool false)
    refine env_gen (C := fun a => wpList Tryz.prog _ _ _ a _) S ?_
    clear S; intro a S
    refine wg_skip (wan_no (j := 13) (t := 42) (b := true) (c := false) rfl (S.get 42 _ rfl) (by decide)) ?_
    replace S := S.put (by decide : 43 < 50) undef
    refine env_gen (C := fun a => wpList Tryz.prog _ _ _ a _) S ?_
    clear S; intro a S
    refine wg_skip (wan_no (j := 13) (t := 42) (b := true) (c := false) rfl (S.get 42 _ rfl) (by decide)) ?_
    replace S := S.put (by decide : 44 < 50) undef
    refine env_gen (C := fun a => wpList Tryz.prog _ _ _ a _) S ?_
    clear S; intro a S
    refine wg_skip (wan_no (j := 13) (t := 42) (b := true) (c := false) rfl (S.get 42 _ rfl) (by decide)) ?_
    replace S := S.put (by decide : 45 < 50) undef
    refine env_gen (C := fun a => wpList Tryz.prog _ _ _ a _) S ?_
    clear S; intro a S
    refine wg_skip (wan_no (j := 13) (t := 42) (b := true) (c := false) rfl (S.get 42 _ rfl) (by decide)) ?_
    replace S := S.put (by decide : 46 < 50) undef
    refine env_gen (C := fun a => wpList Tryz.prog _ _ _ a _) S ?_
    clear S; intro a S
    refine wg_skip (wan_no (j := 13) (t := 42) (b := true) (c := false) rfl (S.get 42 _ rfl) (by decide)) ?_
    replace S := S.put (by decide : 47 < 50) undef
    refine env_gen (C := fun a => wpList Tryz.prog _ _ _ a _) S ?_
    clear S; intro a S
    refine wg_skip (wan_no (j := 13) (t := 42) (b := true) (c := false) rfl (S.get 42 _ rfl) (by decide)) ?_
    replace S := S.put (by decide : 48 < 50) undef
    refine env_gen (C := fun a => wpList Tryz.prog _ _ _ a _) S ?_
    clear S; intro a S
    refine wpl_val (v := (.bool false)) (ex_pickF (v := (.bool false)) (S.get 42 _ rfl) rfl _) ?_
    replace S := S.put (by decide : 49 < 50) (.bool false)
    refine wpl_nil ?_
    have hgE : stF R i k = true := by rw [hg, hsp]; rfl
    refine wp_cond_false (S.get 49 _ rfl) (wp_skip ?_)
    replace S := (((S.nil).add (S.get 1 _ rfl)).add (S.get 3 _ rfl)).add (S.get 4 _ rfl)
    refine env_gen (C := fun a => Code.wp Tryz.prog _ _ a _) S ?_
    clear S; intro a S
    refine wp_region_list ?_
    refine wpl_val (v := (.int .i64 k)) (ex_move (S.get 4 _ rfl) _) ?_
    replace S := S.put (by decide : 17 < 50) (.int .i64 k)
    refine wpl_val (v := (.int .i64 (k + 1))) (ex_bin (u := (.int .i64 k)) (v := (.int .i64 1)) (S.get 17 _ rfl) rfl _ (run_inc _ (by omega) (by omega))) ?_
    replace S := S.put (by decide : 18 < 50) (.int .i64 (k + 1))
    refine env_gen (C := fun a => wpList Tryz.prog _ _ _ a _) S ?_
    clear S; intro a S
    refine wpl_val (v := (.int .i64 (k + 1))) (ex_assign (S.get 18 _ rfl) _) ?_
    replace S := S.put (by decide : 4 < 50) (.int .i64 (k + 1))
    refine wpl_nil ?_
    exact ⟨⟨(((S.nil).add (S.get 1 _ rfl)).add (S.get 3 _ rfl)).add (S.get 4 _ rfl), allN_step hak hgE, M, B2⟩, hkl⟩
  cases uz2
  case false =>
    refine wp_seq (wp_region_list ?_)
    refine wpl_val (v := (.pointer (some ⟨p5, 0 + 42, none⟩))) (ex_field (S.get 5 _ rfl) (by kernel_rfl) _) ?_
    replace S := S.put (by decide : 29 < 50) (.pointer (some ⟨p5, 0 + 42, none⟩))
    refine wpl_val (v := (.bool true)) (ex_load (S.get 29 _ rfl) ⟨by kernel_rfl, by kernel_rfl⟩ _ (box_at B4 hupr)) ?_
    replace S := S.put (by decide : 30 < 50) (.bool true)
    refine env_gen (C := fun a => wpList Tryz.prog _ _ _ a _) S ?_
    clear S; intro a S
    refine wpl_val (v := (.bool true)) (ex_move (S.get 30 _ rfl) _) ?_
    replace S := S.put (by decide : 31 < 50) (.bool true)
    refine env_gen (C := fun a => wpList Tryz.prog _ _ _ a _) S ?_
    clear S; intro a S
    refine wg_val (v := (.pointer (some ⟨p14, 0 + 42, none⟩))) (wan_yes (j := 2) (t := 31) (b := true) rfl (S.get 31 _ rfl) (by rw [S.sz]; decide)) (ex_field (S.get 6 _ rfl) (by kernel_rfl) _) ?_
    replace S := S.put (by decide : 32 < 50) (.pointer (some ⟨p14, 0 + 42, none⟩))
    refine env_gen (C := fun a => wpList Tryz.prog _ _ _ a _) S ?_
    clear S; intro a S
    refine wg_val (v := (.bool false)) (wan_yes (j := 2) (t := 31) (b := true) rfl (S.get 31 _ rfl) (by rw [S.sz]; decide)) (ex_load (S.get 32 _ rfl) ⟨by kernel_rfl, by kernel_rfl⟩ _ (box_at B13 hupz)) ?_
    replace S := S.put (by decide : 33 < 50) (.bool false)
    refine wpl_val (v := (.bool false)) (ex_pickT (v := (.bool false)) (S.get 31 _ rfl) (S.get 33 _ rfl) _) ?_
    replace S := S.put (by decide : 34 < 50) (.bool false)
    refine wpl_val (v := (.bool false)) (ex_move (S.get 34 _ rfl) _) ?_
    replace S := S.put (by decide : 35 < 50) (.bool false)
    refine env_gen (C := fun a => wpList Tryz.prog _ _ _ a _) S ?_
    clear S; intro a S
    refine wg_skip (wan_no (j := 6) (t := 35) (b := true) (c := false) rfl (S.get 35 _ rfl) (by decide)) ?_
    replace S := S.put (by decide : 36 < 50) undef
    refine env_gen (C := fun a => wpList Tryz.prog _ _ _ a _) S ?_
    clear S; intro a S
    refine wg_skip (wan_no (j := 6) (t := 35) (b := true) (c := false) rfl (S.get 35 _ rfl) (by decide)) ?_
    replace S := S.put (by decide : 37 < 50) undef
    refine env_gen (C := fun a => wpList Tryz.prog _ _ _ a _) S ?_
    clear S; intro a S
    refine wg_skip (wan_no (j := 6) (t := 35) (b := true) (c := false) rfl (S.get 35 _ rfl) (by decide)) ?_
    replace S := S.put (by decide : 38 < 50) undef
    refine env_gen (C := fun a => wpList Tryz.prog _ _ _ a _) S ?_
    clear S; intro a S
    refine wg_skip (wan_no (j := 6) (t := 35) (b := true) (c := false) rfl (S.get 35 _ rfl) (by decide)) ?_
    replace S := S.put (by decide : 39 < 50) undef
    refine env_gen (C := fun a => wpList Tryz.prog _ _ _ a _) S ?_
    clear S; intro a S
    refine wg_skip (wan_no (j := 6) (t := 35) (b := true) (c := false) rfl (S.get 35 _ rfl) (by decide)) ?_
    replace S := S.put (by decide : 40 < 50) undef
    refine env_gen (C := fun a => wpList Tryz.prog _ _ _ a _) S ?_
    clear S; intro a S
    refine wpl_val (v := (.bool false)) (ex_pickF (v := (.bool false)) (S.get 35 _ rfl) rfl _) ?_
    replace S := S.put (by decide : 41 < 50) (.bool false)
    refine wpl_val (v := (.bool false)) (ex_move (S.get 41 _ rfl) _) ?_
    replace S := S.put (by decide : 42 < 50) (.bool false)
    refine env_gen (C := fun a => wpList Tryz.prog _ _ _ a _) S ?_
    clear S; intro a S
    refine wg_skip (wan_no (j := 13) (t := 42) (b := true) (c := false) rfl (S.get 42 _ rfl) (by decide)) ?_
    replace S := S.put (by decide : 43 < 50) undef
    refine env_gen (C := fun a => wpList Tryz.prog _ _ _ a _) S ?_
    clear S; intro a S
    refine wg_skip (wan_no (j := 13) (t := 42) (b := true) (c := false) rfl (S.get 42 _ rfl) (by decide)) ?_
    replace S := S.put (by decide : 44 < 50) undef
    refine env_gen (C := fun a => wpList Tryz.prog _ _ _ a _) S ?_
    clear S; intro a S
    refine wg_skip (wan_no (j := 13) (t := 42) (b := true) (c := false) rfl (S.get 42 _ rfl) (by decide)) ?_
    replace S := S.put (by decide : 45 < 50) undef
    refine env_gen (C := fun a => wpList Tryz.prog _ _ _ a _) S ?_
    clear S; intro a S
    refine wg_skip (wan_no (j := 13) (t := 42) (b := true) (c := false) rfl (S.get 42 _ rfl) (by decide)) ?_
    replace S := S.put (by decide : 46 < 50) undef
    refine env_gen (C := fun a => wpList Tryz.prog _ _ _ a _) S ?_
    clear S; intro a S
    refine wg_skip (wan_no (j := 13) (t := 42) (b := true) (c := false) rfl (S.get 42 _ rfl) (by decide)) ?_
    replace S := S.put (by decide : 47 < 50) undef
    refine env_gen (C := fun a => wpList Tryz.prog _ _ _ a _) S ?_
    clear S; intro a S
    refine wg_skip (wan_no (j := 13) (t := 42) (b := true) (c := false) rfl (S.get 42 _ rfl) (by decide)) ?_
    replace S := S.put (by decide : 48 < 50) undef
    refine wpl_val (v := (.bool false)) (ex_pickF (v := (.bool false)) (S.get 42 _ rfl) rfl _) ?_
    replace S := S.put (by decide : 49 < 50) (.bool false)
    refine wpl_nil ?_
    have hgE : stF R i k = true := by rw [hg, hsp]; rfl
    refine wp_cond_false (S.get 49 _ rfl) (wp_skip ?_)
    replace S := (((S.nil).add (S.get 1 _ rfl)).add (S.get 3 _ rfl)).add (S.get 4 _ rfl)
    refine env_gen (C := fun a => Code.wp Tryz.prog _ _ a _) S ?_
    clear S; intro a S
    refine wp_region_list ?_
    refine wpl_val (v := (.int .i64 k)) (ex_move (S.get 4 _ rfl) _) ?_
    replace S := S.put (by decide : 17 < 50) (.int .i64 k)
    refine wpl_val (v := (.int .i64 (k + 1))) (ex_bin (u := (.int .i64 k)) (v := (.int .i64 1)) (S.get 17 _ rfl) rfl _ (run_inc _ (by omega) (by omega))) ?_
    replace S := S.put (by decide : 18 < 50) (.int .i64 (k + 1))
    refine wpl_val (v := (.int .i64 (k + 1))) (ex_assign (S.get 18 _ rfl) _) ?_
    replace S := S.put (by decide : 4 < 50) (.int .i64 (k + 1))
    refine wpl_nil ?_
    exact ⟨⟨(((S.nil).add (S.get 1 _ rfl)).add (S.get 3 _ rfl)).add (S.get 4 _ rfl), allN_step hak hgE, M, B2⟩, hkl⟩
  by_cases hac : ap = az
  case pos =>
    have e0 : (ap == az) = true := by simp [hac]
    cases hE : sameSt sr sz
    case false =>
      refine wp_seq (wp_region_list ?_)
      refine wpl_val (v := (.pointer (some ⟨p5, 0 + 42, none⟩))) (ex_field (S.get 5 _ rfl) (by kernel_rfl) _) ?_
      replace S := S.put (by decide : 29 < 50) (.pointer (some ⟨p5, 0 + 42, none⟩))
      refine wpl_val (v := (.bool true)) (ex_load (S.get 29 _ rfl) ⟨by kernel_rfl, by kernel_rfl⟩ _ (box_at B4 hupr)) ?_
      replace S := S.put (by decide : 30 < 50) (.bool true)
      refine wpl_val (v := (.bool true)) (ex_move (S.get 30 _ rfl) _) ?_
      replace S := S.put (by decide : 31 < 50) (.bool true)
      refine env_gen (C := fun a => wpList Tryz.prog _ _ _ a _) S ?_
      clear S; intro a S
      refine wg_val (v := (.pointer (some ⟨p14, 0 + 42, none⟩))) (wan_yes (j := 2) (t := 31) (b := true) rfl (S.get 31 _ rfl) (by rw [S.sz]; decide)) (ex_field (S.get 6 _ rfl) (by kernel_rfl) _) ?_
      replace S := S.put (by decide : 32 < 50) (.pointer (some ⟨p14, 0 + 42, none⟩))
      refine env_gen (C := fun a => wpList Tryz.prog _ _ _ a _) S ?_
      clear S; intro a S
      refine wg_val (v := (.bool true)) (wan_yes (j := 2) (t := 31) (b := true) rfl (S.get 31 _ rfl) (by rw [S.sz]; decide)) (ex_load (S.get 32 _ rfl) ⟨by kernel_rfl, by kernel_rfl⟩ _ (box_at B13 hupz)) ?_
      replace S := S.put (by decide : 33 < 50) (.bool true)
      refine env_gen (C := fun a => wpList Tryz.prog _ _ _ a _) S ?_
      clear S; intro a S
      refine wpl_val (v := (.bool true)) (ex_pickT (v := (.bool true)) (S.get 31 _ rfl) (S.get 33 _ rfl) _) ?_
      replace S := S.put (by decide : 34 < 50) (.bool true)
      refine wpl_val (v := (.bool true)) (ex_move (S.get 34 _ rfl) _) ?_
      replace S := S.put (by decide : 35 < 50) (.bool true)
      refine env_gen (C := fun a => wpList Tryz.prog _ _ _ a _) S ?_
      clear S; intro a S
      refine wg_val (v := (.pointer (some ⟨p5, 0 + 39, none⟩))) (wan_yes (j := 6) (t := 35) (b := true) rfl (S.get 35 _ rfl) (by rw [S.sz]; decide)) (ex_field (S.get 5 _ rfl) (by kernel_rfl) _) ?_
      replace S := S.put (by decide : 36 < 50) (.pointer (some ⟨p5, 0 + 39, none⟩))
      refine env_gen (C := fun a => wpList Tryz.prog _ _ _ a _) S ?_
      clear S; intro a S
      refine wg_val (v := (.int .i64 ap)) (wan_yes (j := 6) (t := 35) (b := true) rfl (S.get 35 _ rfl) (by rw [S.sz]; decide)) (ex_load (S.get 36 _ rfl) ⟨by kernel_rfl, by kernel_rfl⟩ _ (box_at B4 hapr)) ?_
      replace S := S.put (by decide : 37 < 50) (.int .i64 ap)
      refine env_gen (C := fun a => wpList Tryz.prog _ _ _ a _) S ?_
      clear S; intro a S
      refine wg_val (v := (.pointer (some ⟨p14, 0 + 39, none⟩))) (wan_yes (j := 6) (t := 35) (b := true) rfl (S.get 35 _ rfl) (by rw [S.sz]; decide)) (ex_field (S.get 6 _ rfl) (by kernel_rfl) _) ?_
      replace S := S.put (by decide : 38 < 50) (.pointer (some ⟨p14, 0 + 39, none⟩))
      refine env_gen (C := fun a => wpList Tryz.prog _ _ _ a _) S ?_
      clear S; intro a S
      refine wg_val (v := (.int .i64 az)) (wan_yes (j := 6) (t := 35) (b := true) rfl (S.get 35 _ rfl) (by rw [S.sz]; decide)) (ex_load (S.get 38 _ rfl) ⟨by kernel_rfl, by kernel_rfl⟩ _ (box_at B13 hapz)) ?_
      replace S := S.put (by decide : 39 < 50) (.int .i64 az)
      refine env_gen (C := fun a => wpList Tryz.prog _ _ _ a _) S ?_
      clear S; intro a S
      refine wg_val (v := (.bool true)) (wan_yes (j := 6) (t := 35) (b := true) rfl (S.get 35 _ rfl) (by rw [S.sz]; decide)) (ex_bin (u := (.int .i64 ap)) (v := (.int .i64 az)) (S.get 37 _ rfl) (S.get 39 _ rfl) _ ((run_eqi _).trans (by rw [e0]))) ?_
      replace S := S.put (by decide : 40 < 50) (.bool true)
      refine wpl_val (v := (.bool true)) (ex_pickT (v := (.bool true)) (S.get 35 _ rfl) (S.get 40 _ rfl) _) ?_
      replace S := S.put (by decide : 41 < 50) (.bool true)
      refine env_gen (C := fun a => wpList Tryz.prog _ _ _ a _) S ?_
      clear S; intro a S
      refine wpl_val (v := (.bool true)) (ex_move (S.get 41 _ rfl) _) ?_
      replace S := S.put (by decide : 42 < 50) (.bool true)
      refine env_gen (C := fun a => wpList Tryz.prog _ _ _ a _) S ?_
      clear S; intro a S
      refine wg_val (v := (.pointer (some ⟨p5, 0 + 31, none⟩))) (wan_yes (j := 13) (t := 42) (b := true) rfl (S.get 42 _ rfl) (by rw [S.sz]; decide)) (ex_field (S.get 5 _ rfl) (by kernel_rfl) _) ?_
      replace S := S.put (by decide : 43 < 50) (.pointer (some ⟨p5, 0 + 31, none⟩))
      refine env_gen (C := fun a => wpList Tryz.prog _ _ _ a _) S ?_
      clear S; intro a S
      refine wg_val (v := (.agg (List.toArray ssr))) (wan_yes (j := 13) (t := 42) (b := true) rfl (S.get 42 _ rfl) (by rw [S.sz]; decide)) (ex_agg (us := ssr) (S.get 43 _ rfl) ⟨by kernel_rfl, by kernel_rfl⟩ lssr _ (Box.seg (us := prer) (vs := ssr) (ts := postr) (by rw [← eprer]; exact B4) lprer)) ?_
      replace S := S.put (by decide : 44 < 50) (.agg (List.toArray ssr))
      refine env_gen (C := fun a => wpList Tryz.prog _ _ _ a _) S ?_
      clear S; intro a S
      refine wg_val (v := (.pointer (some ⟨p14, 0 + 31, none⟩))) (wan_yes (j := 13) (t := 42) (b := true) rfl (S.get 42 _ rfl) (by rw [S.sz]; decide)) (ex_field (S.get 6 _ rfl) (by kernel_rfl) _) ?_
      replace S := S.put (by decide : 45 < 50) (.pointer (some ⟨p14, 0 + 31, none⟩))
      refine env_gen (C := fun a => wpList Tryz.prog _ _ _ a _) S ?_
      clear S; intro a S
      refine wg_val (v := (.agg (List.toArray ssz))) (wan_yes (j := 13) (t := 42) (b := true) rfl (S.get 42 _ rfl) (by rw [S.sz]; decide)) (ex_agg (us := ssz) (S.get 45 _ rfl) ⟨by kernel_rfl, by kernel_rfl⟩ lssz _ (Box.seg (us := prez) (vs := ssz) (ts := postz) (by rw [← eprez]; exact B13) lprez)) ?_
      replace S := S.put (by decide : 46 < 50) (.agg (List.toArray ssz))
      refine env_gen (C := fun a => wpList Tryz.prog _ _ _ a _) S ?_
      clear S; intro a S
      have zq0 : Act.eval _ (.tmp 44) = (.agg (List.toArray ssr)) := S.get 44 _ rfl
      have zq1 : Act.eval _ (.tmp 46) = (.agg (List.toArray ssz)) := S.get 46 _ rfl
      refine wg_call (R := fun e V => e = .returned (.bool false) ∧ Below U18.heap.size U18 V) (wan_yes (j := 13) (t := 42) (b := true) rfl (S.get 42 _ rfl) (by rw [S.sz]; decide)) ⟨_, Tryz.func15, by kernel_rfl, by kernel_rfl⟩ ?_ ?_
      · obtain ⟨_, _, _, _, _, _, _, _, H1⟩ := sta_parts (cState.lat hstr M) ht1
        obtain ⟨_, _, _, _, _, _, _, _, H2⟩ := sta_parts (cState.lat hstz M) ht2
        have hc := sSame_c H1 H2
        rw [hE] at hc
        simp only [List.map_toArray, List.map_cons, List.map_nil, zq0, zq1]; exact hc
      rintro e V22 ⟨rfl, hb23⟩
      refine ⟨_, rfl, ?_⟩
      have B2 := B2.later hb23
      have B4 := B4.later hb23
      have B13 := B13.later hb23
      have M := M.trans (hb23.mono M.size)
      have z24 := hb23.size
      replace S := S.put (by decide : 47 < 50) (.bool false)
      refine env_gen (C := fun a => wpList Tryz.prog _ _ _ a _) S ?_
      clear S; intro a S
      refine env_gen (C := fun a => wpList Tryz.prog _ _ _ a _) S ?_
      clear S; intro a S
      refine wg_val (v := (.bool true)) (wan_yes (j := 13) (t := 42) (b := true) rfl (S.get 42 _ rfl) (by rw [S.sz]; decide)) (ex_not (b := false) (S.get 47 _ rfl) _) ?_
      replace S := S.put (by decide : 48 < 50) (.bool true)
      refine wpl_val (v := (.bool true)) (ex_pickT (v := (.bool true)) (S.get 42 _ rfl) (S.get 48 _ rfl) _) ?_
      replace S := S.put (by decide : 49 < 50) (.bool true)
      refine wpl_nil ?_
      have hgE : stF R i k = false := by rw [hg, hsp]; rw [e0, hE]; rfl
      refine wp_cond_true (S.get 49 _ rfl) ?_
      refine wp_seq (wp_region_list ?_)
      refine wpl_val (v := (.bool false)) (ex_assign (v := (.bool false)) rfl _) ?_
      replace S := S.put (by decide : 2 < 50) (.bool false)
      refine wpl_nil ?_
      refine wp_ret ?_
      have hgF : stG R i = false := allN_bad (i := k) hgE hkl
      exact ret_at (P := Tryz.prog) (fn := Tryz.f5) (R := fun e w' => e = .returned (.bool (allN (stG R) R.length)) ∧ Below w.heap.size w w') S rfl rfl ⟨by rw [allN_bad hgF hlt], M⟩
    case true =>
      refine wp_seq (wp_region_list ?_)
      refine wpl_val (v := (.pointer (some ⟨p5, 0 + 42, none⟩))) (ex_field (S.get 5 _ rfl) (by kernel_rfl) _) ?_
      replace S := S.put (by decide : 29 < 50) (.pointer (some ⟨p5, 0 + 42, none⟩))
      refine wpl_val (v := (.bool true)) (ex_load (S.get 29 _ rfl) ⟨by kernel_rfl, by kernel_rfl⟩ _ (box_at B4 hupr)) ?_
      replace S := S.put (by decide : 30 < 50) (.bool true)
      refine wpl_val (v := (.bool true)) (ex_move (S.get 30 _ rfl) _) ?_
      replace S := S.put (by decide : 31 < 50) (.bool true)
      refine env_gen (C := fun a => wpList Tryz.prog _ _ _ a _) S ?_
      clear S; intro a S
      refine wg_val (v := (.pointer (some ⟨p14, 0 + 42, none⟩))) (wan_yes (j := 2) (t := 31) (b := true) rfl (S.get 31 _ rfl) (by rw [S.sz]; decide)) (ex_field (S.get 6 _ rfl) (by kernel_rfl) _) ?_
      replace S := S.put (by decide : 32 < 50) (.pointer (some ⟨p14, 0 + 42, none⟩))
      refine env_gen (C := fun a => wpList Tryz.prog _ _ _ a _) S ?_
      clear S; intro a S
      refine wg_val (v := (.bool true)) (wan_yes (j := 2) (t := 31) (b := true) rfl (S.get 31 _ rfl) (by rw [S.sz]; decide)) (ex_load (S.get 32 _ rfl) ⟨by kernel_rfl, by kernel_rfl⟩ _ (box_at B13 hupz)) ?_
      replace S := S.put (by decide : 33 < 50) (.bool true)
      refine env_gen (C := fun a => wpList Tryz.prog _ _ _ a _) S ?_
      clear S; intro a S
      refine wpl_val (v := (.bool true)) (ex_pickT (v := (.bool true)) (S.get 31 _ rfl) (S.get 33 _ rfl) _) ?_
      replace S := S.put (by decide : 34 < 50) (.bool true)
      refine wpl_val (v := (.bool true)) (ex_move (S.get 34 _ rfl) _) ?_
      replace S := S.put (by decide : 35 < 50) (.bool true)
      refine env_gen (C := fun a => wpList Tryz.prog _ _ _ a _) S ?_
      clear S; intro a S
      refine wg_val (v := (.pointer (some ⟨p5, 0 + 39, none⟩))) (wan_yes (j := 6) (t := 35) (b := true) rfl (S.get 35 _ rfl) (by rw [S.sz]; decide)) (ex_field (S.get 5 _ rfl) (by kernel_rfl) _) ?_
      replace S := S.put (by decide : 36 < 50) (.pointer (some ⟨p5, 0 + 39, none⟩))
      refine env_gen (C := fun a => wpList Tryz.prog _ _ _ a _) S ?_
      clear S; intro a S
      refine wg_val (v := (.int .i64 ap)) (wan_yes (j := 6) (t := 35) (b := true) rfl (S.get 35 _ rfl) (by rw [S.sz]; decide)) (ex_load (S.get 36 _ rfl) ⟨by kernel_rfl, by kernel_rfl⟩ _ (box_at B4 hapr)) ?_
      replace S := S.put (by decide : 37 < 50) (.int .i64 ap)
      refine env_gen (C := fun a => wpList Tryz.prog _ _ _ a _) S ?_
      clear S; intro a S
      refine wg_val (v := (.pointer (some ⟨p14, 0 + 39, none⟩))) (wan_yes (j := 6) (t := 35) (b := true) rfl (S.get 35 _ rfl) (by rw [S.sz]; decide)) (ex_field (S.get 6 _ rfl) (by kernel_rfl) _) ?_
      replace S := S.put (by decide : 38 < 50) (.pointer (some ⟨p14, 0 + 39, none⟩))
      refine env_gen (C := fun a => wpList Tryz.prog _ _ _ a _) S ?_
      clear S; intro a S
      refine wg_val (v := (.int .i64 az)) (wan_yes (j := 6) (t := 35) (b := true) rfl (S.get 35 _ rfl) (by rw [S.sz]; decide)) (ex_load (S.get 38 _ rfl) ⟨by kernel_rfl, by kernel_rfl⟩ _ (box_at B13 hapz)) ?_
      replace S := S.put (by decide : 39 < 50) (.int .i64 az)
      refine env_gen (C := fun a => wpList Tryz.prog _ _ _ a _) S ?_
      clear S; intro a S
      refine wg_val (v := (.bool true)) (wan_yes (j := 6) (t := 35) (b := true) rfl (S.get 35 _ rfl) (by rw [S.sz]; decide)) (ex_bin (u := (.int .i64 ap)) (v := (.int .i64 az)) (S.get 37 _ rfl) (S.get 39 _ rfl) _ ((run_eqi _).trans (by rw [e0]))) ?_
      replace S := S.put (by decide : 40 < 50) (.bool true)
      refine wpl_val (v := (.bool true)) (ex_pickT (v := (.bool true)) (S.get 35 _ rfl) (S.get 40 _ rfl) _) ?_
      replace S := S.put (by decide : 41 < 50) (.bool true)
      refine env_gen (C := fun a => wpList Tryz.prog _ _ _ a _) S ?_
      clear S; intro a S
      refine wpl_val (v := (.bool true)) (ex_move (S.get 41 _ rfl) _) ?_
      replace S := S.put (by decide : 42 < 50) (.bool true)
      refine env_gen (C := fun a => wpList Tryz.prog _ _ _ a _) S ?_
      clear S; intro a S
      refine wg_val (v := (.pointer (some ⟨p5, 0 + 31, none⟩))) (wan_yes (j := 13) (t := 42) (b := true) rfl (S.get 42 _ rfl) (by rw [S.sz]; decide)) (ex_field (S.get 5 _ rfl) (by kernel_rfl) _) ?_
      replace S := S.put (by decide : 43 < 50) (.pointer (some ⟨p5, 0 + 31, none⟩))
      refine env_gen (C := fun a => wpList Tryz.prog _ _ _ a _) S ?_
      clear S; intro a S
      refine wg_val (v := (.agg (List.toArray ssr))) (wan_yes (j := 13) (t := 42) (b := true) rfl (S.get 42 _ rfl) (by rw [S.sz]; decide)) (ex_agg (us := ssr) (S.get 43 _ rfl) ⟨by kernel_rfl, by kernel_rfl⟩ lssr _ (Box.seg (us := prer) (vs := ssr) (ts := postr) (by rw [← eprer]; exact B4) lprer)) ?_
      replace S := S.put (by decide : 44 < 50) (.agg (List.toArray ssr))
      refine env_gen (C := fun a => wpList Tryz.prog _ _ _ a _) S ?_
      clear S; intro a S
      refine wg_val (v := (.pointer (some ⟨p14, 0 + 31, none⟩))) (wan_yes (j := 13) (t := 42) (b := true) rfl (S.get 42 _ rfl) (by rw [S.sz]; decide)) (ex_field (S.get 6 _ rfl) (by kernel_rfl) _) ?_
      replace S := S.put (by decide : 45 < 50) (.pointer (some ⟨p14, 0 + 31, none⟩))
      refine env_gen (C := fun a => wpList Tryz.prog _ _ _ a _) S ?_
      clear S; intro a S
      refine wg_val (v := (.agg (List.toArray ssz))) (wan_yes (j := 13) (t := 42) (b := true) rfl (S.get 42 _ rfl) (by rw [S.sz]; decide)) (ex_agg (us := ssz) (S.get 45 _ rfl) ⟨by kernel_rfl, by kernel_rfl⟩ lssz _ (Box.seg (us := prez) (vs := ssz) (ts := postz) (by rw [← eprez]; exact B13) lprez)) ?_
      replace S := S.put (by decide : 46 < 50) (.agg (List.toArray ssz))
      refine env_gen (C := fun a => wpList Tryz.prog _ _ _ a _) S ?_
      clear S; intro a S
      have zq0 : Act.eval _ (.tmp 44) = (.agg (List.toArray ssr)) := S.get 44 _ rfl
      have zq1 : Act.eval _ (.tmp 46) = (.agg (List.toArray ssz)) := S.get 46 _ rfl
      refine wg_call (R := fun e V => e = .returned (.bool true) ∧ Below U18.heap.size U18 V) (wan_yes (j := 13) (t := 42) (b := true) rfl (S.get 42 _ rfl) (by rw [S.sz]; decide)) ⟨_, Tryz.func15, by kernel_rfl, by kernel_rfl⟩ ?_ ?_
      · obtain ⟨_, _, _, _, _, _, _, _, H1⟩ := sta_parts (cState.lat hstr M) ht1
        obtain ⟨_, _, _, _, _, _, _, _, H2⟩ := sta_parts (cState.lat hstz M) ht2
        have hc := sSame_c H1 H2
        rw [hE] at hc
        simp only [List.map_toArray, List.map_cons, List.map_nil, zq0, zq1]; exact hc
      rintro e V25 ⟨rfl, hb26⟩
      refine ⟨_, rfl, ?_⟩
      have B2 := B2.later hb26
      have B4 := B4.later hb26
      have B13 := B13.later hb26
      have M := M.trans (hb26.mono M.size)
      have z27 := hb26.size
      replace S := S.put (by decide : 47 < 50) (.bool true)
      refine env_gen (C := fun a => wpList Tryz.prog _ _ _ a _) S ?_
      clear S; intro a S
      refine env_gen (C := fun a => wpList Tryz.prog _ _ _ a _) S ?_
      clear S; intro a S
      refine wg_val (v := (.bool false)) (wan_yes (j := 13) (t := 42) (b := true) rfl (S.get 42 _ rfl) (by rw [S.sz]; decide)) (ex_not (b := true) (S.get 47 _ rfl) _) ?_
      replace S := S.put (by decide : 48 < 50) (.bool false)
      refine wpl_val (v := (.bool false)) (ex_pickT (v := (.bool false)) (S.get 42 _ rfl) (S.get 48 _ rfl) _) ?_
      replace S := S.put (by decide : 49 < 50) (.bool false)
      refine wpl_nil ?_
      have hgE : stF R i k = true := by rw [hg, hsp]; rw [e0, hE]; rfl
      refine wp_cond_false (S.get 49 _ rfl) (wp_skip ?_)
      replace S := (((S.nil).add (S.get 1 _ rfl)).add (S.get 3 _ rfl)).add (S.get 4 _ rfl)
      refine env_gen (C := fun a => Code.wp Tryz.prog _ _ a _) S ?_
      clear S; intro a S
      refine wp_region_list ?_
      refine wpl_val (v := (.int .i64 k)) (ex_move (S.get 4 _ rfl) _) ?_
      replace S := S.put (by decide : 17 < 50) (.int .i64 k)
      refine env_gen (C := fun a => wpList Tryz.prog _ _ _ a _) S ?_
      clear S; intro a S
      refine wpl_val (v := (.int .i64 (k + 1))) (ex_bin (u := (.int .i64 k)) (v := (.int .i64 1)) (S.get 17 _ rfl) rfl _ (run_inc _ (by omega) (by omega))) ?_
      replace S := S.put (by decide : 18 < 50) (.int .i64 (k + 1))
      refine wpl_val (v := (.int .i64 (k + 1))) (ex_assign (S.get 18 _ rfl) _) ?_
      replace S := S.put (by decide : 4 < 50) (.int .i64 (k + 1))
      refine wpl_nil ?_
      exact ⟨⟨(((S.nil).add (S.get 1 _ rfl)).add (S.get 3 _ rfl)).add (S.get 4 _ rfl), allN_step hak hgE, M, B2⟩, hkl⟩
  case neg =>
    have e0 : (ap == az) = false := by simp [hac]
    refine wp_seq (wp_region_list ?_)
    refine wpl_val (v := (.pointer (some ⟨p5, 0 + 42, none⟩))) (ex_field (S.get 5 _ rfl) (by kernel_rfl) _) ?_
    replace S := S.put (by decide : 29 < 50) (.pointer (some ⟨p5, 0 + 42, none⟩))
    refine env_gen (C := fun a => wpList Tryz.prog _ _ _ a _) S ?_
    clear S; intro a S
    refine wpl_val (v := (.bool true)) (ex_load (S.get 29 _ rfl) ⟨by kernel_rfl, by kernel_rfl⟩ _ (box_at B4 hupr)) ?_
    replace S := S.put (by decide : 30 < 50) (.bool true)
    refine wpl_val (v := (.bool true)) (ex_move (S.get 30 _ rfl) _) ?_
    replace S := S.put (by decide : 31 < 50) (.bool true)
    refine env_gen (C := fun a => wpList Tryz.prog _ _ _ a _) S ?_
    clear S; intro a S
    refine wg_val (v := (.pointer (some ⟨p14, 0 + 42, none⟩))) (wan_yes (j := 2) (t := 31) (b := true) rfl (S.get 31 _ rfl) (by rw [S.sz]; decide)) (ex_field (S.get 6 _ rfl) (by kernel_rfl) _) ?_
    replace S := S.put (by decide : 32 < 50) (.pointer (some ⟨p14, 0 + 42, none⟩))
    refine env_gen (C := fun a => wpList Tryz.prog _ _ _ a _) S ?_
    clear S; intro a S
    refine wg_val (v := (.bool true)) (wan_yes (j := 2) (t := 31) (b := true) rfl (S.get 31 _ rfl) (by rw [S.sz]; decide)) (ex_load (S.get 32 _ rfl) ⟨by kernel_rfl, by kernel_rfl⟩ _ (box_at B13 hupz)) ?_
    replace S := S.put (by decide : 33 < 50) (.bool true)
    refine wpl_val (v := (.bool true)) (ex_pickT (v := (.bool true)) (S.get 31 _ rfl) (S.get 33 _ rfl) _) ?_
    replace S := S.put (by decide : 34 < 50) (.bool true)
    refine env_gen (C := fun a => wpList Tryz.prog _ _ _ a _) S ?_
    clear S; intro a S
    refine wpl_val (v := (.bool true)) (ex_move (S.get 34 _ rfl) _) ?_
    replace S := S.put (by decide : 35 < 50) (.bool true)
    refine env_gen (C := fun a => wpList Tryz.prog _ _ _ a _) S ?_
    clear S; intro a S
    refine wg_val (v := (.pointer (some ⟨p5, 0 + 39, none⟩))) (wan_yes (j := 6) (t := 35) (b := true) rfl (S.get 35 _ rfl) (by rw [S.sz]; decide)) (ex_field (S.get 5 _ rfl) (by kernel_rfl) _) ?_
    replace S := S.put (by decide : 36 < 50) (.pointer (some ⟨p5, 0 + 39, none⟩))
    refine env_gen (C := fun a => wpList Tryz.prog _ _ _ a _) S ?_
    clear S; intro a S
    refine wg_val (v := (.int .i64 ap)) (wan_yes (j := 6) (t := 35) (b := true) rfl (S.get 35 _ rfl) (by rw [S.sz]; decide)) (ex_load (S.get 36 _ rfl) ⟨by kernel_rfl, by kernel_rfl⟩ _ (box_at B4 hapr)) ?_
    replace S := S.put (by decide : 37 < 50) (.int .i64 ap)
    refine env_gen (C := fun a => wpList Tryz.prog _ _ _ a _) S ?_
    clear S; intro a S
    refine wg_val (v := (.pointer (some ⟨p14, 0 + 39, none⟩))) (wan_yes (j := 6) (t := 35) (b := true) rfl (S.get 35 _ rfl) (by rw [S.sz]; decide)) (ex_field (S.get 6 _ rfl) (by kernel_rfl) _) ?_
    replace S := S.put (by decide : 38 < 50) (.pointer (some ⟨p14, 0 + 39, none⟩))
    refine env_gen (C := fun a => wpList Tryz.prog _ _ _ a _) S ?_
    clear S; intro a S
    refine wg_val (v := (.int .i64 az)) (wan_yes (j := 6) (t := 35) (b := true) rfl (S.get 35 _ rfl) (by rw [S.sz]; decide)) (ex_load (S.get 38 _ rfl) ⟨by kernel_rfl, by kernel_rfl⟩ _ (box_at B13 hapz)) ?_
    replace S := S.put (by decide : 39 < 50) (.int .i64 az)
    refine env_gen (C := fun a => wpList Tryz.prog _ _ _ a _) S ?_
    clear S; intro a S
    refine wg_val (v := (.bool false)) (wan_yes (j := 6) (t := 35) (b := true) rfl (S.get 35 _ rfl) (by rw [S.sz]; decide)) (ex_bin (u := (.int .i64 ap)) (v := (.int .i64 az)) (S.get 37 _ rfl) (S.get 39 _ rfl) _ ((run_eqi _).trans (by rw [e0]))) ?_
    replace S := S.put (by decide : 40 < 50) (.bool false)
    refine wpl_val (v := (.bool false)) (ex_pickT (v := (.bool false)) (S.get 35 _ rfl) (S.get 40 _ rfl) _) ?_
    replace S := S.put (by decide : 41 < 50) (.bool false)
    refine wpl_val (v := (.bool false)) (ex_move (S.get 41 _ rfl) _) ?_
    replace S := S.put (by decide : 42 < 50) (.bool false)
    refine env_gen (C := fun a => wpList Tryz.prog _ _ _ a _) S ?_
    clear S; intro a S
    refine wg_skip (wan_no (j := 13) (t := 42) (b := true) (c := false) rfl (S.get 42 _ rfl) (by decide)) ?_
    replace S := S.put (by decide : 43 < 50) undef
    refine env_gen (C := fun a => wpList Tryz.prog _ _ _ a _) S ?_
    clear S; intro a S
    refine wg_skip (wan_no (j := 13) (t := 42) (b := true) (c := false) rfl (S.get 42 _ rfl) (by decide)) ?_
    replace S := S.put (by decide : 44 < 50) undef
    refine env_gen (C := fun a => wpList Tryz.prog _ _ _ a _) S ?_
    clear S; intro a S
    refine wg_skip (wan_no (j := 13) (t := 42) (b := true) (c := false) rfl (S.get 42 _ rfl) (by decide)) ?_
    replace S := S.put (by decide : 45 < 50) undef
    refine env_gen (C := fun a => wpList Tryz.prog _ _ _ a _) S ?_
    clear S; intro a S
    refine wg_skip (wan_no (j := 13) (t := 42) (b := true) (c := false) rfl (S.get 42 _ rfl) (by decide)) ?_
    replace S := S.put (by decide : 46 < 50) undef
    refine env_gen (C := fun a => wpList Tryz.prog _ _ _ a _) S ?_
    clear S; intro a S
    refine wg_skip (wan_no (j := 13) (t := 42) (b := true) (c := false) rfl (S.get 42 _ rfl) (by decide)) ?_
    replace S := S.put (by decide : 47 < 50) undef
    refine env_gen (C := fun a => wpList Tryz.prog _ _ _ a _) S ?_
    clear S; intro a S
    refine wg_skip (wan_no (j := 13) (t := 42) (b := true) (c := false) rfl (S.get 42 _ rfl) (by decide)) ?_
    replace S := S.put (by decide : 48 < 50) undef
    refine env_gen (C := fun a => wpList Tryz.prog _ _ _ a _) S ?_
    clear S; intro a S
    refine wpl_val (v := (.bool false)) (ex_pickF (v := (.bool false)) (S.get 42 _ rfl) rfl _) ?_
    replace S := S.put (by decide : 49 < 50) (.bool false)
    refine wpl_nil ?_
    have hgE : stF R i k = true := by rw [hg, hsp]; rw [e0]; rfl
    refine wp_cond_false (S.get 49 _ rfl) (wp_skip ?_)
    replace S := (((S.nil).add (S.get 1 _ rfl)).add (S.get 3 _ rfl)).add (S.get 4 _ rfl)
    refine env_gen (C := fun a => Code.wp Tryz.prog _ _ a _) S ?_
    clear S; intro a S
    refine wp_region_list ?_
    refine wpl_val (v := (.int .i64 k)) (ex_move (S.get 4 _ rfl) _) ?_
    replace S := S.put (by decide : 17 < 50) (.int .i64 k)
    refine wpl_val (v := (.int .i64 (k + 1))) (ex_bin (u := (.int .i64 k)) (v := (.int .i64 1)) (S.get 17 _ rfl) rfl _ (run_inc _ (by omega) (by omega))) ?_
    replace S := S.put (by decide : 18 < 50) (.int .i64 (k + 1))
    refine env_gen (C := fun a => wpList Tryz.prog _ _ _ a _) S ?_
    clear S; intro a S
    refine wpl_val (v := (.int .i64 (k + 1))) (ex_assign (S.get 18 _ rfl) _) ?_
    replace S := S.put (by decide : 4 < 50) (.int .i64 (k + 1))
    refine wpl_nil ?_
    exact ⟨⟨(((S.nil).add (S.get 1 _ rfl)).add (S.get 3 _ rfl)).add (S.get 4 _ rfl), allN_step hak hgE, M, B2⟩, hkl⟩

end Go.Proofs.YtjiplphfpkhmpaaGreat
