/-
  The specification's Ahead.
-/
import Derived.Test.YtjiplphfpkhmpaaJH
namespace Go.Proofs.Ytjiplphfpkhmpaa
open Go.RowKit

set_option maxRecDepth 20000 in
set_option maxHeartbeats 8000000 in
theorem sAhead_m (us : List Value) (R : List RepA) (o oD : Option Addr) (c cD nD : Nat) (w : World) (k0 : us[0]? = some (.slice o R.length c)) (k5 : us[5]? = some (.slice oD nD cD)) (hn : R.length ≤ 1048576) (hat : ∀ j y, R[j]? = some y → At cReplica w 0 o j y) :
    Calls Try.prog 10 #[.agg us.toArray] w fun e w' => e = .returned (.bool (allN (ahF R nD) R.length)) ∧ Below w.heap.size w w' := by
  refine calls_of_wp Try.func10 rfl ?_
  have hpan := pan_body (P := Try.prog) (fn := Try.f10) (R := fun e w' => e = .returned (.bool (allN (ahF R nD) R.length)) ∧ Below w.heap.size w w')
  refine env1 (N := 36) rfl (by decide) ?_
  intro a S
  have M : Below w.heap.size w w := Below.refl _ _
  refine wp_seq (wp_region_list ?_)
  refine wpl_box (us := us) (by rw [S.get 0 _ rfl]; rfl) ?_
  intro X1 B2 l3 _
  have M := M.trans (l3.mono M.size)
  replace S := S.put (by decide : 1 < 36) (.pointer (some ⟨w.heap.size, 0, none⟩))
  refine wpl_val (v := (.bool false)) (ex_assign (v := (.bool false)) rfl _) ?_
  replace S := S.put (by decide : 2 < 36) (.bool false)
  refine wpl_nil ?_
  replace S := (S.nil).add (S.get 1 _ rfl)
  refine env_gen (C := fun a => Code.wp Try.prog _ _ a _) S ?_
  clear S; intro a S
  refine wp_seq (wp_seq (wp_region_list ?_))
  refine wpl_val (v := (.int .i64 0)) (ex_assign (v := (.int .i64 0)) rfl _) ?_
  replace S := S.put (by decide : 3 < 36) (.int .i64 0)
  refine wpl_nil ?_
  replace S := ((S.nil).add (S.get 1 _ rfl)).add (S.get 3 _ rfl)
  refine env_gen (C := fun a => Code.wp Try.prog _ _ a _) S ?_
  clear S; intro a S
  refine wp_block (wp_count R.length (fun i a W => Env 36 (upd (upd ((fun _ => none)) 1 (.pointer (some ⟨w.heap.size, 0, none⟩))) 3 (.int .i64 i)) a ∧ allN (ahF R nD) i = true ∧ Below w.heap.size w W ∧ Box W (w.heap.size) us) ⟨S, rfl, M, B2⟩ ?_)
  clear S M B2
  rintro i a W hin ⟨S, hall, M, B2⟩
  refine wp_seq (wp_seq (wp_region_list ?_))
  refine wpl_val (v := (.int .i64 i)) (ex_move (S.get 3 _ rfl) _) ?_
  replace S := S.put (by decide : 5 < 36) (.int .i64 i)
  refine wpl_val (v := (.pointer (some ⟨w.heap.size, 0 + 0, none⟩))) (ex_field (S.get 1 _ rfl) (by kernel_rfl) _) ?_
  replace S := S.put (by decide : 6 < 36) (.pointer (some ⟨w.heap.size, 0 + 0, none⟩))
  refine wpl_val (v := (.slice o R.length c)) (ex_load (S.get 6 _ rfl) ⟨by kernel_rfl, by kernel_rfl⟩ _ (box_at B2 k0)) ?_
  replace S := S.put (by decide : 7 < 36) (.slice o R.length c)
  refine wpl_val (v := (.int .i64 R.length)) (ex_len (by kernel_rfl) (S.get 7 _ rfl) _) ?_
  replace S := S.put (by decide : 8 < 36) (.int .i64 R.length)
  refine wpl_val (v := (.bool (decide ((i : Int) < (R.length : Int))))) (ex_bin (u := (.int .i64 i)) (v := (.int .i64 R.length)) (S.get 5 _ rfl) (S.get 8 _ rfl) _ (run_lss _)) ?_
  replace S := S.put (by decide : 9 < 36) (.bool (decide ((i : Int) < (R.length : Int))))
  refine wpl_nil ?_
  by_cases hlt : i < R.length
  case neg =>
    rw [decide_eq_false (by omega : ¬ (i : Int) < (R.length : Int))] at S ⊢
    have hiR : i = R.length := by omega
    refine (wp_cond_false (S.get 9 _ rfl) (wp_exit ?_))
    simp only [Exit.then, Exit.inBlock, if_true]
    refine wp_seq (wp_region_list ?_)
    refine wpl_val (v := (.bool true)) (ex_assign (v := (.bool true)) rfl _) ?_
    replace S := S.put (by decide : 2 < 36) (.bool true)
    refine wpl_nil ?_
    refine wp_ret ?_
    rw [hiR] at hall
    exact ret_at (P := Try.prog) (fn := Try.f10) (R := fun e w' => e = .returned (.bool (allN (ahF R nD) R.length)) ∧ Below w.heap.size w w') S rfl rfl ⟨by rw [hall], M⟩
  rw [decide_eq_true (by omega : (i : Int) < (R.length : Int))] at S ⊢
  refine (wp_cond_true (S.get 9 _ rfl) (wp_skip ?_))
  replace S := ((S.nil).add (S.get 1 _ rfl)).add (S.get 3 _ rfl)
  refine env_gen (C := fun a => Code.wp Try.prog _ _ a _) S ?_
  clear S; intro a S
  obtain ⟨r, hri⟩ : ∃ r, R[i]? = some r := ⟨_, List.getElem?_eq_getElem (by omega)⟩
  obtain ⟨p, q, vs, rfl, _, hp, hseg, hrep⟩ := hat i r hri
  have hg := ahF_at (nD := nD) hri
  obtain ⟨hul, hone, hcm, hap, hup⟩ := rep_parts hrep
  have hk43 : cReplica.k = 43 := by kernel_rfl
  rw [hk43] at hseg
  generalize rUp r = up at *
  generalize rApplied r = ap at *
  generalize rCommit r = cm at *
  refine wp_seq (wp_block ?_)
  refine wp_seq (wp_region_list ?_)
  refine wpl_val (v := (.pointer (some ⟨w.heap.size, 0 + 0, none⟩))) (ex_field (S.get 1 _ rfl) (by kernel_rfl) _) ?_
  replace S := S.put (by decide : 12 < 36) (.pointer (some ⟨w.heap.size, 0 + 0, none⟩))
  refine wpl_val (v := (.slice (some ⟨p, q, none⟩) R.length c)) (ex_load (S.get 12 _ rfl) ⟨by kernel_rfl, by kernel_rfl⟩ _ (box_at B2 k0)) ?_
  replace S := S.put (by decide : 13 < 36) (.slice (some ⟨p, q, none⟩) R.length c)
  refine wpl_val (v := (.int .i64 i)) (ex_move (S.get 3 _ rfl) _) ?_
  replace S := S.put (by decide : 14 < 36) (.int .i64 i)
  refine wpl_val (v := (.pointer (some ⟨p, q + i * 43, none⟩))) (ex_index (e := 84) (i := i) (k := 43) (by kernel_rfl) (by kernel_rfl) (S.get 13 _ rfl) (S.get 14 _ rfl) hlt _) ?_
  replace S := S.put (by decide : 15 < 36) (.pointer (some ⟨p, q + i * 43, none⟩))
  refine wpl_val (v := (.agg (List.toArray vs))) (ex_agg (us := vs) (S.get 15 _ rfl) ⟨by kernel_rfl, by kernel_rfl⟩ hul _ (hseg.frm (Fr.of M) (Nat.zero_le _) hp)) ?_
  replace S := S.put (by decide : 16 < 36) (.agg (List.toArray vs))
  refine wpl_alloc (zs := rpN) (z := .agg rpN.toArray) (by kernel_rfl) rfl ?_
  intro X6 B4 l7 n8
  have p5 : ∃ p, p = W.heap.size := ⟨_, rfl⟩
  obtain ⟨p5, ep5⟩ := p5
  rw [← ep5] at B4 ⊢
  replace S := S.put (by decide : 4 < 36) (.pointer (some ⟨p5, 0, none⟩))
  refine wpl_store (off := 0) (n := 43) rfl 84 (.tmp 4) (.tmp 16) rfl (S.get 4 _ rfl) (S.get 16 _ rfl) vs [] (rpN) [] rfl hone (by kernel_rfl) hul (by rw [List.append_nil]; exact B4) rfl rfl ?_
  intro U9 B4 g10 _
  rw [List.nil_append, List.append_nil] at B4
  rw [put_none]
  have h11 : Below W.heap.size W U9 := l7.grown g10 l7.size (fun q hq => by have := Option.some.inj hq; omega)
  have B2 := B2.later h11
  have M := M.trans (h11.mono M.size)
  have z12 := h11.size
  refine wpl_nil ?_
  replace S := (((S.nil).add (S.get 1 _ rfl)).add (S.get 3 _ rfl)).add (S.get 4 _ rfl)
  refine env_gen (C := fun a => Code.wp Try.prog _ _ a _) S ?_
  clear S; intro a S
  cases up
  case false =>
    refine wp_seq (wp_region_list ?_)
    refine wpl_val (v := (.pointer (some ⟨p5, 0 + 42, none⟩))) (ex_field (S.get 4 _ rfl) (by kernel_rfl) _) ?_
    replace S := S.put (by decide : 17 < 36) (.pointer (some ⟨p5, 0 + 42, none⟩))
    refine wpl_val (v := (.bool false)) (ex_load (S.get 17 _ rfl) ⟨by kernel_rfl, by kernel_rfl⟩ _ (box_at B4 hup)) ?_
    replace S := S.put (by decide : 18 < 36) (.bool false)
    refine wpl_val (v := (.bool false)) (ex_move (S.get 18 _ rfl) _) ?_
    replace S := S.put (by decide : 19 < 36) (.bool false)
    refine env_gen (C := fun a => wpList Try.prog _ _ _ a _) S ?_
    clear S; intro a S
    refine wg_skip (wan_no (j := 2) (t := 19) (b := true) (c := false) rfl (S.get 19 _ rfl) (by decide)) ?_
    replace S := S.put (by decide : 20 < 36) undef
    refine env_gen (C := fun a => wpList Try.prog _ _ _ a _) S ?_
    clear S; intro a S
    refine wg_skip (wan_no (j := 2) (t := 19) (b := true) (c := false) rfl (S.get 19 _ rfl) (by decide)) ?_
    replace S := S.put (by decide : 21 < 36) undef
    refine env_gen (C := fun a => wpList Try.prog _ _ _ a _) S ?_
    clear S; intro a S
    refine wg_skip (wan_no (j := 2) (t := 19) (b := true) (c := false) rfl (S.get 19 _ rfl) (by decide)) ?_
    replace S := S.put (by decide : 22 < 36) undef
    refine env_gen (C := fun a => wpList Try.prog _ _ _ a _) S ?_
    clear S; intro a S
    refine wg_skip (wan_no (j := 2) (t := 19) (b := true) (c := false) rfl (S.get 19 _ rfl) (by decide)) ?_
    replace S := S.put (by decide : 23 < 36) undef
    refine env_gen (C := fun a => wpList Try.prog _ _ _ a _) S ?_
    clear S; intro a S
    refine wg_skip (wan_no (j := 2) (t := 19) (b := true) (c := false) rfl (S.get 19 _ rfl) (by decide)) ?_
    replace S := S.put (by decide : 24 < 36) undef
    refine env_gen (C := fun a => wpList Try.prog _ _ _ a _) S ?_
    clear S; intro a S
    refine wg_skip (wan_no (j := 2) (t := 19) (b := true) (c := false) rfl (S.get 19 _ rfl) (by decide)) ?_
    replace S := S.put (by decide : 25 < 36) undef
    refine wpl_val (v := (.bool false)) (ex_pickF (v := (.bool false)) (S.get 19 _ rfl) rfl _) ?_
    replace S := S.put (by decide : 26 < 36) (.bool false)
    refine wpl_val (v := (.bool false)) (ex_move (S.get 26 _ rfl) _) ?_
    replace S := S.put (by decide : 27 < 36) (.bool false)
    refine env_gen (C := fun a => wpList Try.prog _ _ _ a _) S ?_
    clear S; intro a S
    refine wg_val (v := (.pointer (some ⟨p5, 0 + 0, none⟩))) (wan_yes (j := 10) (t := 27) (b := false) rfl (S.get 27 _ rfl) (by rw [S.sz]; decide)) (ex_field (S.get 4 _ rfl) (by kernel_rfl) _) ?_
    replace S := S.put (by decide : 28 < 36) (.pointer (some ⟨p5, 0 + 0, none⟩))
    refine env_gen (C := fun a => wpList Try.prog _ _ _ a _) S ?_
    clear S; intro a S
    refine wg_val (v := (.pointer (some ⟨p5, 0 + 0 + 11, none⟩))) (wan_yes (j := 10) (t := 27) (b := false) rfl (S.get 27 _ rfl) (by rw [S.sz]; decide)) (ex_field (S.get 28 _ rfl) (by kernel_rfl) _) ?_
    replace S := S.put (by decide : 29 < 36) (.pointer (some ⟨p5, 0 + 0 + 11, none⟩))
    refine env_gen (C := fun a => wpList Try.prog _ _ _ a _) S ?_
    clear S; intro a S
    refine wg_val (v := (.int .i64 cm)) (wan_yes (j := 10) (t := 27) (b := false) rfl (S.get 27 _ rfl) (by rw [S.sz]; decide)) (ex_load (S.get 29 _ rfl) ⟨by kernel_rfl, by kernel_rfl⟩ _ (box_at B4 hcm)) ?_
    replace S := S.put (by decide : 30 < 36) (.int .i64 cm)
    refine env_gen (C := fun a => wpList Try.prog _ _ _ a _) S ?_
    clear S; intro a S
    refine wg_val (v := (.pointer (some ⟨w.heap.size, 0 + 5, none⟩))) (wan_yes (j := 10) (t := 27) (b := false) rfl (S.get 27 _ rfl) (by rw [S.sz]; decide)) (ex_field (S.get 1 _ rfl) (by kernel_rfl) _) ?_
    replace S := S.put (by decide : 31 < 36) (.pointer (some ⟨w.heap.size, 0 + 5, none⟩))
    refine env_gen (C := fun a => wpList Try.prog _ _ _ a _) S ?_
    clear S; intro a S
    refine wg_val (v := (.slice oD nD cD)) (wan_yes (j := 10) (t := 27) (b := false) rfl (S.get 27 _ rfl) (by rw [S.sz]; decide)) (ex_load (S.get 31 _ rfl) ⟨by kernel_rfl, by kernel_rfl⟩ _ (box_at B2 k5)) ?_
    replace S := S.put (by decide : 32 < 36) (.slice oD nD cD)
    refine env_gen (C := fun a => wpList Try.prog _ _ _ a _) S ?_
    clear S; intro a S
    refine wg_val (v := (.int .i64 nD)) (wan_yes (j := 10) (t := 27) (b := false) rfl (S.get 27 _ rfl) (by rw [S.sz]; decide)) (ex_len (by kernel_rfl) (S.get 32 _ rfl) _) ?_
    replace S := S.put (by decide : 33 < 36) (.int .i64 nD)
    refine env_gen (C := fun a => wpList Try.prog _ _ _ a _) S ?_
    clear S; intro a S
    refine wg_val (v := (.bool (decide ((cm : Int) > (nD : Int))))) (wan_yes (j := 10) (t := 27) (b := false) rfl (S.get 27 _ rfl) (by rw [S.sz]; decide)) (ex_bin (u := (.int .i64 cm)) (v := (.int .i64 nD)) (S.get 30 _ rfl) (S.get 33 _ rfl) _ (run_gtr _)) ?_
    replace S := S.put (by decide : 34 < 36) (.bool (decide ((cm : Int) > (nD : Int))))
    refine wpl_val (v := (.bool (decide ((cm : Int) > (nD : Int))))) (ex_pickF (v := (.bool (decide ((cm : Int) > (nD : Int))))) (S.get 27 _ rfl) (S.get 34 _ rfl) _) ?_
    replace S := S.put (by decide : 35 < 36) (.bool (decide ((cm : Int) > (nD : Int))))
    refine wpl_nil ?_
    by_cases hc : ((cm : Int) > (nD : Int))
    case pos =>
      rw [decide_eq_true hc] at S ⊢
      refine wp_cond_true (S.get 35 _ rfl) ?_
      refine wp_seq (wp_region_list ?_)
      refine wpl_val (v := (.bool false)) (ex_assign (v := (.bool false)) rfl _) ?_
      replace S := S.put (by decide : 2 < 36) (.bool false)
      refine wpl_nil ?_
      refine wp_ret ?_
      have hgF : ahF R nD i = false := by rw [hg]; simp [*]
      exact ret_at (P := Try.prog) (fn := Try.f10) (R := fun e w' => e = .returned (.bool (allN (ahF R nD) R.length)) ∧ Below w.heap.size w w') S rfl rfl ⟨by rw [allN_bad hgF hlt], M⟩
    case neg =>
      rw [decide_eq_false hc] at S ⊢
      refine wp_cond_false (S.get 35 _ rfl) (wp_skip ?_)
      replace S := ((S.nil).add (S.get 1 _ rfl)).add (S.get 3 _ rfl)
      refine env_gen (C := fun a => Code.wp Try.prog _ _ a _) S ?_
      clear S; intro a S
      refine wp_region_list ?_
      refine wpl_val (v := (.int .i64 i)) (ex_move (S.get 3 _ rfl) _) ?_
      replace S := S.put (by decide : 10 < 36) (.int .i64 i)
      refine wpl_val (v := (.int .i64 (i + 1))) (ex_bin (u := (.int .i64 i)) (v := (.int .i64 1)) (S.get 10 _ rfl) rfl _ (run_inc _ (by omega) (by omega))) ?_
      replace S := S.put (by decide : 11 < 36) (.int .i64 (i + 1))
      refine wpl_val (v := (.int .i64 (i + 1))) (ex_assign (S.get 11 _ rfl) _) ?_
      replace S := S.put (by decide : 3 < 36) (.int .i64 (i + 1))
      refine wpl_nil ?_
      have hgT : ahF R nD i = true := by rw [hg]; simp [*]
      exact ⟨⟨((S.nil).add (S.get 1 _ rfl)).add (S.get 3 _ rfl), allN_step hall hgT, M, B2⟩, hlt⟩
  by_cases hac : ap = cm
  case pos =>
    have hne : (ap != cm) = false := by simp [hac]
    refine wp_seq (wp_region_list ?_)
    refine wpl_val (v := (.pointer (some ⟨p5, 0 + 42, none⟩))) (ex_field (S.get 4 _ rfl) (by kernel_rfl) _) ?_
    replace S := S.put (by decide : 17 < 36) (.pointer (some ⟨p5, 0 + 42, none⟩))
    refine wpl_val (v := (.bool true)) (ex_load (S.get 17 _ rfl) ⟨by kernel_rfl, by kernel_rfl⟩ _ (box_at B4 hup)) ?_
    replace S := S.put (by decide : 18 < 36) (.bool true)
    refine wpl_val (v := (.bool true)) (ex_move (S.get 18 _ rfl) _) ?_
    replace S := S.put (by decide : 19 < 36) (.bool true)
    refine env_gen (C := fun a => wpList Try.prog _ _ _ a _) S ?_
    clear S; intro a S
    refine wg_val (v := (.pointer (some ⟨p5, 0 + 39, none⟩))) (wan_yes (j := 2) (t := 19) (b := true) rfl (S.get 19 _ rfl) (by rw [S.sz]; decide)) (ex_field (S.get 4 _ rfl) (by kernel_rfl) _) ?_
    replace S := S.put (by decide : 20 < 36) (.pointer (some ⟨p5, 0 + 39, none⟩))
    refine env_gen (C := fun a => wpList Try.prog _ _ _ a _) S ?_
    clear S; intro a S
    refine wg_val (v := (.int .i64 ap)) (wan_yes (j := 2) (t := 19) (b := true) rfl (S.get 19 _ rfl) (by rw [S.sz]; decide)) (ex_load (S.get 20 _ rfl) ⟨by kernel_rfl, by kernel_rfl⟩ _ (box_at B4 hap)) ?_
    replace S := S.put (by decide : 21 < 36) (.int .i64 ap)
    refine env_gen (C := fun a => wpList Try.prog _ _ _ a _) S ?_
    clear S; intro a S
    refine wg_val (v := (.pointer (some ⟨p5, 0 + 0, none⟩))) (wan_yes (j := 2) (t := 19) (b := true) rfl (S.get 19 _ rfl) (by rw [S.sz]; decide)) (ex_field (S.get 4 _ rfl) (by kernel_rfl) _) ?_
    replace S := S.put (by decide : 22 < 36) (.pointer (some ⟨p5, 0 + 0, none⟩))
    refine env_gen (C := fun a => wpList Try.prog _ _ _ a _) S ?_
    clear S; intro a S
    refine wg_val (v := (.pointer (some ⟨p5, 0 + 0 + 11, none⟩))) (wan_yes (j := 2) (t := 19) (b := true) rfl (S.get 19 _ rfl) (by rw [S.sz]; decide)) (ex_field (S.get 22 _ rfl) (by kernel_rfl) _) ?_
    replace S := S.put (by decide : 23 < 36) (.pointer (some ⟨p5, 0 + 0 + 11, none⟩))
    refine env_gen (C := fun a => wpList Try.prog _ _ _ a _) S ?_
    clear S; intro a S
    refine wg_val (v := (.int .i64 cm)) (wan_yes (j := 2) (t := 19) (b := true) rfl (S.get 19 _ rfl) (by rw [S.sz]; decide)) (ex_load (S.get 23 _ rfl) ⟨by kernel_rfl, by kernel_rfl⟩ _ (box_at B4 hcm)) ?_
    replace S := S.put (by decide : 24 < 36) (.int .i64 cm)
    refine env_gen (C := fun a => wpList Try.prog _ _ _ a _) S ?_
    clear S; intro a S
    refine wg_val (v := (.bool false)) (wan_yes (j := 2) (t := 19) (b := true) rfl (S.get 19 _ rfl) (by rw [S.sz]; decide)) (ex_bin (u := (.int .i64 ap)) (v := (.int .i64 cm)) (S.get 21 _ rfl) (S.get 24 _ rfl) _ ((run_eqb _).trans (by rw [hne]))) ?_
    replace S := S.put (by decide : 25 < 36) (.bool false)
    refine wpl_val (v := (.bool false)) (ex_pickT (v := (.bool false)) (S.get 19 _ rfl) (S.get 25 _ rfl) _) ?_
    replace S := S.put (by decide : 26 < 36) (.bool false)
    refine wpl_val (v := (.bool false)) (ex_move (S.get 26 _ rfl) _) ?_
    replace S := S.put (by decide : 27 < 36) (.bool false)
    refine env_gen (C := fun a => wpList Try.prog _ _ _ a _) S ?_
    clear S; intro a S
    refine wg_val (v := (.pointer (some ⟨p5, 0 + 0, none⟩))) (wan_yes (j := 10) (t := 27) (b := false) rfl (S.get 27 _ rfl) (by rw [S.sz]; decide)) (ex_field (S.get 4 _ rfl) (by kernel_rfl) _) ?_
    replace S := S.put (by decide : 28 < 36) (.pointer (some ⟨p5, 0 + 0, none⟩))
    refine env_gen (C := fun a => wpList Try.prog _ _ _ a _) S ?_
    clear S; intro a S
    refine wg_val (v := (.pointer (some ⟨p5, 0 + 0 + 11, none⟩))) (wan_yes (j := 10) (t := 27) (b := false) rfl (S.get 27 _ rfl) (by rw [S.sz]; decide)) (ex_field (S.get 28 _ rfl) (by kernel_rfl) _) ?_
    replace S := S.put (by decide : 29 < 36) (.pointer (some ⟨p5, 0 + 0 + 11, none⟩))
    refine env_gen (C := fun a => wpList Try.prog _ _ _ a _) S ?_
    clear S; intro a S
    refine wg_val (v := (.int .i64 cm)) (wan_yes (j := 10) (t := 27) (b := false) rfl (S.get 27 _ rfl) (by rw [S.sz]; decide)) (ex_load (S.get 29 _ rfl) ⟨by kernel_rfl, by kernel_rfl⟩ _ (box_at B4 hcm)) ?_
    replace S := S.put (by decide : 30 < 36) (.int .i64 cm)
    refine env_gen (C := fun a => wpList Try.prog _ _ _ a _) S ?_
    clear S; intro a S
    refine wg_val (v := (.pointer (some ⟨w.heap.size, 0 + 5, none⟩))) (wan_yes (j := 10) (t := 27) (b := false) rfl (S.get 27 _ rfl) (by rw [S.sz]; decide)) (ex_field (S.get 1 _ rfl) (by kernel_rfl) _) ?_
    replace S := S.put (by decide : 31 < 36) (.pointer (some ⟨w.heap.size, 0 + 5, none⟩))
    refine env_gen (C := fun a => wpList Try.prog _ _ _ a _) S ?_
    clear S; intro a S
    refine wg_val (v := (.slice oD nD cD)) (wan_yes (j := 10) (t := 27) (b := false) rfl (S.get 27 _ rfl) (by rw [S.sz]; decide)) (ex_load (S.get 31 _ rfl) ⟨by kernel_rfl, by kernel_rfl⟩ _ (box_at B2 k5)) ?_
    replace S := S.put (by decide : 32 < 36) (.slice oD nD cD)
    refine env_gen (C := fun a => wpList Try.prog _ _ _ a _) S ?_
    clear S; intro a S
    refine wg_val (v := (.int .i64 nD)) (wan_yes (j := 10) (t := 27) (b := false) rfl (S.get 27 _ rfl) (by rw [S.sz]; decide)) (ex_len (by kernel_rfl) (S.get 32 _ rfl) _) ?_
    replace S := S.put (by decide : 33 < 36) (.int .i64 nD)
    refine env_gen (C := fun a => wpList Try.prog _ _ _ a _) S ?_
    clear S; intro a S
    refine wg_val (v := (.bool (decide ((cm : Int) > (nD : Int))))) (wan_yes (j := 10) (t := 27) (b := false) rfl (S.get 27 _ rfl) (by rw [S.sz]; decide)) (ex_bin (u := (.int .i64 cm)) (v := (.int .i64 nD)) (S.get 30 _ rfl) (S.get 33 _ rfl) _ (run_gtr _)) ?_
    replace S := S.put (by decide : 34 < 36) (.bool (decide ((cm : Int) > (nD : Int))))
    refine wpl_val (v := (.bool (decide ((cm : Int) > (nD : Int))))) (ex_pickF (v := (.bool (decide ((cm : Int) > (nD : Int))))) (S.get 27 _ rfl) (S.get 34 _ rfl) _) ?_
    replace S := S.put (by decide : 35 < 36) (.bool (decide ((cm : Int) > (nD : Int))))
    refine wpl_nil ?_
    by_cases hc : ((cm : Int) > (nD : Int))
    case pos =>
      rw [decide_eq_true hc] at S ⊢
      refine wp_cond_true (S.get 35 _ rfl) ?_
      refine wp_seq (wp_region_list ?_)
      refine wpl_val (v := (.bool false)) (ex_assign (v := (.bool false)) rfl _) ?_
      replace S := S.put (by decide : 2 < 36) (.bool false)
      refine wpl_nil ?_
      refine wp_ret ?_
      have hgF : ahF R nD i = false := by rw [hg]; simp [*]
      exact ret_at (P := Try.prog) (fn := Try.f10) (R := fun e w' => e = .returned (.bool (allN (ahF R nD) R.length)) ∧ Below w.heap.size w w') S rfl rfl ⟨by rw [allN_bad hgF hlt], M⟩
    case neg =>
      rw [decide_eq_false hc] at S ⊢
      refine wp_cond_false (S.get 35 _ rfl) (wp_skip ?_)
      replace S := ((S.nil).add (S.get 1 _ rfl)).add (S.get 3 _ rfl)
      refine env_gen (C := fun a => Code.wp Try.prog _ _ a _) S ?_
      clear S; intro a S
      refine wp_region_list ?_
      refine wpl_val (v := (.int .i64 i)) (ex_move (S.get 3 _ rfl) _) ?_
      replace S := S.put (by decide : 10 < 36) (.int .i64 i)
      refine wpl_val (v := (.int .i64 (i + 1))) (ex_bin (u := (.int .i64 i)) (v := (.int .i64 1)) (S.get 10 _ rfl) rfl _ (run_inc _ (by omega) (by omega))) ?_
      replace S := S.put (by decide : 11 < 36) (.int .i64 (i + 1))
      refine wpl_val (v := (.int .i64 (i + 1))) (ex_assign (S.get 11 _ rfl) _) ?_
      replace S := S.put (by decide : 3 < 36) (.int .i64 (i + 1))
      refine wpl_nil ?_
      have hgT : ahF R nD i = true := by rw [hg]; simp [*]
      exact ⟨⟨((S.nil).add (S.get 1 _ rfl)).add (S.get 3 _ rfl), allN_step hall hgT, M, B2⟩, hlt⟩
  case neg =>
    have hne : (ap != cm) = true := by simp [hac]
    refine wp_seq (wp_region_list ?_)
    refine wpl_val (v := (.pointer (some ⟨p5, 0 + 42, none⟩))) (ex_field (S.get 4 _ rfl) (by kernel_rfl) _) ?_
    replace S := S.put (by decide : 17 < 36) (.pointer (some ⟨p5, 0 + 42, none⟩))
    refine wpl_val (v := (.bool true)) (ex_load (S.get 17 _ rfl) ⟨by kernel_rfl, by kernel_rfl⟩ _ (box_at B4 hup)) ?_
    replace S := S.put (by decide : 18 < 36) (.bool true)
    refine wpl_val (v := (.bool true)) (ex_move (S.get 18 _ rfl) _) ?_
    replace S := S.put (by decide : 19 < 36) (.bool true)
    refine env_gen (C := fun a => wpList Try.prog _ _ _ a _) S ?_
    clear S; intro a S
    refine wg_val (v := (.pointer (some ⟨p5, 0 + 39, none⟩))) (wan_yes (j := 2) (t := 19) (b := true) rfl (S.get 19 _ rfl) (by rw [S.sz]; decide)) (ex_field (S.get 4 _ rfl) (by kernel_rfl) _) ?_
    replace S := S.put (by decide : 20 < 36) (.pointer (some ⟨p5, 0 + 39, none⟩))
    refine env_gen (C := fun a => wpList Try.prog _ _ _ a _) S ?_
    clear S; intro a S
    refine wg_val (v := (.int .i64 ap)) (wan_yes (j := 2) (t := 19) (b := true) rfl (S.get 19 _ rfl) (by rw [S.sz]; decide)) (ex_load (S.get 20 _ rfl) ⟨by kernel_rfl, by kernel_rfl⟩ _ (box_at B4 hap)) ?_
    replace S := S.put (by decide : 21 < 36) (.int .i64 ap)
    refine env_gen (C := fun a => wpList Try.prog _ _ _ a _) S ?_
    clear S; intro a S
    refine wg_val (v := (.pointer (some ⟨p5, 0 + 0, none⟩))) (wan_yes (j := 2) (t := 19) (b := true) rfl (S.get 19 _ rfl) (by rw [S.sz]; decide)) (ex_field (S.get 4 _ rfl) (by kernel_rfl) _) ?_
    replace S := S.put (by decide : 22 < 36) (.pointer (some ⟨p5, 0 + 0, none⟩))
    refine env_gen (C := fun a => wpList Try.prog _ _ _ a _) S ?_
    clear S; intro a S
    refine wg_val (v := (.pointer (some ⟨p5, 0 + 0 + 11, none⟩))) (wan_yes (j := 2) (t := 19) (b := true) rfl (S.get 19 _ rfl) (by rw [S.sz]; decide)) (ex_field (S.get 22 _ rfl) (by kernel_rfl) _) ?_
    replace S := S.put (by decide : 23 < 36) (.pointer (some ⟨p5, 0 + 0 + 11, none⟩))
    refine env_gen (C := fun a => wpList Try.prog _ _ _ a _) S ?_
    clear S; intro a S
    refine wg_val (v := (.int .i64 cm)) (wan_yes (j := 2) (t := 19) (b := true) rfl (S.get 19 _ rfl) (by rw [S.sz]; decide)) (ex_load (S.get 23 _ rfl) ⟨by kernel_rfl, by kernel_rfl⟩ _ (box_at B4 hcm)) ?_
    replace S := S.put (by decide : 24 < 36) (.int .i64 cm)
    refine env_gen (C := fun a => wpList Try.prog _ _ _ a _) S ?_
    clear S; intro a S
    refine wg_val (v := (.bool true)) (wan_yes (j := 2) (t := 19) (b := true) rfl (S.get 19 _ rfl) (by rw [S.sz]; decide)) (ex_bin (u := (.int .i64 ap)) (v := (.int .i64 cm)) (S.get 21 _ rfl) (S.get 24 _ rfl) _ ((run_eqb _).trans (by rw [hne]))) ?_
    replace S := S.put (by decide : 25 < 36) (.bool true)
    refine wpl_val (v := (.bool true)) (ex_pickT (v := (.bool true)) (S.get 19 _ rfl) (S.get 25 _ rfl) _) ?_
    replace S := S.put (by decide : 26 < 36) (.bool true)
    refine wpl_val (v := (.bool true)) (ex_move (S.get 26 _ rfl) _) ?_
    replace S := S.put (by decide : 27 < 36) (.bool true)
    refine env_gen (C := fun a => wpList Try.prog _ _ _ a _) S ?_
    clear S; intro a S
    refine wg_skip (wan_no (j := 10) (t := 27) (b := false) (c := true) rfl (S.get 27 _ rfl) (by decide)) ?_
    replace S := S.put (by decide : 28 < 36) undef
    refine env_gen (C := fun a => wpList Try.prog _ _ _ a _) S ?_
    clear S; intro a S
    refine wg_skip (wan_no (j := 10) (t := 27) (b := false) (c := true) rfl (S.get 27 _ rfl) (by decide)) ?_
    replace S := S.put (by decide : 29 < 36) undef
    refine env_gen (C := fun a => wpList Try.prog _ _ _ a _) S ?_
    clear S; intro a S
    refine wg_skip (wan_no (j := 10) (t := 27) (b := false) (c := true) rfl (S.get 27 _ rfl) (by decide)) ?_
    replace S := S.put (by decide : 30 < 36) undef
    refine env_gen (C := fun a => wpList Try.prog _ _ _ a _) S ?_
    clear S; intro a S
    refine wg_skip (wan_no (j := 10) (t := 27) (b := false) (c := true) rfl (S.get 27 _ rfl) (by decide)) ?_
    replace S := S.put (by decide : 31 < 36) undef
    refine env_gen (C := fun a => wpList Try.prog _ _ _ a _) S ?_
    clear S; intro a S
    refine wg_skip (wan_no (j := 10) (t := 27) (b := false) (c := true) rfl (S.get 27 _ rfl) (by decide)) ?_
    replace S := S.put (by decide : 32 < 36) undef
    refine env_gen (C := fun a => wpList Try.prog _ _ _ a _) S ?_
    clear S; intro a S
    refine wg_skip (wan_no (j := 10) (t := 27) (b := false) (c := true) rfl (S.get 27 _ rfl) (by decide)) ?_
    replace S := S.put (by decide : 33 < 36) undef
    refine env_gen (C := fun a => wpList Try.prog _ _ _ a _) S ?_
    clear S; intro a S
    refine wg_skip (wan_no (j := 10) (t := 27) (b := false) (c := true) rfl (S.get 27 _ rfl) (by decide)) ?_
    replace S := S.put (by decide : 34 < 36) undef
    refine wpl_val (v := (.bool true)) (ex_pickT (v := (.bool true)) (S.get 27 _ rfl) rfl _) ?_
    replace S := S.put (by decide : 35 < 36) (.bool true)
    refine wpl_nil ?_
    refine wp_cond_true (S.get 35 _ rfl) ?_
    refine wp_seq (wp_region_list ?_)
    refine wpl_val (v := (.bool false)) (ex_assign (v := (.bool false)) rfl _) ?_
    replace S := S.put (by decide : 2 < 36) (.bool false)
    refine wpl_nil ?_
    refine wp_ret ?_
    have hgF : ahF R nD i = false := by rw [hg]; simp [*]
    exact ret_at (P := Try.prog) (fn := Try.f10) (R := fun e w' => e = .returned (.bool (allN (ahF R nD) R.length)) ∧ Below w.heap.size w w') S rfl rfl ⟨by rw [allN_bad hgF hlt], M⟩

end Go.Proofs.Ytjiplphfpkhmpaa
