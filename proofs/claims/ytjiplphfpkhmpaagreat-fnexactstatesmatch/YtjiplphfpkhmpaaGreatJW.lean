/-
  The specification looks whether two states are the same.
-/
import Derived.Test.YtjiplphfpkhmpaaGreatJV
namespace Go.Proofs.YtjiplphfpkhmpaaGreat
open Go.RowKit

set_option maxRecDepth 20000 in
set_option maxHeartbeats 8000000 in
theorem sSame_c {oP oB oL oS oP' oB' oL' oS' : Option Addr} {cP cB cL cS cP' cB' cL' cS' : Nat} {us vs : List Value} {s t : StA} {w : World} (hs : StaC w s us oP oB oL oS cP cB cL cS) (ht : StaC w t vs oP' oB' oL' oS' cP' cB' cL' cS') :
    Calls Tryz.prog 15 #[.agg us.toArray, .agg vs.toArray] w fun e w' => e = .returned (.bool (sameSt s t)) ∧ Below w.heap.size w w' := by
  obtain rfl := hs.e
  obtain rfl := ht.e
  refine calls_of_wp Tryz.func15 rfl ?_
  have hpan := pan_body (P := Tryz.prog) (fn := Tryz.f15) (R := fun e w' => e = .returned (.bool (sameSt s t)) ∧ Below w.heap.size w w')
  refine env2 (N := 167) rfl (by decide) ?_
  intro a S
  have M : Below w.heap.size w w := Below.refl _ _
  refine wp_seq (wp_region_list ?_)
  refine wpl_box (us := [.slice oP (sPools s).length cP, .slice oB (sBlocks s).length cB, .slice oL (sLeases s).length cL, .int .i64 (sTok s), .int .i64 (sNow s), .slice oS (sSess s).length cS, .int .i64 (sNext s), .int .i64 (sCount s)]) (by rw [S.get 0 _ rfl]; rfl) ?_
  intro X1 B2 l3 _
  have M := M.trans (l3.mono M.size)
  replace S := S.put (by decide : 2 < 167) (.pointer (some ⟨w.heap.size, 0, none⟩))
  refine wpl_box (us := [.slice oP' (sPools t).length cP', .slice oB' (sBlocks t).length cB', .slice oL' (sLeases t).length cL', .int .i64 (sTok t), .int .i64 (sNow t), .slice oS' (sSess t).length cS', .int .i64 (sNext t), .int .i64 (sCount t)]) (by rw [S.get 1 _ rfl]; rfl) ?_
  intro X4 B5 l6 _
  have M := M.trans (l6.mono M.size)
  have B2 := B2.later l6
  replace S := S.put (by decide : 3 < 167) (.pointer (some ⟨X1.heap.size, 0, none⟩))
  refine wpl_val (v := (.bool false)) (ex_assign (v := (.bool false)) rfl _) ?_
  replace S := S.put (by decide : 4 < 167) (.bool false)
  refine wpl_nil ?_
  replace S := ((S.nil).add (S.get 2 _ rfl)).add (S.get 3 _ rfl)
  refine env_gen (C := fun a => Code.wp Tryz.prog _ _ a _) S ?_
  clear S; intro a S
  by_cases l0 : (sPools s).length = (sPools t).length
  case neg =>
    have d0 : (((sPools s).length : Int) != (((sPools t).length : Int))) = true := bne_iff_ne.2 (by omega)
    refine wp_seq (wp_seq (wp_region_list ?_))
    refine wpl_val (v := (.pointer (some ⟨w.heap.size, 0 + 0, none⟩))) (ex_field (S.get 2 _ rfl) (by kernel_rfl) _) ?_
    replace S := S.put (by decide : 9 < 167) (.pointer (some ⟨w.heap.size, 0 + 0, none⟩))
    refine env_gen (C := fun a => wpList Tryz.prog _ _ _ a _) S ?_
    clear S; intro a S
    refine wpl_val (v := (.pointer (some ⟨w.heap.size, 0 + 0 + 0, none⟩))) (ex_field (S.get 9 _ rfl) (by kernel_rfl) _) ?_
    replace S := S.put (by decide : 10 < 167) (.pointer (some ⟨w.heap.size, 0 + 0 + 0, none⟩))
    refine wpl_val (v := (.slice oP (sPools s).length cP)) (ex_load (S.get 10 _ rfl) ⟨by kernel_rfl, by kernel_rfl⟩ _ (box_at B2 rfl)) ?_
    replace S := S.put (by decide : 11 < 167) (.slice oP (sPools s).length cP)
    refine wpl_val (v := (.int .i64 (sPools s).length)) (ex_len (by kernel_rfl) (S.get 11 _ rfl) _) ?_
    replace S := S.put (by decide : 12 < 167) (.int .i64 (sPools s).length)
    refine env_gen (C := fun a => wpList Tryz.prog _ _ _ a _) S ?_
    clear S; intro a S
    refine wpl_val (v := (.pointer (some ⟨X1.heap.size, 0 + 0, none⟩))) (ex_field (S.get 3 _ rfl) (by kernel_rfl) _) ?_
    replace S := S.put (by decide : 13 < 167) (.pointer (some ⟨X1.heap.size, 0 + 0, none⟩))
    refine wpl_val (v := (.pointer (some ⟨X1.heap.size, 0 + 0 + 0, none⟩))) (ex_field (S.get 13 _ rfl) (by kernel_rfl) _) ?_
    replace S := S.put (by decide : 14 < 167) (.pointer (some ⟨X1.heap.size, 0 + 0 + 0, none⟩))
    refine wpl_val (v := (.slice oP' (sPools t).length cP')) (ex_load (S.get 14 _ rfl) ⟨by kernel_rfl, by kernel_rfl⟩ _ (box_at B5 rfl)) ?_
    replace S := S.put (by decide : 15 < 167) (.slice oP' (sPools t).length cP')
    refine env_gen (C := fun a => wpList Tryz.prog _ _ _ a _) S ?_
    clear S; intro a S
    refine wpl_val (v := (.int .i64 (sPools t).length)) (ex_len (by kernel_rfl) (S.get 15 _ rfl) _) ?_
    replace S := S.put (by decide : 16 < 167) (.int .i64 (sPools t).length)
    refine wpl_val (v := (.bool true)) (ex_bin (u := (.int .i64 (sPools s).length)) (v := (.int .i64 (sPools t).length)) (S.get 12 _ rfl) (S.get 16 _ rfl) _ ((run_eqb _).trans (by rw [d0]))) ?_
    replace S := S.put (by decide : 17 < 167) (.bool true)
    refine wpl_val (v := (.bool true)) (ex_move (S.get 17 _ rfl) _) ?_
    replace S := S.put (by decide : 18 < 167) (.bool true)
    refine env_gen (C := fun a => wpList Tryz.prog _ _ _ a _) S ?_
    clear S; intro a S
    refine wg_skip (wan_no (j := 9) (t := 18) (b := false) (c := true) rfl (S.get 18 _ rfl) (by decide)) ?_
    replace S := S.put (by decide : 19 < 167) undef
    refine env_gen (C := fun a => wpList Tryz.prog _ _ _ a _) S ?_
    clear S; intro a S
    refine wg_skip (wan_no (j := 9) (t := 18) (b := false) (c := true) rfl (S.get 18 _ rfl) (by decide)) ?_
    replace S := S.put (by decide : 20 < 167) undef
    refine env_gen (C := fun a => wpList Tryz.prog _ _ _ a _) S ?_
    clear S; intro a S
    refine wg_skip (wan_no (j := 9) (t := 18) (b := false) (c := true) rfl (S.get 18 _ rfl) (by decide)) ?_
    replace S := S.put (by decide : 21 < 167) undef
    refine env_gen (C := fun a => wpList Tryz.prog _ _ _ a _) S ?_
    clear S; intro a S
    refine wg_skip (wan_no (j := 9) (t := 18) (b := false) (c := true) rfl (S.get 18 _ rfl) (by decide)) ?_
    replace S := S.put (by decide : 22 < 167) undef
    refine env_gen (C := fun a => wpList Tryz.prog _ _ _ a _) S ?_
    clear S; intro a S
    refine wg_skip (wan_no (j := 9) (t := 18) (b := false) (c := true) rfl (S.get 18 _ rfl) (by decide)) ?_
    replace S := S.put (by decide : 23 < 167) undef
    refine env_gen (C := fun a => wpList Tryz.prog _ _ _ a _) S ?_
    clear S; intro a S
    refine wg_skip (wan_no (j := 9) (t := 18) (b := false) (c := true) rfl (S.get 18 _ rfl) (by decide)) ?_
    replace S := S.put (by decide : 24 < 167) undef
    refine env_gen (C := fun a => wpList Tryz.prog _ _ _ a _) S ?_
    clear S; intro a S
    refine wg_skip (wan_no (j := 9) (t := 18) (b := false) (c := true) rfl (S.get 18 _ rfl) (by decide)) ?_
    replace S := S.put (by decide : 25 < 167) undef
    refine env_gen (C := fun a => wpList Tryz.prog _ _ _ a _) S ?_
    clear S; intro a S
    refine wg_skip (wan_no (j := 9) (t := 18) (b := false) (c := true) rfl (S.get 18 _ rfl) (by decide)) ?_
    replace S := S.put (by decide : 26 < 167) undef
    refine env_gen (C := fun a => wpList Tryz.prog _ _ _ a _) S ?_
    clear S; intro a S
    refine wg_skip (wan_no (j := 9) (t := 18) (b := false) (c := true) rfl (S.get 18 _ rfl) (by decide)) ?_
    replace S := S.put (by decide : 27 < 167) undef
    refine env_gen (C := fun a => wpList Tryz.prog _ _ _ a _) S ?_
    clear S; intro a S
    refine wpl_val (v := (.bool true)) (ex_pickT (v := (.bool true)) (S.get 18 _ rfl) rfl _) ?_
    replace S := S.put (by decide : 28 < 167) (.bool true)
    refine wpl_val (v := (.bool true)) (ex_move (S.get 28 _ rfl) _) ?_
    replace S := S.put (by decide : 29 < 167) (.bool true)
    refine env_gen (C := fun a => wpList Tryz.prog _ _ _ a _) S ?_
    clear S; intro a S
    refine wg_skip (wan_no (j := 20) (t := 29) (b := false) (c := true) rfl (S.get 29 _ rfl) (by decide)) ?_
    replace S := S.put (by decide : 30 < 167) undef
    refine env_gen (C := fun a => wpList Tryz.prog _ _ _ a _) S ?_
    clear S; intro a S
    refine wg_skip (wan_no (j := 20) (t := 29) (b := false) (c := true) rfl (S.get 29 _ rfl) (by decide)) ?_
    replace S := S.put (by decide : 31 < 167) undef
    refine env_gen (C := fun a => wpList Tryz.prog _ _ _ a _) S ?_
    clear S; intro a S
    refine wg_skip (wan_no (j := 20) (t := 29) (b := false) (c := true) rfl (S.get 29 _ rfl) (by decide)) ?_
    replace S := S.put (by decide : 32 < 167) undef
    refine env_gen (C := fun a => wpList Tryz.prog _ _ _ a _) S ?_
    clear S; intro a S
    refine wg_skip (wan_no (j := 20) (t := 29) (b := false) (c := true) rfl (S.get 29 _ rfl) (by decide)) ?_
    replace S := S.put (by decide : 33 < 167) undef
    refine env_gen (C := fun a => wpList Tryz.prog _ _ _ a _) S ?_
    clear S; intro a S
    refine wg_skip (wan_no (j := 20) (t := 29) (b := false) (c := true) rfl (S.get 29 _ rfl) (by decide)) ?_
    replace S := S.put (by decide : 34 < 167) undef
    refine env_gen (C := fun a => wpList Tryz.prog _ _ _ a _) S ?_
    clear S; intro a S
    refine wg_skip (wan_no (j := 20) (t := 29) (b := false) (c := true) rfl (S.get 29 _ rfl) (by decide)) ?_
    replace S := S.put (by decide : 35 < 167) undef
    refine env_gen (C := fun a => wpList Tryz.prog _ _ _ a _) S ?_
    clear S; intro a S
    refine wg_skip (wan_no (j := 20) (t := 29) (b := false) (c := true) rfl (S.get 29 _ rfl) (by decide)) ?_
    replace S := S.put (by decide : 36 < 167) undef
    refine env_gen (C := fun a => wpList Tryz.prog _ _ _ a _) S ?_
    clear S; intro a S
    refine wg_skip (wan_no (j := 20) (t := 29) (b := false) (c := true) rfl (S.get 29 _ rfl) (by decide)) ?_
    replace S := S.put (by decide : 37 < 167) undef
    refine env_gen (C := fun a => wpList Tryz.prog _ _ _ a _) S ?_
    clear S; intro a S
    refine wg_skip (wan_no (j := 20) (t := 29) (b := false) (c := true) rfl (S.get 29 _ rfl) (by decide)) ?_
    replace S := S.put (by decide : 38 < 167) undef
    refine wpl_val (v := (.bool true)) (ex_pickT (v := (.bool true)) (S.get 29 _ rfl) rfl _) ?_
    replace S := S.put (by decide : 39 < 167) (.bool true)
    refine env_gen (C := fun a => wpList Tryz.prog _ _ _ a _) S ?_
    clear S; intro a S
    refine wpl_val (v := (.bool true)) (ex_move (S.get 39 _ rfl) _) ?_
    replace S := S.put (by decide : 40 < 167) (.bool true)
    refine env_gen (C := fun a => wpList Tryz.prog _ _ _ a _) S ?_
    clear S; intro a S
    refine wg_skip (wan_no (j := 31) (t := 40) (b := false) (c := true) rfl (S.get 40 _ rfl) (by decide)) ?_
    replace S := S.put (by decide : 41 < 167) undef
    refine env_gen (C := fun a => wpList Tryz.prog _ _ _ a _) S ?_
    clear S; intro a S
    refine wg_skip (wan_no (j := 31) (t := 40) (b := false) (c := true) rfl (S.get 40 _ rfl) (by decide)) ?_
    replace S := S.put (by decide : 42 < 167) undef
    refine env_gen (C := fun a => wpList Tryz.prog _ _ _ a _) S ?_
    clear S; intro a S
    refine wg_skip (wan_no (j := 31) (t := 40) (b := false) (c := true) rfl (S.get 40 _ rfl) (by decide)) ?_
    replace S := S.put (by decide : 43 < 167) undef
    refine env_gen (C := fun a => wpList Tryz.prog _ _ _ a _) S ?_
    clear S; intro a S
    refine wg_skip (wan_no (j := 31) (t := 40) (b := false) (c := true) rfl (S.get 40 _ rfl) (by decide)) ?_
    replace S := S.put (by decide : 44 < 167) undef
    refine env_gen (C := fun a => wpList Tryz.prog _ _ _ a _) S ?_
    clear S; intro a S
    refine wg_skip (wan_no (j := 31) (t := 40) (b := false) (c := true) rfl (S.get 40 _ rfl) (by decide)) ?_
    replace S := S.put (by decide : 45 < 167) undef
    refine env_gen (C := fun a => wpList Tryz.prog _ _ _ a _) S ?_
    clear S; intro a S
    refine wg_skip (wan_no (j := 31) (t := 40) (b := false) (c := true) rfl (S.get 40 _ rfl) (by decide)) ?_
    replace S := S.put (by decide : 46 < 167) undef
    refine env_gen (C := fun a => wpList Tryz.prog _ _ _ a _) S ?_
    clear S; intro a S
    refine wg_skip (wan_no (j := 31) (t := 40) (b := false) (c := true) rfl (S.get 40 _ rfl) (by decide)) ?_
    replace S := S.put (by decide : 47 < 167) undef
    refine env_gen (C := fun a => wpList Tryz.prog _ _ _ a _) S ?_
    clear S; intro a S
    refine wg_skip (wan_no (j := 31) (t := 40) (b := false) (c := true) rfl (S.get 40 _ rfl) (by decide)) ?_
    replace S := S.put (by decide : 48 < 167) undef
    refine env_gen (C := fun a => wpList Tryz.prog _ _ _ a _) S ?_
    clear S; intro a S
    refine wg_skip (wan_no (j := 31) (t := 40) (b := false) (c := true) rfl (S.get 40 _ rfl) (by decide)) ?_
    replace S := S.put (by decide : 49 < 167) undef
    refine wpl_val (v := (.bool true)) (ex_pickT (v := (.bool true)) (S.get 40 _ rfl) rfl _) ?_
    replace S := S.put (by decide : 50 < 167) (.bool true)
    refine wpl_nil ?_
    refine wp_cond_true (S.get 50 _ rfl) ?_
    refine wp_seq (wp_region_list ?_)
    refine wpl_val (v := (.bool false)) (ex_assign (v := (.bool false)) rfl _) ?_
    replace S := S.put (by decide : 4 < 167) (.bool false)
    refine wpl_nil ?_
    refine wp_ret ?_
    exact ret_at (P := Tryz.prog) (fn := Tryz.f15) (R := fun e w' => e = .returned (.bool (sameSt s t)) ∧ Below w.heap.size w w') S rfl rfl ⟨by unfold sameSt planE; rw [eqR_len l0]; simp, M⟩
  have d0 : (((sPools s).length : Int) != (((sPools t).length : Int))) = false := by rw [l0]; simp
  by_cases l1 : (sBlocks s).length = (sBlocks t).length
  case neg =>
    have d1 : (((sBlocks s).length : Int) != (((sBlocks t).length : Int))) = true := bne_iff_ne.2 (by omega)
    refine wp_seq (wp_seq (wp_region_list ?_))
    refine wpl_val (v := (.pointer (some ⟨w.heap.size, 0 + 0, none⟩))) (ex_field (S.get 2 _ rfl) (by kernel_rfl) _) ?_
    replace S := S.put (by decide : 9 < 167) (.pointer (some ⟨w.heap.size, 0 + 0, none⟩))
    refine wpl_val (v := (.pointer (some ⟨w.heap.size, 0 + 0 + 0, none⟩))) (ex_field (S.get 9 _ rfl) (by kernel_rfl) _) ?_
    replace S := S.put (by decide : 10 < 167) (.pointer (some ⟨w.heap.size, 0 + 0 + 0, none⟩))
    refine wpl_val (v := (.slice oP (sPools s).length cP)) (ex_load (S.get 10 _ rfl) ⟨by kernel_rfl, by kernel_rfl⟩ _ (box_at B2 rfl)) ?_
    replace S := S.put (by decide : 11 < 167) (.slice oP (sPools s).length cP)
    refine env_gen (C := fun a => wpList Tryz.prog _ _ _ a _) S ?_
    clear S; intro a S
    refine wpl_val (v := (.int .i64 (sPools s).length)) (ex_len (by kernel_rfl) (S.get 11 _ rfl) _) ?_
    replace S := S.put (by decide : 12 < 167) (.int .i64 (sPools s).length)
    refine wpl_val (v := (.pointer (some ⟨X1.heap.size, 0 + 0, none⟩))) (ex_field (S.get 3 _ rfl) (by kernel_rfl) _) ?_
    replace S := S.put (by decide : 13 < 167) (.pointer (some ⟨X1.heap.size, 0 + 0, none⟩))
    refine wpl_val (v := (.pointer (some ⟨X1.heap.size, 0 + 0 + 0, none⟩))) (ex_field (S.get 13 _ rfl) (by kernel_rfl) _) ?_
    replace S := S.put (by decide : 14 < 167) (.pointer (some ⟨X1.heap.size, 0 + 0 + 0, none⟩))
    refine env_gen (C := fun a => wpList Tryz.prog _ _ _ a _) S ?_
    clear S; intro a S
    refine wpl_val (v := (.slice oP' (sPools t).length cP')) (ex_load (S.get 14 _ rfl) ⟨by kernel_rfl, by kernel_rfl⟩ _ (box_at B5 rfl)) ?_
    replace S := S.put (by decide : 15 < 167) (.slice oP' (sPools t).length cP')
    refine wpl_val (v := (.int .i64 (sPools t).length)) (ex_len (by kernel_rfl) (S.get 15 _ rfl) _) ?_
    replace S := S.put (by decide : 16 < 167) (.int .i64 (sPools t).length)
    refine wpl_val (v := (.bool false)) (ex_bin (u := (.int .i64 (sPools s).length)) (v := (.int .i64 (sPools t).length)) (S.get 12 _ rfl) (S.get 16 _ rfl) _ ((run_eqb _).trans (by rw [d0]))) ?_
    replace S := S.put (by decide : 17 < 167) (.bool false)
    refine env_gen (C := fun a => wpList Tryz.prog _ _ _ a _) S ?_
    clear S; intro a S
    refine wpl_val (v := (.bool false)) (ex_move (S.get 17 _ rfl) _) ?_
    replace S := S.put (by decide : 18 < 167) (.bool false)
    refine env_gen (C := fun a => wpList Tryz.prog _ _ _ a _) S ?_
    clear S; intro a S
    refine wg_val (v := (.pointer (some ⟨w.heap.size, 0 + 0, none⟩))) (wan_yes (j := 9) (t := 18) (b := false) rfl (S.get 18 _ rfl) (by rw [S.sz]; decide)) (ex_field (S.get 2 _ rfl) (by kernel_rfl) _) ?_
    replace S := S.put (by decide : 19 < 167) (.pointer (some ⟨w.heap.size, 0 + 0, none⟩))
    refine env_gen (C := fun a => wpList Tryz.prog _ _ _ a _) S ?_
    clear S; intro a S
    refine wg_val (v := (.pointer (some ⟨w.heap.size, 0 + 0 + 1, none⟩))) (wan_yes (j := 9) (t := 18) (b := false) rfl (S.get 18 _ rfl) (by rw [S.sz]; decide)) (ex_field (S.get 19 _ rfl) (by kernel_rfl) _) ?_
    replace S := S.put (by decide : 20 < 167) (.pointer (some ⟨w.heap.size, 0 + 0 + 1, none⟩))
    refine env_gen (C := fun a => wpList Tryz.prog _ _ _ a _) S ?_
    clear S; intro a S
    refine wg_val (v := (.slice oB (sBlocks s).length cB)) (wan_yes (j := 9) (t := 18) (b := false) rfl (S.get 18 _ rfl) (by rw [S.sz]; decide)) (ex_load (S.get 20 _ rfl) ⟨by kernel_rfl, by kernel_rfl⟩ _ (box_at B2 rfl)) ?_
    replace S := S.put (by decide : 21 < 167) (.slice oB (sBlocks s).length cB)
    refine env_gen (C := fun a => wpList Tryz.prog _ _ _ a _) S ?_
    clear S; intro a S
    refine wg_val (v := (.int .i64 (sBlocks s).length)) (wan_yes (j := 9) (t := 18) (b := false) rfl (S.get 18 _ rfl) (by rw [S.sz]; decide)) (ex_len (by kernel_rfl) (S.get 21 _ rfl) _) ?_
    replace S := S.put (by decide : 22 < 167) (.int .i64 (sBlocks s).length)
    refine env_gen (C := fun a => wpList Tryz.prog _ _ _ a _) S ?_
    clear S; intro a S
    refine wg_val (v := (.pointer (some ⟨X1.heap.size, 0 + 0, none⟩))) (wan_yes (j := 9) (t := 18) (b := false) rfl (S.get 18 _ rfl) (by rw [S.sz]; decide)) (ex_field (S.get 3 _ rfl) (by kernel_rfl) _) ?_
    replace S := S.put (by decide : 23 < 167) (.pointer (some ⟨X1.heap.size, 0 + 0, none⟩))
    refine env_gen (C := fun a => wpList Tryz.prog _ _ _ a _) S ?_
    clear S; intro a S
    refine wg_val (v := (.pointer (some ⟨X1.heap.size, 0 + 0 + 1, none⟩))) (wan_yes (j := 9) (t := 18) (b := false) rfl (S.get 18 _ rfl) (by rw [S.sz]; decide)) (ex_field (S.get 23 _ rfl) (by kernel_rfl) _) ?_
    replace S := S.put (by decide : 24 < 167) (.pointer (some ⟨X1.heap.size, 0 + 0 + 1, none⟩))
    refine env_gen (C := fun a => wpList Tryz.prog _ _ _ a _) S ?_
    clear S; intro a S
    refine wg_val (v := (.slice oB' (sBlocks t).length cB')) (wan_yes (j := 9) (t := 18) (b := false) rfl (S.get 18 _ rfl) (by rw [S.sz]; decide)) (ex_load (S.get 24 _ rfl) ⟨by kernel_rfl, by kernel_rfl⟩ _ (box_at B5 rfl)) ?_
    replace S := S.put (by decide : 25 < 167) (.slice oB' (sBlocks t).length cB')
    refine env_gen (C := fun a => wpList Tryz.prog _ _ _ a _) S ?_
    clear S; intro a S
    refine wg_val (v := (.int .i64 (sBlocks t).length)) (wan_yes (j := 9) (t := 18) (b := false) rfl (S.get 18 _ rfl) (by rw [S.sz]; decide)) (ex_len (by kernel_rfl) (S.get 25 _ rfl) _) ?_
    replace S := S.put (by decide : 26 < 167) (.int .i64 (sBlocks t).length)
    refine env_gen (C := fun a => wpList Tryz.prog _ _ _ a _) S ?_
    clear S; intro a S
    refine wg_val (v := (.bool true)) (wan_yes (j := 9) (t := 18) (b := false) rfl (S.get 18 _ rfl) (by rw [S.sz]; decide)) (ex_bin (u := (.int .i64 (sBlocks s).length)) (v := (.int .i64 (sBlocks t).length)) (S.get 22 _ rfl) (S.get 26 _ rfl) _ ((run_eqb _).trans (by rw [d1]))) ?_
    replace S := S.put (by decide : 27 < 167) (.bool true)
    refine wpl_val (v := (.bool true)) (ex_pickF (v := (.bool true)) (S.get 18 _ rfl) (S.get 27 _ rfl) _) ?_
    replace S := S.put (by decide : 28 < 167) (.bool true)
    refine wpl_val (v := (.bool true)) (ex_move (S.get 28 _ rfl) _) ?_
    replace S := S.put (by decide : 29 < 167) (.bool true)
    refine env_gen (C := fun a => wpList Tryz.prog _ _ _ a _) S ?_
    clear S; intro a S
    refine wg_skip (wan_no (j := 20) (t := 29) (b := false) (c := true) rfl (S.get 29 _ rfl) (by decide)) ?_
    replace S := S.put (by decide : 30 < 167) undef
    refine env_gen (C := fun a => wpList Tryz.prog _ _ _ a _) S ?_
    clear S; intro a S
    refine wg_skip (wan_no (j := 20) (t := 29) (b := false) (c := true) rfl (S.get 29 _ rfl) (by decide)) ?_
    replace S := S.put (by decide : 31 < 167) undef
    refine env_gen (C := fun a => wpList Tryz.prog _ _ _ a _) S ?_
    clear S; intro a S
    refine wg_skip (wan_no (j := 20) (t := 29) (b := false) (c := true) rfl (S.get 29 _ rfl) (by decide)) ?_
    replace S := S.put (by decide : 32 < 167) undef
    refine env_gen (C := fun a => wpList Tryz.prog _ _ _ a _) S ?_
    clear S; intro a S
    refine wg_skip (wan_no (j := 20) (t := 29) (b := false) (c := true) rfl (S.get 29 _ rfl) (by decide)) ?_
    replace S := S.put (by decide : 33 < 167) undef
    refine env_gen (C := fun a => wpList Tryz.prog _ _ _ a _) S ?_
    clear S; intro a S
    refine wg_skip (wan_no (j := 20) (t := 29) (b := false) (c := true) rfl (S.get 29 _ rfl) (by decide)) ?_
    replace S := S.put (by decide : 34 < 167) undef
    refine env_gen (C := fun a => wpList Tryz.prog _ _ _ a _) S ?_
    clear S; intro a S
    refine wg_skip (wan_no (j := 20) (t := 29) (b := false) (c := true) rfl (S.get 29 _ rfl) (by decide)) ?_
    replace S := S.put (by decide : 35 < 167) undef
    refine env_gen (C := fun a => wpList Tryz.prog _ _ _ a _) S ?_
    clear S; intro a S
    refine wg_skip (wan_no (j := 20) (t := 29) (b := false) (c := true) rfl (S.get 29 _ rfl) (by decide)) ?_
    replace S := S.put (by decide : 36 < 167) undef
    refine env_gen (C := fun a => wpList Tryz.prog _ _ _ a _) S ?_
    clear S; intro a S
    refine wg_skip (wan_no (j := 20) (t := 29) (b := false) (c := true) rfl (S.get 29 _ rfl) (by decide)) ?_
    replace S := S.put (by decide : 37 < 167) undef
    refine env_gen (C := fun a => wpList Tryz.prog _ _ _ a _) S ?_
    clear S; intro a S
    refine wg_skip (wan_no (j := 20) (t := 29) (b := false) (c := true) rfl (S.get 29 _ rfl) (by decide)) ?_
    replace S := S.put (by decide : 38 < 167) undef
    refine env_gen (C := fun a => wpList Tryz.prog _ _ _ a _) S ?_
    clear S; intro a S
    refine wpl_val (v := (.bool true)) (ex_pickT (v := (.bool true)) (S.get 29 _ rfl) rfl _) ?_
    replace S := S.put (by decide : 39 < 167) (.bool true)
    refine wpl_val (v := (.bool true)) (ex_move (S.get 39 _ rfl) _) ?_
    replace S := S.put (by decide : 40 < 167) (.bool true)
    refine env_gen (C := fun a => wpList Tryz.prog _ _ _ a _) S ?_
    clear S; intro a S
    refine wg_skip (wan_no (j := 31) (t := 40) (b := false) (c := true) rfl (S.get 40 _ rfl) (by decide)) ?_
    replace S := S.put (by decide : 41 < 167) undef
    refine env_gen (C := fun a => wpList Tryz.prog _ _ _ a _) S ?_
    clear S; intro a S
    refine wg_skip (wan_no (j := 31) (t := 40) (b := false) (c := true) rfl (S.get 40 _ rfl) (by decide)) ?_
    replace S := S.put (by decide : 42 < 167) undef
    refine env_gen (C := fun a => wpList Tryz.prog _ _ _ a _) S ?_
    clear S; intro a S
    refine wg_skip (wan_no (j := 31) (t := 40) (b := false) (c := true) rfl (S.get 40 _ rfl) (by decide)) ?_
    replace S := S.put (by decide : 43 < 167) undef
    refine env_gen (C := fun a => wpList Tryz.prog _ _ _ a _) S ?_
    clear S; intro a S
    refine wg_skip (wan_no (j := 31) (t := 40) (b := false) (c := true) rfl (S.get 40 _ rfl) (by decide)) ?_
    replace S := S.put (by decide : 44 < 167) undef
    refine env_gen (C := fun a => wpList Tryz.prog _ _ _ a _) S ?_
    clear S; intro a S
    refine wg_skip (wan_no (j := 31) (t := 40) (b := false) (c := true) rfl (S.get 40 _ rfl) (by decide)) ?_
    replace S := S.put (by decide : 45 < 167) undef
    refine env_gen (C := fun a => wpList Tryz.prog _ _ _ a _) S ?_
    clear S; intro a S
    refine wg_skip (wan_no (j := 31) (t := 40) (b := false) (c := true) rfl (S.get 40 _ rfl) (by decide)) ?_
    replace S := S.put (by decide : 46 < 167) undef
    refine env_gen (C := fun a => wpList Tryz.prog _ _ _ a _) S ?_
    clear S; intro a S
    refine wg_skip (wan_no (j := 31) (t := 40) (b := false) (c := true) rfl (S.get 40 _ rfl) (by decide)) ?_
    replace S := S.put (by decide : 47 < 167) undef
    refine env_gen (C := fun a => wpList Tryz.prog _ _ _ a _) S ?_
    clear S; intro a S
    refine wg_skip (wan_no (j := 31) (t := 40) (b := false) (c := true) rfl (S.get 40 _ rfl) (by decide)) ?_
    replace S := S.put (by decide : 48 < 167) undef
    refine env_gen (C := fun a => wpList Tryz.prog _ _ _ a _) S ?_
    clear S; intro a S
    refine wg_skip (wan_no (j := 31) (t := 40) (b := false) (c := true) rfl (S.get 40 _ rfl) (by decide)) ?_
    replace S := S.put (by decide : 49 < 167) undef
    refine wpl_val (v := (.bool true)) (ex_pickT (v := (.bool true)) (S.get 40 _ rfl) rfl _) ?_
    replace S := S.put (by decide : 50 < 167) (.bool true)
    refine wpl_nil ?_
    refine wp_cond_true (S.get 50 _ rfl) ?_
    refine wp_seq (wp_region_list ?_)
    refine wpl_val (v := (.bool false)) (ex_assign (v := (.bool false)) rfl _) ?_
    replace S := S.put (by decide : 4 < 167) (.bool false)
    refine wpl_nil ?_
    refine wp_ret ?_
    exact ret_at (P := Tryz.prog) (fn := Tryz.f15) (R := fun e w' => e = .returned (.bool (sameSt s t)) ∧ Below w.heap.size w w') S rfl rfl ⟨by unfold sameSt planE; rw [eqR_len l1]; simp, M⟩
  have d1 : (((sBlocks s).length : Int) != (((sBlocks t).length : Int))) = false := by rw [l1]; simp
  by_cases l2 : (sLeases s).length = (sLeases t).length
  case neg =>
    have d2 : (((sLeases s).length : Int) != (((sLeases t).length : Int))) = true := bne_iff_ne.2 (by omega)
    refine wp_seq (wp_seq (wp_region_list ?_))
    refine wpl_val (v := (.pointer (some ⟨w.heap.size, 0 + 0, none⟩))) (ex_field (S.get 2 _ rfl) (by kernel_rfl) _) ?_
    replace S := S.put (by decide : 9 < 167) (.pointer (some ⟨w.heap.size, 0 + 0, none⟩))
    refine wpl_val (v := (.pointer (some ⟨w.heap.size, 0 + 0 + 0, none⟩))) (ex_field (S.get 9 _ rfl) (by kernel_rfl) _) ?_
    replace S := S.put (by decide : 10 < 167) (.pointer (some ⟨w.heap.size, 0 + 0 + 0, none⟩))
    refine env_gen (C := fun a => wpList Tryz.prog _ _ _ a _) S ?_
    clear S; intro a S
    refine wpl_val (v := (.slice oP (sPools s).length cP)) (ex_load (S.get 10 _ rfl) ⟨by kernel_rfl, by kernel_rfl⟩ _ (box_at B2 rfl)) ?_
    replace S := S.put (by decide : 11 < 167) (.slice oP (sPools s).length cP)
    refine wpl_val (v := (.int .i64 (sPools s).length)) (ex_len (by kernel_rfl) (S.get 11 _ rfl) _) ?_
    replace S := S.put (by decide : 12 < 167) (.int .i64 (sPools s).length)
    refine wpl_val (v := (.pointer (some ⟨X1.heap.size, 0 + 0, none⟩))) (ex_field (S.get 3 _ rfl) (by kernel_rfl) _) ?_
    replace S := S.put (by decide : 13 < 167) (.pointer (some ⟨X1.heap.size, 0 + 0, none⟩))
    refine env_gen (C := fun a => wpList Tryz.prog _ _ _ a _) S ?_
    clear S; intro a S
    refine wpl_val (v := (.pointer (some ⟨X1.heap.size, 0 + 0 + 0, none⟩))) (ex_field (S.get 13 _ rfl) (by kernel_rfl) _) ?_
    replace S := S.put (by decide : 14 < 167) (.pointer (some ⟨X1.heap.size, 0 + 0 + 0, none⟩))
    refine wpl_val (v := (.slice oP' (sPools t).length cP')) (ex_load (S.get 14 _ rfl) ⟨by kernel_rfl, by kernel_rfl⟩ _ (box_at B5 rfl)) ?_
    replace S := S.put (by decide : 15 < 167) (.slice oP' (sPools t).length cP')
    refine wpl_val (v := (.int .i64 (sPools t).length)) (ex_len (by kernel_rfl) (S.get 15 _ rfl) _) ?_
    replace S := S.put (by decide : 16 < 167) (.int .i64 (sPools t).length)
    refine env_gen (C := fun a => wpList Tryz.prog _ _ _ a _) S ?_
    clear S; intro a S
    refine wpl_val (v := (.bool false)) (ex_bin (u := (.int .i64 (sPools s).length)) (v := (.int .i64 (sPools t).length)) (S.get 12 _ rfl) (S.get 16 _ rfl) _ ((run_eqb _).trans (by rw [d0]))) ?_
    replace S := S.put (by decide : 17 < 167) (.bool false)
    refine wpl_val (v := (.bool false)) (ex_move (S.get 17 _ rfl) _) ?_
    replace S := S.put (by decide : 18 < 167) (.bool false)
    refine env_gen (C := fun a => wpList Tryz.prog _ _ _ a _) S ?_
    clear S; intro a S
    refine wg_val (v := (.pointer (some ⟨w.heap.size, 0 + 0, none⟩))) (wan_yes (j := 9) (t := 18) (b := false) rfl (S.get 18 _ rfl) (by rw [S.sz]; decide)) (ex_field (S.get 2 _ rfl) (by kernel_rfl) _) ?_
    replace S := S.put (by decide : 19 < 167) (.pointer (some ⟨w.heap.size, 0 + 0, none⟩))
    refine env_gen (C := fun a => wpList Tryz.prog _ _ _ a _) S ?_
    clear S; intro a S
    refine wg_val (v := (.pointer (some ⟨w.heap.size, 0 + 0 + 1, none⟩))) (wan_yes (j := 9) (t := 18) (b := false) rfl (S.get 18 _ rfl) (by rw [S.sz]; decide)) (ex_field (S.get 19 _ rfl) (by kernel_rfl) _) ?_
    replace S := S.put (by decide : 20 < 167) (.pointer (some ⟨w.heap.size, 0 + 0 + 1, none⟩))
    refine env_gen (C := fun a => wpList Tryz.prog _ _ _ a _) S ?_
    clear S; intro a S
    refine wg_val (v := (.slice oB (sBlocks s).length cB)) (wan_yes (j := 9) (t := 18) (b := false) rfl (S.get 18 _ rfl) (by rw [S.sz]; decide)) (ex_load (S.get 20 _ rfl) ⟨by kernel_rfl, by kernel_rfl⟩ _ (box_at B2 rfl)) ?_
    replace S := S.put (by decide : 21 < 167) (.slice oB (sBlocks s).length cB)
    refine env_gen (C := fun a => wpList Tryz.prog _ _ _ a _) S ?_
    clear S; intro a S
    refine wg_val (v := (.int .i64 (sBlocks s).length)) (wan_yes (j := 9) (t := 18) (b := false) rfl (S.get 18 _ rfl) (by rw [S.sz]; decide)) (ex_len (by kernel_rfl) (S.get 21 _ rfl) _) ?_
    replace S := S.put (by decide : 22 < 167) (.int .i64 (sBlocks s).length)
    refine env_gen (C := fun a => wpList Tryz.prog _ _ _ a _) S ?_
    clear S; intro a S
    refine wg_val (v := (.pointer (some ⟨X1.heap.size, 0 + 0, none⟩))) (wan_yes (j := 9) (t := 18) (b := false) rfl (S.get 18 _ rfl) (by rw [S.sz]; decide)) (ex_field (S.get 3 _ rfl) (by kernel_rfl) _) ?_
    replace S := S.put (by decide : 23 < 167) (.pointer (some ⟨X1.heap.size, 0 + 0, none⟩))
    refine env_gen (C := fun a => wpList Tryz.prog _ _ _ a _) S ?_
    clear S; intro a S
    refine wg_val (v := (.pointer (some ⟨X1.heap.size, 0 + 0 + 1, none⟩))) (wan_yes (j := 9) (t := 18) (b := false) rfl (S.get 18 _ rfl) (by rw [S.sz]; decide)) (ex_field (S.get 23 _ rfl) (by kernel_rfl) _) ?_
    replace S := S.put (by decide : 24 < 167) (.pointer (some ⟨X1.heap.size, 0 + 0 + 1, none⟩))
    refine env_gen (C := fun a => wpList Tryz.prog _ _ _ a _) S ?_
    clear S; intro a S
    refine wg_val (v := (.slice oB' (sBlocks t).length cB')) (wan_yes (j := 9) (t := 18) (b := false) rfl (S.get 18 _ rfl) (by rw [S.sz]; decide)) (ex_load (S.get 24 _ rfl) ⟨by kernel_rfl, by kernel_rfl⟩ _ (box_at B5 rfl)) ?_
    replace S := S.put (by decide : 25 < 167) (.slice oB' (sBlocks t).length cB')
    refine env_gen (C := fun a => wpList Tryz.prog _ _ _ a _) S ?_
    clear S; intro a S
    refine wg_val (v := (.int .i64 (sBlocks t).length)) (wan_yes (j := 9) (t := 18) (b := false) rfl (S.get 18 _ rfl) (by rw [S.sz]; decide)) (ex_len (by kernel_rfl) (S.get 25 _ rfl) _) ?_
    replace S := S.put (by decide : 26 < 167) (.int .i64 (sBlocks t).length)
    refine env_gen (C := fun a => wpList Tryz.prog _ _ _ a _) S ?_
    clear S; intro a S
    refine wg_val (v := (.bool false)) (wan_yes (j := 9) (t := 18) (b := false) rfl (S.get 18 _ rfl) (by rw [S.sz]; decide)) (ex_bin (u := (.int .i64 (sBlocks s).length)) (v := (.int .i64 (sBlocks t).length)) (S.get 22 _ rfl) (S.get 26 _ rfl) _ ((run_eqb _).trans (by rw [d1]))) ?_
    replace S := S.put (by decide : 27 < 167) (.bool false)
    refine wpl_val (v := (.bool false)) (ex_pickF (v := (.bool false)) (S.get 18 _ rfl) (S.get 27 _ rfl) _) ?_
    replace S := S.put (by decide : 28 < 167) (.bool false)
    refine env_gen (C := fun a => wpList Tryz.prog _ _ _ a _) S ?_
    clear S; intro a S
    refine wpl_val (v := (.bool false)) (ex_move (S.get 28 _ rfl) _) ?_
    replace S := S.put (by decide : 29 < 167) (.bool false)
    refine env_gen (C := fun a => wpList Tryz.prog _ _ _ a _) S ?_
    clear S; intro a S
    refine wg_val (v := (.pointer (some ⟨w.heap.size, 0 + 2, none⟩))) (wan_yes (j := 20) (t := 29) (b := false) rfl (S.get 29 _ rfl) (by rw [S.sz]; decide)) (ex_field (S.get 2 _ rfl) (by kernel_rfl) _) ?_
    replace S := S.put (by decide : 30 < 167) (.pointer (some ⟨w.heap.size, 0 + 2, none⟩))
    refine env_gen (C := fun a => wpList Tryz.prog _ _ _ a _) S ?_
    clear S; intro a S
    refine wg_val (v := (.pointer (some ⟨w.heap.size, 0 + 2 + 0, none⟩))) (wan_yes (j := 20) (t := 29) (b := false) rfl (S.get 29 _ rfl) (by rw [S.sz]; decide)) (ex_field (S.get 30 _ rfl) (by kernel_rfl) _) ?_
    replace S := S.put (by decide : 31 < 167) (.pointer (some ⟨w.heap.size, 0 + 2 + 0, none⟩))
    refine env_gen (C := fun a => wpList Tryz.prog _ _ _ a _) S ?_
    clear S; intro a S
    refine wg_val (v := (.slice oL (sLeases s).length cL)) (wan_yes (j := 20) (t := 29) (b := false) rfl (S.get 29 _ rfl) (by rw [S.sz]; decide)) (ex_load (S.get 31 _ rfl) ⟨by kernel_rfl, by kernel_rfl⟩ _ (box_at B2 rfl)) ?_
    replace S := S.put (by decide : 32 < 167) (.slice oL (sLeases s).length cL)
    refine env_gen (C := fun a => wpList Tryz.prog _ _ _ a _) S ?_
    clear S; intro a S
    refine wg_val (v := (.int .i64 (sLeases s).length)) (wan_yes (j := 20) (t := 29) (b := false) rfl (S.get 29 _ rfl) (by rw [S.sz]; decide)) (ex_len (by kernel_rfl) (S.get 32 _ rfl) _) ?_
    replace S := S.put (by decide : 33 < 167) (.int .i64 (sLeases s).length)
    refine env_gen (C := fun a => wpList Tryz.prog _ _ _ a _) S ?_
    clear S; intro a S
    refine wg_val (v := (.pointer (some ⟨X1.heap.size, 0 + 2, none⟩))) (wan_yes (j := 20) (t := 29) (b := false) rfl (S.get 29 _ rfl) (by rw [S.sz]; decide)) (ex_field (S.get 3 _ rfl) (by kernel_rfl) _) ?_
    replace S := S.put (by decide : 34 < 167) (.pointer (some ⟨X1.heap.size, 0 + 2, none⟩))
    refine env_gen (C := fun a => wpList Tryz.prog _ _ _ a _) S ?_
    clear S; intro a S
    refine wg_val (v := (.pointer (some ⟨X1.heap.size, 0 + 2 + 0, none⟩))) (wan_yes (j := 20) (t := 29) (b := false) rfl (S.get 29 _ rfl) (by rw [S.sz]; decide)) (ex_field (S.get 34 _ rfl) (by kernel_rfl) _) ?_
    replace S := S.put (by decide : 35 < 167) (.pointer (some ⟨X1.heap.size, 0 + 2 + 0, none⟩))
    refine env_gen (C := fun a => wpList Tryz.prog _ _ _ a _) S ?_
    clear S; intro a S
    refine wg_val (v := (.slice oL' (sLeases t).length cL')) (wan_yes (j := 20) (t := 29) (b := false) rfl (S.get 29 _ rfl) (by rw [S.sz]; decide)) (ex_load (S.get 35 _ rfl) ⟨by kernel_rfl, by kernel_rfl⟩ _ (box_at B5 rfl)) ?_
    replace S := S.put (by decide : 36 < 167) (.slice oL' (sLeases t).length cL')
    refine env_gen (C := fun a => wpList Tryz.prog _ _ _ a _) S ?_
    clear S; intro a S
    refine wg_val (v := (.int .i64 (sLeases t).length)) (wan_yes (j := 20) (t := 29) (b := false) rfl (S.get 29 _ rfl) (by rw [S.sz]; decide)) (ex_len (by kernel_rfl) (S.get 36 _ rfl) _) ?_
    replace S := S.put (by decide : 37 < 167) (.int .i64 (sLeases t).length)
    refine env_gen (C := fun a => wpList Tryz.prog _ _ _ a _) S ?_
    clear S; intro a S
    refine wg_val (v := (.bool true)) (wan_yes (j := 20) (t := 29) (b := false) rfl (S.get 29 _ rfl) (by rw [S.sz]; decide)) (ex_bin (u := (.int .i64 (sLeases s).length)) (v := (.int .i64 (sLeases t).length)) (S.get 33 _ rfl) (S.get 37 _ rfl) _ ((run_eqb _).trans (by rw [d2]))) ?_
    replace S := S.put (by decide : 38 < 167) (.bool true)
    refine wpl_val (v := (.bool true)) (ex_pickF (v := (.bool true)) (S.get 29 _ rfl) (S.get 38 _ rfl) _) ?_
    replace S := S.put (by decide : 39 < 167) (.bool true)
    refine wpl_val (v := (.bool true)) (ex_move (S.get 39 _ rfl) _) ?_
    replace S := S.put (by decide : 40 < 167) (.bool true)
    refine env_gen (C := fun a => wpList Tryz.prog _ _ _ a _) S ?_
    clear S; intro a S
    refine wg_skip (wan_no (j := 31) (t := 40) (b := false) (c := true) rfl (S.get 40 _ rfl) (by decide)) ?_
    replace S := S.put (by decide : 41 < 167) undef
    refine env_gen (C := fun a => wpList Tryz.prog _ _ _ a _) S ?_
    clear S; intro a S
    refine wg_skip (wan_no (j := 31) (t := 40) (b := false) (c := true) rfl (S.get 40 _ rfl) (by decide)) ?_
    replace S := S.put (by decide : 42 < 167) undef
    refine env_gen (C := fun a => wpList Tryz.prog _ _ _ a _) S ?_
    clear S; intro a S
    refine wg_skip (wan_no (j := 31) (t := 40) (b := false) (c := true) rfl (S.get 40 _ rfl) (by decide)) ?_
    replace S := S.put (by decide : 43 < 167) undef
    refine env_gen (C := fun a => wpList Tryz.prog _ _ _ a _) S ?_
    clear S; intro a S
    refine wg_skip (wan_no (j := 31) (t := 40) (b := false) (c := true) rfl (S.get 40 _ rfl) (by decide)) ?_
    replace S := S.put (by decide : 44 < 167) undef
    refine env_gen (C := fun a => wpList Tryz.prog _ _ _ a _) S ?_
    clear S; intro a S
    refine wg_skip (wan_no (j := 31) (t := 40) (b := false) (c := true) rfl (S.get 40 _ rfl) (by decide)) ?_
    replace S := S.put (by decide : 45 < 167) undef
    refine env_gen (C := fun a => wpList Tryz.prog _ _ _ a _) S ?_
    clear S; intro a S
    refine wg_skip (wan_no (j := 31) (t := 40) (b := false) (c := true) rfl (S.get 40 _ rfl) (by decide)) ?_
    replace S := S.put (by decide : 46 < 167) undef
    refine env_gen (C := fun a => wpList Tryz.prog _ _ _ a _) S ?_
    clear S; intro a S
    refine wg_skip (wan_no (j := 31) (t := 40) (b := false) (c := true) rfl (S.get 40 _ rfl) (by decide)) ?_
    replace S := S.put (by decide : 47 < 167) undef
    refine env_gen (C := fun a => wpList Tryz.prog _ _ _ a _) S ?_
    clear S; intro a S
    refine wg_skip (wan_no (j := 31) (t := 40) (b := false) (c := true) rfl (S.get 40 _ rfl) (by decide)) ?_
    replace S := S.put (by decide : 48 < 167) undef
    refine env_gen (C := fun a => wpList Tryz.prog _ _ _ a _) S ?_
    clear S; intro a S
    refine wg_skip (wan_no (j := 31) (t := 40) (b := false) (c := true) rfl (S.get 40 _ rfl) (by decide)) ?_
    replace S := S.put (by decide : 49 < 167) undef
    refine env_gen (C := fun a => wpList Tryz.prog _ _ _ a _) S ?_
    clear S; intro a S
    refine wpl_val (v := (.bool true)) (ex_pickT (v := (.bool true)) (S.get 40 _ rfl) rfl _) ?_
    replace S := S.put (by decide : 50 < 167) (.bool true)
    refine wpl_nil ?_
    refine wp_cond_true (S.get 50 _ rfl) ?_
    refine wp_seq (wp_region_list ?_)
    refine wpl_val (v := (.bool false)) (ex_assign (v := (.bool false)) rfl _) ?_
    replace S := S.put (by decide : 4 < 167) (.bool false)
    refine wpl_nil ?_
    refine wp_ret ?_
    exact ret_at (P := Tryz.prog) (fn := Tryz.f15) (R := fun e w' => e = .returned (.bool (sameSt s t)) ∧ Below w.heap.size w w') S rfl rfl ⟨by unfold sameSt bookE; rw [eqR_len l2]; simp, M⟩
  have d2 : (((sLeases s).length : Int) != (((sLeases t).length : Int))) = false := by rw [l2]; simp
  by_cases l3 : (sSess s).length = (sSess t).length
  case neg =>
    have d3 : (((sSess s).length : Int) != (((sSess t).length : Int))) = true := bne_iff_ne.2 (by omega)
    refine wp_seq (wp_seq (wp_region_list ?_))
    refine wpl_val (v := (.pointer (some ⟨w.heap.size, 0 + 0, none⟩))) (ex_field (S.get 2 _ rfl) (by kernel_rfl) _) ?_
    replace S := S.put (by decide : 9 < 167) (.pointer (some ⟨w.heap.size, 0 + 0, none⟩))
    refine env_gen (C := fun a => wpList Tryz.prog _ _ _ a _) S ?_
    clear S; intro a S
    refine wpl_val (v := (.pointer (some ⟨w.heap.size, 0 + 0 + 0, none⟩))) (ex_field (S.get 9 _ rfl) (by kernel_rfl) _) ?_
    replace S := S.put (by decide : 10 < 167) (.pointer (some ⟨w.heap.size, 0 + 0 + 0, none⟩))
    refine wpl_val (v := (.slice oP (sPools s).length cP)) (ex_load (S.get 10 _ rfl) ⟨by kernel_rfl, by kernel_rfl⟩ _ (box_at B2 rfl)) ?_
    replace S := S.put (by decide : 11 < 167) (.slice oP (sPools s).length cP)
    refine wpl_val (v := (.int .i64 (sPools s).length)) (ex_len (by kernel_rfl) (S.get 11 _ rfl) _) ?_
    replace S := S.put (by decide : 12 < 167) (.int .i64 (sPools s).length)
    refine env_gen (C := fun a => wpList Tryz.prog _ _ _ a _) S ?_
    clear S; intro a S
    refine wpl_val (v := (.pointer (some ⟨X1.heap.size, 0 + 0, none⟩))) (ex_field (S.get 3 _ rfl) (by kernel_rfl) _) ?_
    replace S := S.put (by decide : 13 < 167) (.pointer (some ⟨X1.heap.size, 0 + 0, none⟩))
    refine wpl_val (v := (.pointer (some ⟨X1.heap.size, 0 + 0 + 0, none⟩))) (ex_field (S.get 13 _ rfl) (by kernel_rfl) _) ?_
    replace S := S.put (by decide : 14 < 167) (.pointer (some ⟨X1.heap.size, 0 + 0 + 0, none⟩))
    refine wpl_val (v := (.slice oP' (sPools t).length cP')) (ex_load (S.get 14 _ rfl) ⟨by kernel_rfl, by kernel_rfl⟩ _ (box_at B5 rfl)) ?_
    replace S := S.put (by decide : 15 < 167) (.slice oP' (sPools t).length cP')
    refine env_gen (C := fun a => wpList Tryz.prog _ _ _ a _) S ?_
    clear S; intro a S
    refine wpl_val (v := (.int .i64 (sPools t).length)) (ex_len (by kernel_rfl) (S.get 15 _ rfl) _) ?_
    replace S := S.put (by decide : 16 < 167) (.int .i64 (sPools t).length)
    refine wpl_val (v := (.bool false)) (ex_bin (u := (.int .i64 (sPools s).length)) (v := (.int .i64 (sPools t).length)) (S.get 12 _ rfl) (S.get 16 _ rfl) _ ((run_eqb _).trans (by rw [d0]))) ?_
    replace S := S.put (by decide : 17 < 167) (.bool false)
    refine wpl_val (v := (.bool false)) (ex_move (S.get 17 _ rfl) _) ?_
    replace S := S.put (by decide : 18 < 167) (.bool false)
    refine env_gen (C := fun a => wpList Tryz.prog _ _ _ a _) S ?_
    clear S; intro a S
    refine wg_val (v := (.pointer (some ⟨w.heap.size, 0 + 0, none⟩))) (wan_yes (j := 9) (t := 18) (b := false) rfl (S.get 18 _ rfl) (by rw [S.sz]; decide)) (ex_field (S.get 2 _ rfl) (by kernel_rfl) _) ?_
    replace S := S.put (by decide : 19 < 167) (.pointer (some ⟨w.heap.size, 0 + 0, none⟩))
    refine env_gen (C := fun a => wpList Tryz.prog _ _ _ a _) S ?_
    clear S; intro a S
    refine wg_val (v := (.pointer (some ⟨w.heap.size, 0 + 0 + 1, none⟩))) (wan_yes (j := 9) (t := 18) (b := false) rfl (S.get 18 _ rfl) (by rw [S.sz]; decide)) (ex_field (S.get 19 _ rfl) (by kernel_rfl) _) ?_
    replace S := S.put (by decide : 20 < 167) (.pointer (some ⟨w.heap.size, 0 + 0 + 1, none⟩))
    refine env_gen (C := fun a => wpList Tryz.prog _ _ _ a _) S ?_
    clear S; intro a S
    refine wg_val (v := (.slice oB (sBlocks s).length cB)) (wan_yes (j := 9) (t := 18) (b := false) rfl (S.get 18 _ rfl) (by rw [S.sz]; decide)) (ex_load (S.get 20 _ rfl) ⟨by kernel_rfl, by kernel_rfl⟩ _ (box_at B2 rfl)) ?_
    replace S := S.put (by decide : 21 < 167) (.slice oB (sBlocks s).length cB)
    refine env_gen (C := fun a => wpList Tryz.prog _ _ _ a _) S ?_
    clear S; intro a S
    refine wg_val (v := (.int .i64 (sBlocks s).length)) (wan_yes (j := 9) (t := 18) (b := false) rfl (S.get 18 _ rfl) (by rw [S.sz]; decide)) (ex_len (by kernel_rfl) (S.get 21 _ rfl) _) ?_
    replace S := S.put (by decide : 22 < 167) (.int .i64 (sBlocks s).length)
    refine env_gen (C := fun a => wpList Tryz.prog _ _ _ a _) S ?_
    clear S; intro a S
    refine wg_val (v := (.pointer (some ⟨X1.heap.size, 0 + 0, none⟩))) (wan_yes (j := 9) (t := 18) (b := false) rfl (S.get 18 _ rfl) (by rw [S.sz]; decide)) (ex_field (S.get 3 _ rfl) (by kernel_rfl) _) ?_
    replace S := S.put (by decide : 23 < 167) (.pointer (some ⟨X1.heap.size, 0 + 0, none⟩))
    refine env_gen (C := fun a => wpList Tryz.prog _ _ _ a _) S ?_
    clear S; intro a S
    refine wg_val (v := (.pointer (some ⟨X1.heap.size, 0 + 0 + 1, none⟩))) (wan_yes (j := 9) (t := 18) (b := false) rfl (S.get 18 _ rfl) (by rw [S.sz]; decide)) (ex_field (S.get 23 _ rfl) (by kernel_rfl) _) ?_
    replace S := S.put (by decide : 24 < 167) (.pointer (some ⟨X1.heap.size, 0 + 0 + 1, none⟩))
    refine env_gen (C := fun a => wpList Tryz.prog _ _ _ a _) S ?_
    clear S; intro a S
    refine wg_val (v := (.slice oB' (sBlocks t).length cB')) (wan_yes (j := 9) (t := 18) (b := false) rfl (S.get 18 _ rfl) (by rw [S.sz]; decide)) (ex_load (S.get 24 _ rfl) ⟨by kernel_rfl, by kernel_rfl⟩ _ (box_at B5 rfl)) ?_
    replace S := S.put (by decide : 25 < 167) (.slice oB' (sBlocks t).length cB')
    refine env_gen (C := fun a => wpList Tryz.prog _ _ _ a _) S ?_
    clear S; intro a S
    refine wg_val (v := (.int .i64 (sBlocks t).length)) (wan_yes (j := 9) (t := 18) (b := false) rfl (S.get 18 _ rfl) (by rw [S.sz]; decide)) (ex_len (by kernel_rfl) (S.get 25 _ rfl) _) ?_
    replace S := S.put (by decide : 26 < 167) (.int .i64 (sBlocks t).length)
    refine env_gen (C := fun a => wpList Tryz.prog _ _ _ a _) S ?_
    clear S; intro a S
    refine wg_val (v := (.bool false)) (wan_yes (j := 9) (t := 18) (b := false) rfl (S.get 18 _ rfl) (by rw [S.sz]; decide)) (ex_bin (u := (.int .i64 (sBlocks s).length)) (v := (.int .i64 (sBlocks t).length)) (S.get 22 _ rfl) (S.get 26 _ rfl) _ ((run_eqb _).trans (by rw [d1]))) ?_
    replace S := S.put (by decide : 27 < 167) (.bool false)
    refine env_gen (C := fun a => wpList Tryz.prog _ _ _ a _) S ?_
    clear S; intro a S
    refine wpl_val (v := (.bool false)) (ex_pickF (v := (.bool false)) (S.get 18 _ rfl) (S.get 27 _ rfl) _) ?_
    replace S := S.put (by decide : 28 < 167) (.bool false)
    refine wpl_val (v := (.bool false)) (ex_move (S.get 28 _ rfl) _) ?_
    replace S := S.put (by decide : 29 < 167) (.bool false)
    refine env_gen (C := fun a => wpList Tryz.prog _ _ _ a _) S ?_
    clear S; intro a S
    refine wg_val (v := (.pointer (some ⟨w.heap.size, 0 + 2, none⟩))) (wan_yes (j := 20) (t := 29) (b := false) rfl (S.get 29 _ rfl) (by rw [S.sz]; decide)) (ex_field (S.get 2 _ rfl) (by kernel_rfl) _) ?_
    replace S := S.put (by decide : 30 < 167) (.pointer (some ⟨w.heap.size, 0 + 2, none⟩))
    refine env_gen (C := fun a => wpList Tryz.prog _ _ _ a _) S ?_
    clear S; intro a S
    refine wg_val (v := (.pointer (some ⟨w.heap.size, 0 + 2 + 0, none⟩))) (wan_yes (j := 20) (t := 29) (b := false) rfl (S.get 29 _ rfl) (by rw [S.sz]; decide)) (ex_field (S.get 30 _ rfl) (by kernel_rfl) _) ?_
    replace S := S.put (by decide : 31 < 167) (.pointer (some ⟨w.heap.size, 0 + 2 + 0, none⟩))
    refine env_gen (C := fun a => wpList Tryz.prog _ _ _ a _) S ?_
    clear S; intro a S
    refine wg_val (v := (.slice oL (sLeases s).length cL)) (wan_yes (j := 20) (t := 29) (b := false) rfl (S.get 29 _ rfl) (by rw [S.sz]; decide)) (ex_load (S.get 31 _ rfl) ⟨by kernel_rfl, by kernel_rfl⟩ _ (box_at B2 rfl)) ?_
    replace S := S.put (by decide : 32 < 167) (.slice oL (sLeases s).length cL)
    refine env_gen (C := fun a => wpList Tryz.prog _ _ _ a _) S ?_
    clear S; intro a S
    refine wg_val (v := (.int .i64 (sLeases s).length)) (wan_yes (j := 20) (t := 29) (b := false) rfl (S.get 29 _ rfl) (by rw [S.sz]; decide)) (ex_len (by kernel_rfl) (S.get 32 _ rfl) _) ?_
    replace S := S.put (by decide : 33 < 167) (.int .i64 (sLeases s).length)
    refine env_gen (C := fun a => wpList Tryz.prog _ _ _ a _) S ?_
    clear S; intro a S
    refine wg_val (v := (.pointer (some ⟨X1.heap.size, 0 + 2, none⟩))) (wan_yes (j := 20) (t := 29) (b := false) rfl (S.get 29 _ rfl) (by rw [S.sz]; decide)) (ex_field (S.get 3 _ rfl) (by kernel_rfl) _) ?_
    replace S := S.put (by decide : 34 < 167) (.pointer (some ⟨X1.heap.size, 0 + 2, none⟩))
    refine env_gen (C := fun a => wpList Tryz.prog _ _ _ a _) S ?_
    clear S; intro a S
    refine wg_val (v := (.pointer (some ⟨X1.heap.size, 0 + 2 + 0, none⟩))) (wan_yes (j := 20) (t := 29) (b := false) rfl (S.get 29 _ rfl) (by rw [S.sz]; decide)) (ex_field (S.get 34 _ rfl) (by kernel_rfl) _) ?_
    replace S := S.put (by decide : 35 < 167) (.pointer (some ⟨X1.heap.size, 0 + 2 + 0, none⟩))
    refine env_gen (C := fun a => wpList Tryz.prog _ _ _ a _) S ?_
    clear S; intro a S
    refine wg_val (v := (.slice oL' (sLeases t).length cL')) (wan_yes (j := 20) (t := 29) (b := false) rfl (S.get 29 _ rfl) (by rw [S.sz]; decide)) (ex_load (S.get 35 _ rfl) ⟨by kernel_rfl, by kernel_rfl⟩ _ (box_at B5 rfl)) ?_
    replace S := S.put (by decide : 36 < 167) (.slice oL' (sLeases t).length cL')
    refine env_gen (C := fun a => wpList Tryz.prog _ _ _ a _) S ?_
    clear S; intro a S
    refine wg_val (v := (.int .i64 (sLeases t).length)) (wan_yes (j := 20) (t := 29) (b := false) rfl (S.get 29 _ rfl) (by rw [S.sz]; decide)) (ex_len (by kernel_rfl) (S.get 36 _ rfl) _) ?_
    replace S := S.put (by decide : 37 < 167) (.int .i64 (sLeases t).length)
    refine env_gen (C := fun a => wpList Tryz.prog _ _ _ a _) S ?_
    clear S; intro a S
    refine wg_val (v := (.bool false)) (wan_yes (j := 20) (t := 29) (b := false) rfl (S.get 29 _ rfl) (by rw [S.sz]; decide)) (ex_bin (u := (.int .i64 (sLeases s).length)) (v := (.int .i64 (sLeases t).length)) (S.get 33 _ rfl) (S.get 37 _ rfl) _ ((run_eqb _).trans (by rw [d2]))) ?_
    replace S := S.put (by decide : 38 < 167) (.bool false)
    refine wpl_val (v := (.bool false)) (ex_pickF (v := (.bool false)) (S.get 29 _ rfl) (S.get 38 _ rfl) _) ?_
    replace S := S.put (by decide : 39 < 167) (.bool false)
    refine env_gen (C := fun a => wpList Tryz.prog _ _ _ a _) S ?_
    clear S; intro a S
    refine wpl_val (v := (.bool false)) (ex_move (S.get 39 _ rfl) _) ?_
    replace S := S.put (by decide : 40 < 167) (.bool false)
    refine env_gen (C := fun a => wpList Tryz.prog _ _ _ a _) S ?_
    clear S; intro a S
    refine wg_val (v := (.pointer (some ⟨w.heap.size, 0 + 5, none⟩))) (wan_yes (j := 31) (t := 40) (b := false) rfl (S.get 40 _ rfl) (by rw [S.sz]; decide)) (ex_field (S.get 2 _ rfl) (by kernel_rfl) _) ?_
    replace S := S.put (by decide : 41 < 167) (.pointer (some ⟨w.heap.size, 0 + 5, none⟩))
    refine env_gen (C := fun a => wpList Tryz.prog _ _ _ a _) S ?_
    clear S; intro a S
    refine wg_val (v := (.pointer (some ⟨w.heap.size, 0 + 5 + 0, none⟩))) (wan_yes (j := 31) (t := 40) (b := false) rfl (S.get 40 _ rfl) (by rw [S.sz]; decide)) (ex_field (S.get 41 _ rfl) (by kernel_rfl) _) ?_
    replace S := S.put (by decide : 42 < 167) (.pointer (some ⟨w.heap.size, 0 + 5 + 0, none⟩))
    refine env_gen (C := fun a => wpList Tryz.prog _ _ _ a _) S ?_
    clear S; intro a S
    refine wg_val (v := (.slice oS (sSess s).length cS)) (wan_yes (j := 31) (t := 40) (b := false) rfl (S.get 40 _ rfl) (by rw [S.sz]; decide)) (ex_load (S.get 42 _ rfl) ⟨by kernel_rfl, by kernel_rfl⟩ _ (box_at B2 rfl)) ?_
    replace S := S.put (by decide : 43 < 167) (.slice oS (sSess s).length cS)
    refine env_gen (C := fun a => wpList Tryz.prog _ _ _ a _) S ?_
    clear S; intro a S
    refine wg_val (v := (.int .i64 (sSess s).length)) (wan_yes (j := 31) (t := 40) (b := false) rfl (S.get 40 _ rfl) (by rw [S.sz]; decide)) (ex_len (by kernel_rfl) (S.get 43 _ rfl) _) ?_
    replace S := S.put (by decide : 44 < 167) (.int .i64 (sSess s).length)
    refine env_gen (C := fun a => wpList Tryz.prog _ _ _ a _) S ?_
    clear S; intro a S
    refine wg_val (v := (.pointer (some ⟨X1.heap.size, 0 + 5, none⟩))) (wan_yes (j := 31) (t := 40) (b := false) rfl (S.get 40 _ rfl) (by rw [S.sz]; decide)) (ex_field (S.get 3 _ rfl) (by kernel_rfl) _) ?_
    replace S := S.put (by decide : 45 < 167) (.pointer (some ⟨X1.heap.size, 0 + 5, none⟩))
    refine env_gen (C := fun a => wpList Tryz.prog _ _ _ a _) S ?_
    clear S; intro a S
    refine wg_val (v := (.pointer (some ⟨X1.heap.size, 0 + 5 + 0, none⟩))) (wan_yes (j := 31) (t := 40) (b := false) rfl (S.get 40 _ rfl) (by rw [S.sz]; decide)) (ex_field (S.get 45 _ rfl) (by kernel_rfl) _) ?_
    replace S := S.put (by decide : 46 < 167) (.pointer (some ⟨X1.heap.size, 0 + 5 + 0, none⟩))
    refine env_gen (C := fun a => wpList Tryz.prog _ _ _ a _) S ?_
    clear S; intro a S
    refine wg_val (v := (.slice oS' (sSess t).length cS')) (wan_yes (j := 31) (t := 40) (b := false) rfl (S.get 40 _ rfl) (by rw [S.sz]; decide)) (ex_load (S.get 46 _ rfl) ⟨by kernel_rfl, by kernel_rfl⟩ _ (box_at B5 rfl)) ?_
    replace S := S.put (by decide : 47 < 167) (.slice oS' (sSess t).length cS')
    refine env_gen (C := fun a => wpList Tryz.prog _ _ _ a _) S ?_
    clear S; intro a S
    refine wg_val (v := (.int .i64 (sSess t).length)) (wan_yes (j := 31) (t := 40) (b := false) rfl (S.get 40 _ rfl) (by rw [S.sz]; decide)) (ex_len (by kernel_rfl) (S.get 47 _ rfl) _) ?_
    replace S := S.put (by decide : 48 < 167) (.int .i64 (sSess t).length)
    refine env_gen (C := fun a => wpList Tryz.prog _ _ _ a _) S ?_
    clear S; intro a S
    refine wg_val (v := (.bool true)) (wan_yes (j := 31) (t := 40) (b := false) rfl (S.get 40 _ rfl) (by rw [S.sz]; decide)) (ex_bin (u := (.int .i64 (sSess s).length)) (v := (.int .i64 (sSess t).length)) (S.get 44 _ rfl) (S.get 48 _ rfl) _ ((run_eqb _).trans (by rw [d3]))) ?_
    replace S := S.put (by decide : 49 < 167) (.bool true)
    refine wpl_val (v := (.bool true)) (ex_pickF (v := (.bool true)) (S.get 40 _ rfl) (S.get 49 _ rfl) _) ?_
    replace S := S.put (by decide : 50 < 167) (.bool true)
    refine wpl_nil ?_
    refine wp_cond_true (S.get 50 _ rfl) ?_
    refine wp_seq (wp_region_list ?_)
    refine wpl_val (v := (.bool false)) (ex_assign (v := (.bool false)) rfl _) ?_
    replace S := S.put (by decide : 4 < 167) (.bool false)
    refine wpl_nil ?_
    refine wp_ret ?_
    exact ret_at (P := Tryz.prog) (fn := Tryz.f15) (R := fun e w' => e = .returned (.bool (sameSt s t)) ∧ Below w.heap.size w w') S rfl rfl ⟨by unfold sameSt deskE; rw [eqR_len l3]; simp, M⟩
  have d3 : (((sSess s).length : Int) != (((sSess t).length : Int))) = false := by rw [l3]; simp
  refine wp_seq (wp_seq (wp_region_list ?_))
  refine wpl_val (v := (.pointer (some ⟨w.heap.size, 0 + 0, none⟩))) (ex_field (S.get 2 _ rfl) (by kernel_rfl) _) ?_
  replace S := S.put (by decide : 9 < 167) (.pointer (some ⟨w.heap.size, 0 + 0, none⟩))
  refine wpl_val (v := (.pointer (some ⟨w.heap.size, 0 + 0 + 0, none⟩))) (ex_field (S.get 9 _ rfl) (by kernel_rfl) _) ?_
  replace S := S.put (by decide : 10 < 167) (.pointer (some ⟨w.heap.size, 0 + 0 + 0, none⟩))
  refine wpl_val (v := (.slice oP (sPools s).length cP)) (ex_load (S.get 10 _ rfl) ⟨by kernel_rfl, by kernel_rfl⟩ _ (box_at B2 rfl)) ?_
  replace S := S.put (by decide : 11 < 167) (.slice oP (sPools s).length cP)
  refine env_gen (C := fun a => wpList Tryz.prog _ _ _ a _) S ?_
  clear S; intro a S
  refine wpl_val (v := (.int .i64 (sPools s).length)) (ex_len (by kernel_rfl) (S.get 11 _ rfl) _) ?_
  replace S := S.put (by decide : 12 < 167) (.int .i64 (sPools s).length)
  refine wpl_val (v := (.pointer (some ⟨X1.heap.size, 0 + 0, none⟩))) (ex_field (S.get 3 _ rfl) (by kernel_rfl) _) ?_
  replace S := S.put (by decide : 13 < 167) (.pointer (some ⟨X1.heap.size, 0 + 0, none⟩))
  refine wpl_val (v := (.pointer (some ⟨X1.heap.size, 0 + 0 + 0, none⟩))) (ex_field (S.get 13 _ rfl) (by kernel_rfl) _) ?_
  replace S := S.put (by decide : 14 < 167) (.pointer (some ⟨X1.heap.size, 0 + 0 + 0, none⟩))
  refine env_gen (C := fun a => wpList Tryz.prog _ _ _ a _) S ?_
  clear S; intro a S
  refine wpl_val (v := (.slice oP' (sPools t).length cP')) (ex_load (S.get 14 _ rfl) ⟨by kernel_rfl, by kernel_rfl⟩ _ (box_at B5 rfl)) ?_
  replace S := S.put (by decide : 15 < 167) (.slice oP' (sPools t).length cP')
  refine wpl_val (v := (.int .i64 (sPools t).length)) (ex_len (by kernel_rfl) (S.get 15 _ rfl) _) ?_
  replace S := S.put (by decide : 16 < 167) (.int .i64 (sPools t).length)
  refine wpl_val (v := (.bool false)) (ex_bin (u := (.int .i64 (sPools s).length)) (v := (.int .i64 (sPools t).length)) (S.get 12 _ rfl) (S.get 16 _ rfl) _ ((run_eqb _).trans (by rw [d0]))) ?_
  replace S := S.put (by decide : 17 < 167) (.bool false)
  refine env_gen (C := fun a => wpList Tryz.prog _ _ _ a _) S ?_
  clear S; intro a S
  refine wpl_val (v := (.bool false)) (ex_move (S.get 17 _ rfl) _) ?_
  replace S := S.put (by decide : 18 < 167) (.bool false)
  refine env_gen (C := fun a => wpList Tryz.prog _ _ _ a _) S ?_
  clear S; intro a S
  refine wg_val (v := (.pointer (some ⟨w.heap.size, 0 + 0, none⟩))) (wan_yes (j := 9) (t := 18) (b := false) rfl (S.get 18 _ rfl) (by rw [S.sz]; decide)) (ex_field (S.get 2 _ rfl) (by kernel_rfl) _) ?_
  replace S := S.put (by decide : 19 < 167) (.pointer (some ⟨w.heap.size, 0 + 0, none⟩))
  refine env_gen (C := fun a => wpList Tryz.prog _ _ _ a _) S ?_
  clear S; intro a S
  refine wg_val (v := (.pointer (some ⟨w.heap.size, 0 + 0 + 1, none⟩))) (wan_yes (j := 9) (t := 18) (b := false) rfl (S.get 18 _ rfl) (by rw [S.sz]; decide)) (ex_field (S.get 19 _ rfl) (by kernel_rfl) _) ?_
  replace S := S.put (by decide : 20 < 167) (.pointer (some ⟨w.heap.size, 0 + 0 + 1, none⟩))
  refine env_gen (C := fun a => wpList Tryz.prog _ _ _ a _) S ?_
  clear S; intro a S
  refine wg_val (v := (.slice oB (sBlocks s).length cB)) (wan_yes (j := 9) (t := 18) (b := false) rfl (S.get 18 _ rfl) (by rw [S.sz]; decide)) (ex_load (S.get 20 _ rfl) ⟨by kernel_rfl, by kernel_rfl⟩ _ (box_at B2 rfl)) ?_
  replace S := S.put (by decide : 21 < 167) (.slice oB (sBlocks s).length cB)
  refine env_gen (C := fun a => wpList Tryz.prog _ _ _ a _) S ?_
  clear S; intro a S
  refine wg_val (v := (.int .i64 (sBlocks s).length)) (wan_yes (j := 9) (t := 18) (b := false) rfl (S.get 18 _ rfl) (by rw [S.sz]; decide)) (ex_len (by kernel_rfl) (S.get 21 _ rfl) _) ?_
  replace S := S.put (by decide : 22 < 167) (.int .i64 (sBlocks s).length)
  refine env_gen (C := fun a => wpList Tryz.prog _ _ _ a _) S ?_
  clear S; intro a S
  refine wg_val (v := (.pointer (some ⟨X1.heap.size, 0 + 0, none⟩))) (wan_yes (j := 9) (t := 18) (b := false) rfl (S.get 18 _ rfl) (by rw [S.sz]; decide)) (ex_field (S.get 3 _ rfl) (by kernel_rfl) _) ?_
  replace S := S.put (by decide : 23 < 167) (.pointer (some ⟨X1.heap.size, 0 + 0, none⟩))
  refine env_gen (C := fun a => wpList Tryz.prog _ _ _ a _) S ?_
  clear S; intro a S
  refine wg_val (v := (.pointer (some ⟨X1.heap.size, 0 + 0 + 1, none⟩))) (wan_yes (j := 9) (t := 18) (b := false) rfl (S.get 18 _ rfl) (by rw [S.sz]; decide)) (ex_field (S.get 23 _ rfl) (by kernel_rfl) _) ?_
  replace S := S.put (by decide : 24 < 167) (.pointer (some ⟨X1.heap.size, 0 + 0 + 1, none⟩))
  refine env_gen (C := fun a => wpList Tryz.prog _ _ _ a _) S ?_
  clear S; intro a S
  refine wg_val (v := (.slice oB' (sBlocks t).length cB')) (wan_yes (j := 9) (t := 18) (b := false) rfl (S.get 18 _ rfl) (by rw [S.sz]; decide)) (ex_load (S.get 24 _ rfl) ⟨by kernel_rfl, by kernel_rfl⟩ _ (box_at B5 rfl)) ?_
  replace S := S.put (by decide : 25 < 167) (.slice oB' (sBlocks t).length cB')
  refine env_gen (C := fun a => wpList Tryz.prog _ _ _ a _) S ?_
  clear S; intro a S
  refine wg_val (v := (.int .i64 (sBlocks t).length)) (wan_yes (j := 9) (t := 18) (b := false) rfl (S.get 18 _ rfl) (by rw [S.sz]; decide)) (ex_len (by kernel_rfl) (S.get 25 _ rfl) _) ?_
  replace S := S.put (by decide : 26 < 167) (.int .i64 (sBlocks t).length)
  refine env_gen (C := fun a => wpList Tryz.prog _ _ _ a _) S ?_
  clear S; intro a S
  refine wg_val (v := (.bool false)) (wan_yes (j := 9) (t := 18) (b := false) rfl (S.get 18 _ rfl) (by rw [S.sz]; decide)) (ex_bin (u := (.int .i64 (sBlocks s).length)) (v := (.int .i64 (sBlocks t).length)) (S.get 22 _ rfl) (S.get 26 _ rfl) _ ((run_eqb _).trans (by rw [d1]))) ?_
  replace S := S.put (by decide : 27 < 167) (.bool false)
  refine wpl_val (v := (.bool false)) (ex_pickF (v := (.bool false)) (S.get 18 _ rfl) (S.get 27 _ rfl) _) ?_
  replace S := S.put (by decide : 28 < 167) (.bool false)
  refine wpl_val (v := (.bool false)) (ex_move (S.get 28 _ rfl) _) ?_
  replace S := S.put (by decide : 29 < 167) (.bool false)
  refine env_gen (C := fun a => wpList Tryz.prog _ _ _ a _) S ?_
  clear S; intro a S
  refine wg_val (v := (.pointer (some ⟨w.heap.size, 0 + 2, none⟩))) (wan_yes (j := 20) (t := 29) (b := false) rfl (S.get 29 _ rfl) (by rw [S.sz]; decide)) (ex_field (S.get 2 _ rfl) (by kernel_rfl) _) ?_
  replace S := S.put (by decide : 30 < 167) (.pointer (some ⟨w.heap.size, 0 + 2, none⟩))
  refine env_gen (C := fun a => wpList Tryz.prog _ _ _ a _) S ?_
  clear S; intro a S
  refine wg_val (v := (.pointer (some ⟨w.heap.size, 0 + 2 + 0, none⟩))) (wan_yes (j := 20) (t := 29) (b := false) rfl (S.get 29 _ rfl) (by rw [S.sz]; decide)) (ex_field (S.get 30 _ rfl) (by kernel_rfl) _) ?_
  replace S := S.put (by decide : 31 < 167) (.pointer (some ⟨w.heap.size, 0 + 2 + 0, none⟩))
  refine env_gen (C := fun a => wpList Tryz.prog _ _ _ a _) S ?_
  clear S; intro a S
  refine wg_val (v := (.slice oL (sLeases s).length cL)) (wan_yes (j := 20) (t := 29) (b := false) rfl (S.get 29 _ rfl) (by rw [S.sz]; decide)) (ex_load (S.get 31 _ rfl) ⟨by kernel_rfl, by kernel_rfl⟩ _ (box_at B2 rfl)) ?_
  replace S := S.put (by decide : 32 < 167) (.slice oL (sLeases s).length cL)
  refine env_gen (C := fun a => wpList Tryz.prog _ _ _ a _) S ?_
  clear S; intro a S
  refine wg_val (v := (.int .i64 (sLeases s).length)) (wan_yes (j := 20) (t := 29) (b := false) rfl (S.get 29 _ rfl) (by rw [S.sz]; decide)) (ex_len (by kernel_rfl) (S.get 32 _ rfl) _) ?_
  replace S := S.put (by decide : 33 < 167) (.int .i64 (sLeases s).length)
  refine env_gen (C := fun a => wpList Tryz.prog _ _ _ a _) S ?_
  clear S; intro a S
  refine wg_val (v := (.pointer (some ⟨X1.heap.size, 0 + 2, none⟩))) (wan_yes (j := 20) (t := 29) (b := false) rfl (S.get 29 _ rfl) (by rw [S.sz]; decide)) (ex_field (S.get 3 _ rfl) (by kernel_rfl) _) ?_
  replace S := S.put (by decide : 34 < 167) (.pointer (some ⟨X1.heap.size, 0 + 2, none⟩))
  refine env_gen (C := fun a => wpList Tryz.prog _ _ _ a _) S ?_
  clear S; intro a S
  refine wg_val (v := (.pointer (some ⟨X1.heap.size, 0 + 2 + 0, none⟩))) (wan_yes (j := 20) (t := 29) (b := false) rfl (S.get 29 _ rfl) (by rw [S.sz]; decide)) (ex_field (S.get 34 _ rfl) (by kernel_rfl) _) ?_
  replace S := S.put (by decide : 35 < 167) (.pointer (some ⟨X1.heap.size, 0 + 2 + 0, none⟩))
  refine env_gen (C := fun a => wpList Tryz.prog _ _ _ a _) S ?_
  clear S; intro a S
  refine wg_val (v := (.slice oL' (sLeases t).length cL')) (wan_yes (j := 20) (t := 29) (b := false) rfl (S.get 29 _ rfl) (by rw [S.sz]; decide)) (ex_load (S.get 35 _ rfl) ⟨by kernel_rfl, by kernel_rfl⟩ _ (box_at B5 rfl)) ?_
  replace S := S.put (by decide : 36 < 167) (.slice oL' (sLeases t).length cL')
  refine env_gen (C := fun a => wpList Tryz.prog _ _ _ a _) S ?_
  clear S; intro a S
  refine wg_val (v := (.int .i64 (sLeases t).length)) (wan_yes (j := 20) (t := 29) (b := false) rfl (S.get 29 _ rfl) (by rw [S.sz]; decide)) (ex_len (by kernel_rfl) (S.get 36 _ rfl) _) ?_
  replace S := S.put (by decide : 37 < 167) (.int .i64 (sLeases t).length)
  refine env_gen (C := fun a => wpList Tryz.prog _ _ _ a _) S ?_
  clear S; intro a S
  refine wg_val (v := (.bool false)) (wan_yes (j := 20) (t := 29) (b := false) rfl (S.get 29 _ rfl) (by rw [S.sz]; decide)) (ex_bin (u := (.int .i64 (sLeases s).length)) (v := (.int .i64 (sLeases t).length)) (S.get 33 _ rfl) (S.get 37 _ rfl) _ ((run_eqb _).trans (by rw [d2]))) ?_
  replace S := S.put (by decide : 38 < 167) (.bool false)
  refine env_gen (C := fun a => wpList Tryz.prog _ _ _ a _) S ?_
  clear S; intro a S
  refine wpl_val (v := (.bool false)) (ex_pickF (v := (.bool false)) (S.get 29 _ rfl) (S.get 38 _ rfl) _) ?_
  replace S := S.put (by decide : 39 < 167) (.bool false)
  refine wpl_val (v := (.bool false)) (ex_move (S.get 39 _ rfl) _) ?_
  replace S := S.put (by decide : 40 < 167) (.bool false)
  refine env_gen (C := fun a => wpList Tryz.prog _ _ _ a _) S ?_
  clear S; intro a S
  refine wg_val (v := (.pointer (some ⟨w.heap.size, 0 + 5, none⟩))) (wan_yes (j := 31) (t := 40) (b := false) rfl (S.get 40 _ rfl) (by rw [S.sz]; decide)) (ex_field (S.get 2 _ rfl) (by kernel_rfl) _) ?_
  replace S := S.put (by decide : 41 < 167) (.pointer (some ⟨w.heap.size, 0 + 5, none⟩))
  refine env_gen (C := fun a => wpList Tryz.prog _ _ _ a _) S ?_
  clear S; intro a S
  refine wg_val (v := (.pointer (some ⟨w.heap.size, 0 + 5 + 0, none⟩))) (wan_yes (j := 31) (t := 40) (b := false) rfl (S.get 40 _ rfl) (by rw [S.sz]; decide)) (ex_field (S.get 41 _ rfl) (by kernel_rfl) _) ?_
  replace S := S.put (by decide : 42 < 167) (.pointer (some ⟨w.heap.size, 0 + 5 + 0, none⟩))
  refine env_gen (C := fun a => wpList Tryz.prog _ _ _ a _) S ?_
  clear S; intro a S
  refine wg_val (v := (.slice oS (sSess s).length cS)) (wan_yes (j := 31) (t := 40) (b := false) rfl (S.get 40 _ rfl) (by rw [S.sz]; decide)) (ex_load (S.get 42 _ rfl) ⟨by kernel_rfl, by kernel_rfl⟩ _ (box_at B2 rfl)) ?_
  replace S := S.put (by decide : 43 < 167) (.slice oS (sSess s).length cS)
  refine env_gen (C := fun a => wpList Tryz.prog _ _ _ a _) S ?_
  clear S; intro a S
  refine wg_val (v := (.int .i64 (sSess s).length)) (wan_yes (j := 31) (t := 40) (b := false) rfl (S.get 40 _ rfl) (by rw [S.sz]; decide)) (ex_len (by kernel_rfl) (S.get 43 _ rfl) _) ?_
  replace S := S.put (by decide : 44 < 167) (.int .i64 (sSess s).length)
  refine env_gen (C := fun a => wpList Tryz.prog _ _ _ a _) S ?_
  clear S; intro a S
  refine wg_val (v := (.pointer (some ⟨X1.heap.size, 0 + 5, none⟩))) (wan_yes (j := 31) (t := 40) (b := false) rfl (S.get 40 _ rfl) (by rw [S.sz]; decide)) (ex_field (S.get 3 _ rfl) (by kernel_rfl) _) ?_
  replace S := S.put (by decide : 45 < 167) (.pointer (some ⟨X1.heap.size, 0 + 5, none⟩))
  refine env_gen (C := fun a => wpList Tryz.prog _ _ _ a _) S ?_
  clear S; intro a S
  refine wg_val (v := (.pointer (some ⟨X1.heap.size, 0 + 5 + 0, none⟩))) (wan_yes (j := 31) (t := 40) (b := false) rfl (S.get 40 _ rfl) (by rw [S.sz]; decide)) (ex_field (S.get 45 _ rfl) (by kernel_rfl) _) ?_
  replace S := S.put (by decide : 46 < 167) (.pointer (some ⟨X1.heap.size, 0 + 5 + 0, none⟩))
  refine env_gen (C := fun a => wpList Tryz.prog _ _ _ a _) S ?_
  clear S; intro a S
  refine wg_val (v := (.slice oS' (sSess t).length cS')) (wan_yes (j := 31) (t := 40) (b := false) rfl (S.get 40 _ rfl) (by rw [S.sz]; decide)) (ex_load (S.get 46 _ rfl) ⟨by kernel_rfl, by kernel_rfl⟩ _ (box_at B5 rfl)) ?_
  replace S := S.put (by decide : 47 < 167) (.slice oS' (sSess t).length cS')
  refine env_gen (C := fun a => wpList Tryz.prog _ _ _ a _) S ?_
  clear S; intro a S
  refine wg_val (v := (.int .i64 (sSess t).length)) (wan_yes (j := 31) (t := 40) (b := false) rfl (S.get 40 _ rfl) (by rw [S.sz]; decide)) (ex_len (by kernel_rfl) (S.get 47 _ rfl) _) ?_
  replace S := S.put (by decide : 48 < 167) (.int .i64 (sSess t).length)
  refine env_gen (C := fun a => wpList Tryz.prog _ _ _ a _) S ?_
  clear S; intro a S
  refine wg_val (v := (.bool false)) (wan_yes (j := 31) (t := 40) (b := false) rfl (S.get 40 _ rfl) (by rw [S.sz]; decide)) (ex_bin (u := (.int .i64 (sSess s).length)) (v := (.int .i64 (sSess t).length)) (S.get 44 _ rfl) (S.get 48 _ rfl) _ ((run_eqb _).trans (by rw [d3]))) ?_
  replace S := S.put (by decide : 49 < 167) (.bool false)
  refine wpl_val (v := (.bool false)) (ex_pickF (v := (.bool false)) (S.get 40 _ rfl) (S.get 49 _ rfl) _) ?_
  replace S := S.put (by decide : 50 < 167) (.bool false)
  refine wpl_nil ?_
  refine wp_cond_false (S.get 50 _ rfl) (wp_skip ?_)
  replace S := ((S.nil).add (S.get 2 _ rfl)).add (S.get 3 _ rfl)
  refine env_gen (C := fun a => Code.wp Tryz.prog _ _ a _) S ?_
  clear S; intro a S
  have bnP := hs.nP
  have bnB := hs.nB
  have bnL := hs.nL
  have bnS := hs.nS
  refine wp_seq (wp_seq (wp_region_list ?_))
  refine wpl_val (v := (.int .i64 0)) (ex_assign (v := (.int .i64 0)) rfl _) ?_
  replace S := S.put (by decide : 5 < 167) (.int .i64 0)
  refine wpl_nil ?_
  replace S := (((S.nil).add (S.get 2 _ rfl)).add (S.get 3 _ rfl)).add (S.get 5 _ rfl)
  refine env_gen (C := fun a => Code.wp Tryz.prog _ _ a _) S ?_
  clear S; intro a S
  refine wp_block (wp_count (sPools s).length (fun i a W => Env 167 (upd (upd (upd ((fun _ => none)) 2 (.pointer (some ⟨w.heap.size, 0, none⟩))) 3 (.pointer (some ⟨X1.heap.size, 0, none⟩))) 5 (.int .i64 i)) a ∧ allN (eqK eqPool_B (sPools s) (sPools t)) i = true ∧ Below w.heap.size w W ∧ Box W w.heap.size [.slice oP (sPools s).length cP, .slice oB (sBlocks s).length cB, .slice oL (sLeases s).length cL, .int .i64 (sTok s), .int .i64 (sNow s), .slice oS (sSess s).length cS, .int .i64 (sNext s), .int .i64 (sCount s)] ∧ Box W X1.heap.size [.slice oP' (sPools t).length cP', .slice oB' (sBlocks t).length cB', .slice oL' (sLeases t).length cL', .int .i64 (sTok t), .int .i64 (sNow t), .slice oS' (sSess t).length cS', .int .i64 (sNext t), .int .i64 (sCount t)]) ⟨S, rfl, M, B2, B5⟩ ?_)
  clear S M B2 B5
  rintro i a W hin ⟨S, hall, M, B2, B5⟩
  refine wp_seq (wp_seq (wp_region_list ?_))
  refine wpl_val (v := (.int .i64 i)) (ex_move (S.get 5 _ rfl) _) ?_
  replace S := S.put (by decide : 51 < 167) (.int .i64 i)
  refine wpl_val (v := (.pointer (some ⟨w.heap.size, 0 + 0, none⟩))) (ex_field (S.get 2 _ rfl) (by kernel_rfl) _) ?_
  replace S := S.put (by decide : 52 < 167) (.pointer (some ⟨w.heap.size, 0 + 0, none⟩))
  refine env_gen (C := fun a => wpList Tryz.prog _ _ _ a _) S ?_
  clear S; intro a S
  refine wpl_val (v := (.pointer (some ⟨w.heap.size, 0 + 0 + 0, none⟩))) (ex_field (S.get 52 _ rfl) (by kernel_rfl) _) ?_
  replace S := S.put (by decide : 53 < 167) (.pointer (some ⟨w.heap.size, 0 + 0 + 0, none⟩))
  refine wpl_val (v := (.slice oP (sPools s).length cP)) (ex_load (S.get 53 _ rfl) ⟨by kernel_rfl, by kernel_rfl⟩ _ (box_at B2 rfl)) ?_
  replace S := S.put (by decide : 54 < 167) (.slice oP (sPools s).length cP)
  refine wpl_val (v := (.int .i64 (sPools s).length)) (ex_len (by kernel_rfl) (S.get 54 _ rfl) _) ?_
  replace S := S.put (by decide : 55 < 167) (.int .i64 (sPools s).length)
  refine env_gen (C := fun a => wpList Tryz.prog _ _ _ a _) S ?_
  clear S; intro a S
  refine wpl_val (v := (.bool (decide ((i : Int) < ((sPools s).length : Int))))) (ex_bin (u := (.int .i64 i)) (v := (.int .i64 (sPools s).length)) (S.get 51 _ rfl) (S.get 55 _ rfl) _ (run_lss _)) ?_
  replace S := S.put (by decide : 56 < 167) (.bool (decide ((i : Int) < ((sPools s).length : Int))))
  refine wpl_nil ?_
  by_cases hlt : i < (sPools s).length
  case neg =>
    rw [decide_eq_false (by omega : ¬ (i : Int) < ((sPools s).length : Int))] at S ⊢
    have hiR : i = (sPools s).length := by omega
    refine wp_cond_false (S.get 56 _ rfl) (wp_exit ?_)
    simp only [Exit.then, Exit.inBlock, if_true]
    rw [hiR] at hall
    have q0 := eqR_good l0 hall
    clear hall hiR hlt hin
    replace S := ((S.nil).add (S.get 2 _ rfl)).add (S.get 3 _ rfl)
    refine env_gen (C := fun a => Code.wp Tryz.prog _ _ a _) S ?_
    clear S; intro a S
    refine wp_seq (wp_seq (wp_region_list ?_))
    refine wpl_val (v := (.int .i64 0)) (ex_assign (v := (.int .i64 0)) rfl _) ?_
    replace S := S.put (by decide : 6 < 167) (.int .i64 0)
    refine wpl_nil ?_
    replace S := (((S.nil).add (S.get 2 _ rfl)).add (S.get 3 _ rfl)).add (S.get 6 _ rfl)
    refine env_gen (C := fun a => Code.wp Tryz.prog _ _ a _) S ?_
    clear S; intro a S
    refine wp_block (wp_count (sBlocks s).length (fun i a W => Env 167 (upd (upd (upd ((fun _ => none)) 2 (.pointer (some ⟨w.heap.size, 0, none⟩))) 3 (.pointer (some ⟨X1.heap.size, 0, none⟩))) 6 (.int .i64 i)) a ∧ allN (eqK eqBlock_B (sBlocks s) (sBlocks t)) i = true ∧ Below w.heap.size w W ∧ Box W w.heap.size [.slice oP (sPools s).length cP, .slice oB (sBlocks s).length cB, .slice oL (sLeases s).length cL, .int .i64 (sTok s), .int .i64 (sNow s), .slice oS (sSess s).length cS, .int .i64 (sNext s), .int .i64 (sCount s)] ∧ Box W X1.heap.size [.slice oP' (sPools t).length cP', .slice oB' (sBlocks t).length cB', .slice oL' (sLeases t).length cL', .int .i64 (sTok t), .int .i64 (sNow t), .slice oS' (sSess t).length cS', .int .i64 (sNext t), .int .i64 (sCount t)]) ⟨S, rfl, M, B2, B5⟩ ?_)
    clear S M B2 B5
    rintro i a W hin ⟨S, hall, M, B2, B5⟩
    refine wp_seq (wp_seq (wp_region_list ?_))
    refine wpl_val (v := (.int .i64 i)) (ex_move (S.get 6 _ rfl) _) ?_
    replace S := S.put (by decide : 72 < 167) (.int .i64 i)
    refine env_gen (C := fun a => wpList Tryz.prog _ _ _ a _) S ?_
    clear S; intro a S
    refine wpl_val (v := (.pointer (some ⟨w.heap.size, 0 + 0, none⟩))) (ex_field (S.get 2 _ rfl) (by kernel_rfl) _) ?_
    replace S := S.put (by decide : 73 < 167) (.pointer (some ⟨w.heap.size, 0 + 0, none⟩))
    refine wpl_val (v := (.pointer (some ⟨w.heap.size, 0 + 0 + 1, none⟩))) (ex_field (S.get 73 _ rfl) (by kernel_rfl) _) ?_
    replace S := S.put (by decide : 74 < 167) (.pointer (some ⟨w.heap.size, 0 + 0 + 1, none⟩))
    refine wpl_val (v := (.slice oB (sBlocks s).length cB)) (ex_load (S.get 74 _ rfl) ⟨by kernel_rfl, by kernel_rfl⟩ _ (box_at B2 rfl)) ?_
    replace S := S.put (by decide : 75 < 167) (.slice oB (sBlocks s).length cB)
    refine env_gen (C := fun a => wpList Tryz.prog _ _ _ a _) S ?_
    clear S; intro a S
    refine wpl_val (v := (.int .i64 (sBlocks s).length)) (ex_len (by kernel_rfl) (S.get 75 _ rfl) _) ?_
    replace S := S.put (by decide : 76 < 167) (.int .i64 (sBlocks s).length)
    refine wpl_val (v := (.bool (decide ((i : Int) < ((sBlocks s).length : Int))))) (ex_bin (u := (.int .i64 i)) (v := (.int .i64 (sBlocks s).length)) (S.get 72 _ rfl) (S.get 76 _ rfl) _ (run_lss _)) ?_
    replace S := S.put (by decide : 77 < 167) (.bool (decide ((i : Int) < ((sBlocks s).length : Int))))
    refine wpl_nil ?_
    by_cases hlt : i < (sBlocks s).length
    case neg =>
      rw [decide_eq_false (by omega : ¬ (i : Int) < ((sBlocks s).length : Int))] at S ⊢
      have hiR : i = (sBlocks s).length := by omega
      refine wp_cond_false (S.get 77 _ rfl) (wp_exit ?_)
      simp only [Exit.then, Exit.inBlock, if_true]
      rw [hiR] at hall
      have q1 := eqR_good l1 hall
      clear hall hiR hlt hin
      replace S := ((S.nil).add (S.get 2 _ rfl)).add (S.get 3 _ rfl)
      refine env_gen (C := fun a => Code.wp Tryz.prog _ _ a _) S ?_
      clear S; intro a S
      refine wp_seq (wp_seq (wp_region_list ?_))
      refine wpl_val (v := (.int .i64 0)) (ex_assign (v := (.int .i64 0)) rfl _) ?_
      replace S := S.put (by decide : 7 < 167) (.int .i64 0)
      refine wpl_nil ?_
      replace S := (((S.nil).add (S.get 2 _ rfl)).add (S.get 3 _ rfl)).add (S.get 7 _ rfl)
      refine env_gen (C := fun a => Code.wp Tryz.prog _ _ a _) S ?_
      clear S; intro a S
      refine wp_block (wp_count (sLeases s).length (fun i a W => Env 167 (upd (upd (upd ((fun _ => none)) 2 (.pointer (some ⟨w.heap.size, 0, none⟩))) 3 (.pointer (some ⟨X1.heap.size, 0, none⟩))) 7 (.int .i64 i)) a ∧ allN (eqK eqLease_B (sLeases s) (sLeases t)) i = true ∧ Below w.heap.size w W ∧ Box W w.heap.size [.slice oP (sPools s).length cP, .slice oB (sBlocks s).length cB, .slice oL (sLeases s).length cL, .int .i64 (sTok s), .int .i64 (sNow s), .slice oS (sSess s).length cS, .int .i64 (sNext s), .int .i64 (sCount s)] ∧ Box W X1.heap.size [.slice oP' (sPools t).length cP', .slice oB' (sBlocks t).length cB', .slice oL' (sLeases t).length cL', .int .i64 (sTok t), .int .i64 (sNow t), .slice oS' (sSess t).length cS', .int .i64 (sNext t), .int .i64 (sCount t)]) ⟨S, rfl, M, B2, B5⟩ ?_)
      clear S M B2 B5
      rintro i a W hin ⟨S, hall, M, B2, B5⟩
      refine wp_seq (wp_seq (wp_region_list ?_))
      refine wpl_val (v := (.int .i64 i)) (ex_move (S.get 7 _ rfl) _) ?_
      replace S := S.put (by decide : 93 < 167) (.int .i64 i)
      refine wpl_val (v := (.pointer (some ⟨w.heap.size, 0 + 2, none⟩))) (ex_field (S.get 2 _ rfl) (by kernel_rfl) _) ?_
      replace S := S.put (by decide : 94 < 167) (.pointer (some ⟨w.heap.size, 0 + 2, none⟩))
      refine wpl_val (v := (.pointer (some ⟨w.heap.size, 0 + 2 + 0, none⟩))) (ex_field (S.get 94 _ rfl) (by kernel_rfl) _) ?_
      replace S := S.put (by decide : 95 < 167) (.pointer (some ⟨w.heap.size, 0 + 2 + 0, none⟩))
      refine env_gen (C := fun a => wpList Tryz.prog _ _ _ a _) S ?_
      clear S; intro a S
      refine wpl_val (v := (.slice oL (sLeases s).length cL)) (ex_load (S.get 95 _ rfl) ⟨by kernel_rfl, by kernel_rfl⟩ _ (box_at B2 rfl)) ?_
      replace S := S.put (by decide : 96 < 167) (.slice oL (sLeases s).length cL)
      refine wpl_val (v := (.int .i64 (sLeases s).length)) (ex_len (by kernel_rfl) (S.get 96 _ rfl) _) ?_
      replace S := S.put (by decide : 97 < 167) (.int .i64 (sLeases s).length)
      refine wpl_val (v := (.bool (decide ((i : Int) < ((sLeases s).length : Int))))) (ex_bin (u := (.int .i64 i)) (v := (.int .i64 (sLeases s).length)) (S.get 93 _ rfl) (S.get 97 _ rfl) _ (run_lss _)) ?_
      replace S := S.put (by decide : 98 < 167) (.bool (decide ((i : Int) < ((sLeases s).length : Int))))
      refine wpl_nil ?_
      by_cases hlt : i < (sLeases s).length
      case neg =>
        rw [decide_eq_false (by omega : ¬ (i : Int) < ((sLeases s).length : Int))] at S ⊢
        have hiR : i = (sLeases s).length := by omega
        refine wp_cond_false (S.get 98 _ rfl) (wp_exit ?_)
        simp only [Exit.then, Exit.inBlock, if_true]
        rw [hiR] at hall
        have q2 := eqR_good l2 hall
        clear hall hiR hlt hin
        replace S := ((S.nil).add (S.get 2 _ rfl)).add (S.get 3 _ rfl)
        refine env_gen (C := fun a => Code.wp Tryz.prog _ _ a _) S ?_
        clear S; intro a S
        refine wp_seq (wp_seq (wp_region_list ?_))
        refine wpl_val (v := (.int .i64 0)) (ex_assign (v := (.int .i64 0)) rfl _) ?_
        replace S := S.put (by decide : 8 < 167) (.int .i64 0)
        refine wpl_nil ?_
        replace S := (((S.nil).add (S.get 2 _ rfl)).add (S.get 3 _ rfl)).add (S.get 8 _ rfl)
        refine env_gen (C := fun a => Code.wp Tryz.prog _ _ a _) S ?_
        clear S; intro a S
        refine wp_block (wp_count (sSess s).length (fun i a W => Env 167 (upd (upd (upd ((fun _ => none)) 2 (.pointer (some ⟨w.heap.size, 0, none⟩))) 3 (.pointer (some ⟨X1.heap.size, 0, none⟩))) 8 (.int .i64 i)) a ∧ allN (eqK eqSess_B (sSess s) (sSess t)) i = true ∧ Below w.heap.size w W ∧ Box W w.heap.size [.slice oP (sPools s).length cP, .slice oB (sBlocks s).length cB, .slice oL (sLeases s).length cL, .int .i64 (sTok s), .int .i64 (sNow s), .slice oS (sSess s).length cS, .int .i64 (sNext s), .int .i64 (sCount s)] ∧ Box W X1.heap.size [.slice oP' (sPools t).length cP', .slice oB' (sBlocks t).length cB', .slice oL' (sLeases t).length cL', .int .i64 (sTok t), .int .i64 (sNow t), .slice oS' (sSess t).length cS', .int .i64 (sNext t), .int .i64 (sCount t)]) ⟨S, rfl, M, B2, B5⟩ ?_)
        clear S M B2 B5
        rintro i a W hin ⟨S, hall, M, B2, B5⟩
        refine wp_seq (wp_seq (wp_region_list ?_))
        refine wpl_val (v := (.int .i64 i)) (ex_move (S.get 8 _ rfl) _) ?_
        replace S := S.put (by decide : 114 < 167) (.int .i64 i)
        refine wpl_val (v := (.pointer (some ⟨w.heap.size, 0 + 5, none⟩))) (ex_field (S.get 2 _ rfl) (by kernel_rfl) _) ?_
        replace S := S.put (by decide : 115 < 167) (.pointer (some ⟨w.heap.size, 0 + 5, none⟩))
        refine env_gen (C := fun a => wpList Tryz.prog _ _ _ a _) S ?_
        clear S; intro a S
        refine wpl_val (v := (.pointer (some ⟨w.heap.size, 0 + 5 + 0, none⟩))) (ex_field (S.get 115 _ rfl) (by kernel_rfl) _) ?_
        replace S := S.put (by decide : 116 < 167) (.pointer (some ⟨w.heap.size, 0 + 5 + 0, none⟩))
        refine wpl_val (v := (.slice oS (sSess s).length cS)) (ex_load (S.get 116 _ rfl) ⟨by kernel_rfl, by kernel_rfl⟩ _ (box_at B2 rfl)) ?_
        replace S := S.put (by decide : 117 < 167) (.slice oS (sSess s).length cS)
        refine wpl_val (v := (.int .i64 (sSess s).length)) (ex_len (by kernel_rfl) (S.get 117 _ rfl) _) ?_
        replace S := S.put (by decide : 118 < 167) (.int .i64 (sSess s).length)
        refine env_gen (C := fun a => wpList Tryz.prog _ _ _ a _) S ?_
        clear S; intro a S
        refine wpl_val (v := (.bool (decide ((i : Int) < ((sSess s).length : Int))))) (ex_bin (u := (.int .i64 i)) (v := (.int .i64 (sSess s).length)) (S.get 114 _ rfl) (S.get 118 _ rfl) _ (run_lss _)) ?_
        replace S := S.put (by decide : 119 < 167) (.bool (decide ((i : Int) < ((sSess s).length : Int))))
        refine wpl_nil ?_
        by_cases hlt : i < (sSess s).length
        case neg =>
          rw [decide_eq_false (by omega : ¬ (i : Int) < ((sSess s).length : Int))] at S ⊢
          have hiR : i = (sSess s).length := by omega
          refine wp_cond_false (S.get 119 _ rfl) (wp_exit ?_)
          simp only [Exit.then, Exit.inBlock, if_true]
          rw [hiR] at hall
          have q3 := eqR_good l3 hall
          clear hall hiR hlt hin
          replace S := ((S.nil).add (S.get 2 _ rfl)).add (S.get 3 _ rfl)
          refine env_gen (C := fun a => Code.wp Tryz.prog _ _ a _) S ?_
          clear S; intro a S
          by_cases hsCount : sCount s = sCount t
          case neg =>
            have eC : (sCount s == sCount t) = false := by simp [hsCount]
            refine wp_seq (wp_region_list ?_)
            refine wpl_val (v := (.pointer (some ⟨w.heap.size, 0 + 7, none⟩))) (ex_field (S.get 2 _ rfl) (by kernel_rfl) _) ?_
            replace S := S.put (by decide : 135 < 167) (.pointer (some ⟨w.heap.size, 0 + 7, none⟩))
            refine wpl_val (v := (.int .i64 (sCount s))) (ex_load (S.get 135 _ rfl) ⟨by kernel_rfl, by kernel_rfl⟩ _ (box_at B2 rfl)) ?_
            replace S := S.put (by decide : 136 < 167) (.int .i64 (sCount s))
            refine env_gen (C := fun a => wpList Tryz.prog _ _ _ a _) S ?_
            clear S; intro a S
            refine wpl_val (v := (.pointer (some ⟨X1.heap.size, 0 + 7, none⟩))) (ex_field (S.get 3 _ rfl) (by kernel_rfl) _) ?_
            replace S := S.put (by decide : 137 < 167) (.pointer (some ⟨X1.heap.size, 0 + 7, none⟩))
            refine wpl_val (v := (.int .i64 (sCount t))) (ex_load (S.get 137 _ rfl) ⟨by kernel_rfl, by kernel_rfl⟩ _ (box_at B5 rfl)) ?_
            replace S := S.put (by decide : 138 < 167) (.int .i64 (sCount t))
            refine wpl_val (v := (.bool false)) (ex_bin (u := (.int .i64 (sCount s))) (v := (.int .i64 (sCount t))) (S.get 136 _ rfl) (S.get 138 _ rfl) _ ((run_eqi _).trans (by rw [eC]))) ?_
            replace S := S.put (by decide : 139 < 167) (.bool false)
            refine env_gen (C := fun a => wpList Tryz.prog _ _ _ a _) S ?_
            clear S; intro a S
            refine wpl_val (v := (.bool false)) (ex_move (S.get 139 _ rfl) _) ?_
            replace S := S.put (by decide : 140 < 167) (.bool false)
            refine env_gen (C := fun a => wpList Tryz.prog _ _ _ a _) S ?_
            clear S; intro a S
            refine wg_skip (wan_no (j := 5) (t := 140) (b := true) (c := false) rfl (S.get 140 _ rfl) (by decide)) ?_
            replace S := S.put (by decide : 141 < 167) undef
            refine env_gen (C := fun a => wpList Tryz.prog _ _ _ a _) S ?_
            clear S; intro a S
            refine wg_skip (wan_no (j := 5) (t := 140) (b := true) (c := false) rfl (S.get 140 _ rfl) (by decide)) ?_
            replace S := S.put (by decide : 142 < 167) undef
            refine env_gen (C := fun a => wpList Tryz.prog _ _ _ a _) S ?_
            clear S; intro a S
            refine wg_skip (wan_no (j := 5) (t := 140) (b := true) (c := false) rfl (S.get 140 _ rfl) (by decide)) ?_
            replace S := S.put (by decide : 143 < 167) undef
            refine env_gen (C := fun a => wpList Tryz.prog _ _ _ a _) S ?_
            clear S; intro a S
            refine wg_skip (wan_no (j := 5) (t := 140) (b := true) (c := false) rfl (S.get 140 _ rfl) (by decide)) ?_
            replace S := S.put (by decide : 144 < 167) undef
            refine env_gen (C := fun a => wpList Tryz.prog _ _ _ a _) S ?_
            clear S; intro a S
            refine wg_skip (wan_no (j := 5) (t := 140) (b := true) (c := false) rfl (S.get 140 _ rfl) (by decide)) ?_
            replace S := S.put (by decide : 145 < 167) undef
            refine env_gen (C := fun a => wpList Tryz.prog _ _ _ a _) S ?_
            clear S; intro a S
            refine wg_skip (wan_no (j := 5) (t := 140) (b := true) (c := false) rfl (S.get 140 _ rfl) (by decide)) ?_
            replace S := S.put (by decide : 146 < 167) undef
            refine env_gen (C := fun a => wpList Tryz.prog _ _ _ a _) S ?_
            clear S; intro a S
            refine wg_skip (wan_no (j := 5) (t := 140) (b := true) (c := false) rfl (S.get 140 _ rfl) (by decide)) ?_
            replace S := S.put (by decide : 147 < 167) undef
            refine wpl_val (v := (.bool false)) (ex_pickF (v := (.bool false)) (S.get 140 _ rfl) rfl _) ?_
            replace S := S.put (by decide : 148 < 167) (.bool false)
            refine wpl_val (v := (.bool false)) (ex_move (S.get 148 _ rfl) _) ?_
            replace S := S.put (by decide : 149 < 167) (.bool false)
            refine env_gen (C := fun a => wpList Tryz.prog _ _ _ a _) S ?_
            clear S; intro a S
            refine wg_skip (wan_no (j := 14) (t := 149) (b := true) (c := false) rfl (S.get 149 _ rfl) (by decide)) ?_
            replace S := S.put (by decide : 150 < 167) undef
            refine env_gen (C := fun a => wpList Tryz.prog _ _ _ a _) S ?_
            clear S; intro a S
            refine wg_skip (wan_no (j := 14) (t := 149) (b := true) (c := false) rfl (S.get 149 _ rfl) (by decide)) ?_
            replace S := S.put (by decide : 151 < 167) undef
            refine env_gen (C := fun a => wpList Tryz.prog _ _ _ a _) S ?_
            clear S; intro a S
            refine wg_skip (wan_no (j := 14) (t := 149) (b := true) (c := false) rfl (S.get 149 _ rfl) (by decide)) ?_
            replace S := S.put (by decide : 152 < 167) undef
            refine env_gen (C := fun a => wpList Tryz.prog _ _ _ a _) S ?_
            clear S; intro a S
            refine wg_skip (wan_no (j := 14) (t := 149) (b := true) (c := false) rfl (S.get 149 _ rfl) (by decide)) ?_
            replace S := S.put (by decide : 153 < 167) undef
            refine env_gen (C := fun a => wpList Tryz.prog _ _ _ a _) S ?_
            clear S; intro a S
            refine wg_skip (wan_no (j := 14) (t := 149) (b := true) (c := false) rfl (S.get 149 _ rfl) (by decide)) ?_
            replace S := S.put (by decide : 154 < 167) undef
            refine env_gen (C := fun a => wpList Tryz.prog _ _ _ a _) S ?_
            clear S; intro a S
            refine wg_skip (wan_no (j := 14) (t := 149) (b := true) (c := false) rfl (S.get 149 _ rfl) (by decide)) ?_
            replace S := S.put (by decide : 155 < 167) undef
            refine env_gen (C := fun a => wpList Tryz.prog _ _ _ a _) S ?_
            clear S; intro a S
            refine wg_skip (wan_no (j := 14) (t := 149) (b := true) (c := false) rfl (S.get 149 _ rfl) (by decide)) ?_
            replace S := S.put (by decide : 156 < 167) undef
            refine env_gen (C := fun a => wpList Tryz.prog _ _ _ a _) S ?_
            clear S; intro a S
            refine wpl_val (v := (.bool false)) (ex_pickF (v := (.bool false)) (S.get 149 _ rfl) rfl _) ?_
            replace S := S.put (by decide : 157 < 167) (.bool false)
            refine wpl_val (v := (.bool false)) (ex_move (S.get 157 _ rfl) _) ?_
            replace S := S.put (by decide : 158 < 167) (.bool false)
            refine env_gen (C := fun a => wpList Tryz.prog _ _ _ a _) S ?_
            clear S; intro a S
            refine wg_skip (wan_no (j := 23) (t := 158) (b := true) (c := false) rfl (S.get 158 _ rfl) (by decide)) ?_
            replace S := S.put (by decide : 159 < 167) undef
            refine env_gen (C := fun a => wpList Tryz.prog _ _ _ a _) S ?_
            clear S; intro a S
            refine wg_skip (wan_no (j := 23) (t := 158) (b := true) (c := false) rfl (S.get 158 _ rfl) (by decide)) ?_
            replace S := S.put (by decide : 160 < 167) undef
            refine env_gen (C := fun a => wpList Tryz.prog _ _ _ a _) S ?_
            clear S; intro a S
            refine wg_skip (wan_no (j := 23) (t := 158) (b := true) (c := false) rfl (S.get 158 _ rfl) (by decide)) ?_
            replace S := S.put (by decide : 161 < 167) undef
            refine env_gen (C := fun a => wpList Tryz.prog _ _ _ a _) S ?_
            clear S; intro a S
            refine wg_skip (wan_no (j := 23) (t := 158) (b := true) (c := false) rfl (S.get 158 _ rfl) (by decide)) ?_
            replace S := S.put (by decide : 162 < 167) undef
            refine env_gen (C := fun a => wpList Tryz.prog _ _ _ a _) S ?_
            clear S; intro a S
            refine wg_skip (wan_no (j := 23) (t := 158) (b := true) (c := false) rfl (S.get 158 _ rfl) (by decide)) ?_
            replace S := S.put (by decide : 163 < 167) undef
            refine env_gen (C := fun a => wpList Tryz.prog _ _ _ a _) S ?_
            clear S; intro a S
            refine wg_skip (wan_no (j := 23) (t := 158) (b := true) (c := false) rfl (S.get 158 _ rfl) (by decide)) ?_
            replace S := S.put (by decide : 164 < 167) undef
            refine env_gen (C := fun a => wpList Tryz.prog _ _ _ a _) S ?_
            clear S; intro a S
            refine wg_skip (wan_no (j := 23) (t := 158) (b := true) (c := false) rfl (S.get 158 _ rfl) (by decide)) ?_
            replace S := S.put (by decide : 165 < 167) undef
            refine wpl_val (v := (.bool false)) (ex_pickF (v := (.bool false)) (S.get 158 _ rfl) rfl _) ?_
            replace S := S.put (by decide : 166 < 167) (.bool false)
            refine env_gen (C := fun a => wpList Tryz.prog _ _ _ a _) S ?_
            clear S; intro a S
            refine wpl_val (v := (.bool false)) (ex_assign (S.get 166 _ rfl) _) ?_
            replace S := S.put (by decide : 4 < 167) (.bool false)
            refine wpl_nil ?_
            refine wp_ret ?_
            exact ret_at (P := Tryz.prog) (fn := Tryz.f15) (R := fun e w' => e = .returned (.bool (sameSt s t)) ∧ Below w.heap.size w w') S rfl rfl ⟨by unfold sameSt; rw [eC]; simp, M⟩
          have eC : (sCount s == sCount t) = true := by simp [hsCount]
          by_cases hsTok : sTok s = sTok t
          case neg =>
            have eT : (sTok s == sTok t) = false := by simp [hsTok]
            refine wp_seq (wp_region_list ?_)
            refine wpl_val (v := (.pointer (some ⟨w.heap.size, 0 + 7, none⟩))) (ex_field (S.get 2 _ rfl) (by kernel_rfl) _) ?_
            replace S := S.put (by decide : 135 < 167) (.pointer (some ⟨w.heap.size, 0 + 7, none⟩))
            refine wpl_val (v := (.int .i64 (sCount s))) (ex_load (S.get 135 _ rfl) ⟨by kernel_rfl, by kernel_rfl⟩ _ (box_at B2 rfl)) ?_
            replace S := S.put (by decide : 136 < 167) (.int .i64 (sCount s))
            refine env_gen (C := fun a => wpList Tryz.prog _ _ _ a _) S ?_
            clear S; intro a S
            refine wpl_val (v := (.pointer (some ⟨X1.heap.size, 0 + 7, none⟩))) (ex_field (S.get 3 _ rfl) (by kernel_rfl) _) ?_
            replace S := S.put (by decide : 137 < 167) (.pointer (some ⟨X1.heap.size, 0 + 7, none⟩))
            refine wpl_val (v := (.int .i64 (sCount t))) (ex_load (S.get 137 _ rfl) ⟨by kernel_rfl, by kernel_rfl⟩ _ (box_at B5 rfl)) ?_
            replace S := S.put (by decide : 138 < 167) (.int .i64 (sCount t))
            refine wpl_val (v := (.bool true)) (ex_bin (u := (.int .i64 (sCount s))) (v := (.int .i64 (sCount t))) (S.get 136 _ rfl) (S.get 138 _ rfl) _ ((run_eqi _).trans (by rw [eC]))) ?_
            replace S := S.put (by decide : 139 < 167) (.bool true)
            refine env_gen (C := fun a => wpList Tryz.prog _ _ _ a _) S ?_
            clear S; intro a S
            refine wpl_val (v := (.bool true)) (ex_move (S.get 139 _ rfl) _) ?_
            replace S := S.put (by decide : 140 < 167) (.bool true)
            refine env_gen (C := fun a => wpList Tryz.prog _ _ _ a _) S ?_
            clear S; intro a S
            refine wg_val (v := (.pointer (some ⟨w.heap.size, 0 + 2, none⟩))) (wan_yes (j := 5) (t := 140) (b := true) rfl (S.get 140 _ rfl) (by rw [S.sz]; decide)) (ex_field (S.get 2 _ rfl) (by kernel_rfl) _) ?_
            replace S := S.put (by decide : 141 < 167) (.pointer (some ⟨w.heap.size, 0 + 2, none⟩))
            refine env_gen (C := fun a => wpList Tryz.prog _ _ _ a _) S ?_
            clear S; intro a S
            refine wg_val (v := (.pointer (some ⟨w.heap.size, 0 + 2 + 1, none⟩))) (wan_yes (j := 5) (t := 140) (b := true) rfl (S.get 140 _ rfl) (by rw [S.sz]; decide)) (ex_field (S.get 141 _ rfl) (by kernel_rfl) _) ?_
            replace S := S.put (by decide : 142 < 167) (.pointer (some ⟨w.heap.size, 0 + 2 + 1, none⟩))
            refine env_gen (C := fun a => wpList Tryz.prog _ _ _ a _) S ?_
            clear S; intro a S
            refine wg_val (v := (.int .i64 (sTok s))) (wan_yes (j := 5) (t := 140) (b := true) rfl (S.get 140 _ rfl) (by rw [S.sz]; decide)) (ex_load (S.get 142 _ rfl) ⟨by kernel_rfl, by kernel_rfl⟩ _ (box_at B2 rfl)) ?_
            replace S := S.put (by decide : 143 < 167) (.int .i64 (sTok s))
            refine env_gen (C := fun a => wpList Tryz.prog _ _ _ a _) S ?_
            clear S; intro a S
            refine wg_val (v := (.pointer (some ⟨X1.heap.size, 0 + 2, none⟩))) (wan_yes (j := 5) (t := 140) (b := true) rfl (S.get 140 _ rfl) (by rw [S.sz]; decide)) (ex_field (S.get 3 _ rfl) (by kernel_rfl) _) ?_
            replace S := S.put (by decide : 144 < 167) (.pointer (some ⟨X1.heap.size, 0 + 2, none⟩))
            refine env_gen (C := fun a => wpList Tryz.prog _ _ _ a _) S ?_
            clear S; intro a S
            refine wg_val (v := (.pointer (some ⟨X1.heap.size, 0 + 2 + 1, none⟩))) (wan_yes (j := 5) (t := 140) (b := true) rfl (S.get 140 _ rfl) (by rw [S.sz]; decide)) (ex_field (S.get 144 _ rfl) (by kernel_rfl) _) ?_
            replace S := S.put (by decide : 145 < 167) (.pointer (some ⟨X1.heap.size, 0 + 2 + 1, none⟩))
            refine env_gen (C := fun a => wpList Tryz.prog _ _ _ a _) S ?_
            clear S; intro a S
            refine wg_val (v := (.int .i64 (sTok t))) (wan_yes (j := 5) (t := 140) (b := true) rfl (S.get 140 _ rfl) (by rw [S.sz]; decide)) (ex_load (S.get 145 _ rfl) ⟨by kernel_rfl, by kernel_rfl⟩ _ (box_at B5 rfl)) ?_
            replace S := S.put (by decide : 146 < 167) (.int .i64 (sTok t))
            refine env_gen (C := fun a => wpList Tryz.prog _ _ _ a _) S ?_
            clear S; intro a S
            refine wg_val (v := (.bool false)) (wan_yes (j := 5) (t := 140) (b := true) rfl (S.get 140 _ rfl) (by rw [S.sz]; decide)) (ex_bin (u := (.int .i64 (sTok s))) (v := (.int .i64 (sTok t))) (S.get 143 _ rfl) (S.get 146 _ rfl) _ ((run_eqi _).trans (by rw [eT]))) ?_
            replace S := S.put (by decide : 147 < 167) (.bool false)
            refine wpl_val (v := (.bool false)) (ex_pickT (v := (.bool false)) (S.get 140 _ rfl) (S.get 147 _ rfl) _) ?_
            replace S := S.put (by decide : 148 < 167) (.bool false)
            refine wpl_val (v := (.bool false)) (ex_move (S.get 148 _ rfl) _) ?_
            replace S := S.put (by decide : 149 < 167) (.bool false)
            refine env_gen (C := fun a => wpList Tryz.prog _ _ _ a _) S ?_
            clear S; intro a S
            refine wg_skip (wan_no (j := 14) (t := 149) (b := true) (c := false) rfl (S.get 149 _ rfl) (by decide)) ?_
            replace S := S.put (by decide : 150 < 167) undef
            refine env_gen (C := fun a => wpList Tryz.prog _ _ _ a _) S ?_
            clear S; intro a S
            refine wg_skip (wan_no (j := 14) (t := 149) (b := true) (c := false) rfl (S.get 149 _ rfl) (by decide)) ?_
            replace S := S.put (by decide : 151 < 167) undef
            refine env_gen (C := fun a => wpList Tryz.prog _ _ _ a _) S ?_
            clear S; intro a S
            refine wg_skip (wan_no (j := 14) (t := 149) (b := true) (c := false) rfl (S.get 149 _ rfl) (by decide)) ?_
            replace S := S.put (by decide : 152 < 167) undef
            refine env_gen (C := fun a => wpList Tryz.prog _ _ _ a _) S ?_
            clear S; intro a S
            refine wg_skip (wan_no (j := 14) (t := 149) (b := true) (c := false) rfl (S.get 149 _ rfl) (by decide)) ?_
            replace S := S.put (by decide : 153 < 167) undef
            refine env_gen (C := fun a => wpList Tryz.prog _ _ _ a _) S ?_
            clear S; intro a S
            refine wg_skip (wan_no (j := 14) (t := 149) (b := true) (c := false) rfl (S.get 149 _ rfl) (by decide)) ?_
            replace S := S.put (by decide : 154 < 167) undef
            refine env_gen (C := fun a => wpList Tryz.prog _ _ _ a _) S ?_
            clear S; intro a S
            refine wg_skip (wan_no (j := 14) (t := 149) (b := true) (c := false) rfl (S.get 149 _ rfl) (by decide)) ?_
            replace S := S.put (by decide : 155 < 167) undef
            refine env_gen (C := fun a => wpList Tryz.prog _ _ _ a _) S ?_
            clear S; intro a S
            refine wg_skip (wan_no (j := 14) (t := 149) (b := true) (c := false) rfl (S.get 149 _ rfl) (by decide)) ?_
            replace S := S.put (by decide : 156 < 167) undef
            refine env_gen (C := fun a => wpList Tryz.prog _ _ _ a _) S ?_
            clear S; intro a S
            refine wpl_val (v := (.bool false)) (ex_pickF (v := (.bool false)) (S.get 149 _ rfl) rfl _) ?_
            replace S := S.put (by decide : 157 < 167) (.bool false)
            refine wpl_val (v := (.bool false)) (ex_move (S.get 157 _ rfl) _) ?_
            replace S := S.put (by decide : 158 < 167) (.bool false)
            refine env_gen (C := fun a => wpList Tryz.prog _ _ _ a _) S ?_
            clear S; intro a S
            refine wg_skip (wan_no (j := 23) (t := 158) (b := true) (c := false) rfl (S.get 158 _ rfl) (by decide)) ?_
            replace S := S.put (by decide : 159 < 167) undef
            refine env_gen (C := fun a => wpList Tryz.prog _ _ _ a _) S ?_
            clear S; intro a S
            refine wg_skip (wan_no (j := 23) (t := 158) (b := true) (c := false) rfl (S.get 158 _ rfl) (by decide)) ?_
            replace S := S.put (by decide : 160 < 167) undef
            refine env_gen (C := fun a => wpList Tryz.prog _ _ _ a _) S ?_
            clear S; intro a S
            refine wg_skip (wan_no (j := 23) (t := 158) (b := true) (c := false) rfl (S.get 158 _ rfl) (by decide)) ?_
            replace S := S.put (by decide : 161 < 167) undef
            refine env_gen (C := fun a => wpList Tryz.prog _ _ _ a _) S ?_
            clear S; intro a S
            refine wg_skip (wan_no (j := 23) (t := 158) (b := true) (c := false) rfl (S.get 158 _ rfl) (by decide)) ?_
            replace S := S.put (by decide : 162 < 167) undef
            refine env_gen (C := fun a => wpList Tryz.prog _ _ _ a _) S ?_
            clear S; intro a S
            refine wg_skip (wan_no (j := 23) (t := 158) (b := true) (c := false) rfl (S.get 158 _ rfl) (by decide)) ?_
            replace S := S.put (by decide : 163 < 167) undef
            refine env_gen (C := fun a => wpList Tryz.prog _ _ _ a _) S ?_
            clear S; intro a S
            refine wg_skip (wan_no (j := 23) (t := 158) (b := true) (c := false) rfl (S.get 158 _ rfl) (by decide)) ?_
            replace S := S.put (by decide : 164 < 167) undef
            refine env_gen (C := fun a => wpList Tryz.prog _ _ _ a _) S ?_
            clear S; intro a S
            refine wg_skip (wan_no (j := 23) (t := 158) (b := true) (c := false) rfl (S.get 158 _ rfl) (by decide)) ?_
            replace S := S.put (by decide : 165 < 167) undef
            refine wpl_val (v := (.bool false)) (ex_pickF (v := (.bool false)) (S.get 158 _ rfl) rfl _) ?_
            replace S := S.put (by decide : 166 < 167) (.bool false)
            refine env_gen (C := fun a => wpList Tryz.prog _ _ _ a _) S ?_
            clear S; intro a S
            refine wpl_val (v := (.bool false)) (ex_assign (S.get 166 _ rfl) _) ?_
            replace S := S.put (by decide : 4 < 167) (.bool false)
            refine wpl_nil ?_
            refine wp_ret ?_
            exact ret_at (P := Tryz.prog) (fn := Tryz.f15) (R := fun e w' => e = .returned (.bool (sameSt s t)) ∧ Below w.heap.size w w') S rfl rfl ⟨by unfold sameSt bookE; rw [eT]; simp, M⟩
          have eT : (sTok s == sTok t) = true := by simp [hsTok]
          by_cases hsNow : sNow s = sNow t
          case neg =>
            have eN : (sNow s == sNow t) = false := by simp [hsNow]
            refine wp_seq (wp_region_list ?_)
            refine wpl_val (v := (.pointer (some ⟨w.heap.size, 0 + 7, none⟩))) (ex_field (S.get 2 _ rfl) (by kernel_rfl) _) ?_
            replace S := S.put (by decide : 135 < 167) (.pointer (some ⟨w.heap.size, 0 + 7, none⟩))
            refine wpl_val (v := (.int .i64 (sCount s))) (ex_load (S.get 135 _ rfl) ⟨by kernel_rfl, by kernel_rfl⟩ _ (box_at B2 rfl)) ?_
            replace S := S.put (by decide : 136 < 167) (.int .i64 (sCount s))
            refine env_gen (C := fun a => wpList Tryz.prog _ _ _ a _) S ?_
            clear S; intro a S
            refine wpl_val (v := (.pointer (some ⟨X1.heap.size, 0 + 7, none⟩))) (ex_field (S.get 3 _ rfl) (by kernel_rfl) _) ?_
            replace S := S.put (by decide : 137 < 167) (.pointer (some ⟨X1.heap.size, 0 + 7, none⟩))
            refine wpl_val (v := (.int .i64 (sCount t))) (ex_load (S.get 137 _ rfl) ⟨by kernel_rfl, by kernel_rfl⟩ _ (box_at B5 rfl)) ?_
            replace S := S.put (by decide : 138 < 167) (.int .i64 (sCount t))
            refine wpl_val (v := (.bool true)) (ex_bin (u := (.int .i64 (sCount s))) (v := (.int .i64 (sCount t))) (S.get 136 _ rfl) (S.get 138 _ rfl) _ ((run_eqi _).trans (by rw [eC]))) ?_
            replace S := S.put (by decide : 139 < 167) (.bool true)
            refine env_gen (C := fun a => wpList Tryz.prog _ _ _ a _) S ?_
            clear S; intro a S
            refine wpl_val (v := (.bool true)) (ex_move (S.get 139 _ rfl) _) ?_
            replace S := S.put (by decide : 140 < 167) (.bool true)
            refine env_gen (C := fun a => wpList Tryz.prog _ _ _ a _) S ?_
            clear S; intro a S
            refine wg_val (v := (.pointer (some ⟨w.heap.size, 0 + 2, none⟩))) (wan_yes (j := 5) (t := 140) (b := true) rfl (S.get 140 _ rfl) (by rw [S.sz]; decide)) (ex_field (S.get 2 _ rfl) (by kernel_rfl) _) ?_
            replace S := S.put (by decide : 141 < 167) (.pointer (some ⟨w.heap.size, 0 + 2, none⟩))
            refine env_gen (C := fun a => wpList Tryz.prog _ _ _ a _) S ?_
            clear S; intro a S
            refine wg_val (v := (.pointer (some ⟨w.heap.size, 0 + 2 + 1, none⟩))) (wan_yes (j := 5) (t := 140) (b := true) rfl (S.get 140 _ rfl) (by rw [S.sz]; decide)) (ex_field (S.get 141 _ rfl) (by kernel_rfl) _) ?_
            replace S := S.put (by decide : 142 < 167) (.pointer (some ⟨w.heap.size, 0 + 2 + 1, none⟩))
            refine env_gen (C := fun a => wpList Tryz.prog _ _ _ a _) S ?_
            clear S; intro a S
            refine wg_val (v := (.int .i64 (sTok s))) (wan_yes (j := 5) (t := 140) (b := true) rfl (S.get 140 _ rfl) (by rw [S.sz]; decide)) (ex_load (S.get 142 _ rfl) ⟨by kernel_rfl, by kernel_rfl⟩ _ (box_at B2 rfl)) ?_
            replace S := S.put (by decide : 143 < 167) (.int .i64 (sTok s))
            refine env_gen (C := fun a => wpList Tryz.prog _ _ _ a _) S ?_
            clear S; intro a S
            refine wg_val (v := (.pointer (some ⟨X1.heap.size, 0 + 2, none⟩))) (wan_yes (j := 5) (t := 140) (b := true) rfl (S.get 140 _ rfl) (by rw [S.sz]; decide)) (ex_field (S.get 3 _ rfl) (by kernel_rfl) _) ?_
            replace S := S.put (by decide : 144 < 167) (.pointer (some ⟨X1.heap.size, 0 + 2, none⟩))
            refine env_gen (C := fun a => wpList Tryz.prog _ _ _ a _) S ?_
            clear S; intro a S
            refine wg_val (v := (.pointer (some ⟨X1.heap.size, 0 + 2 + 1, none⟩))) (wan_yes (j := 5) (t := 140) (b := true) rfl (S.get 140 _ rfl) (by rw [S.sz]; decide)) (ex_field (S.get 144 _ rfl) (by kernel_rfl) _) ?_
            replace S := S.put (by decide : 145 < 167) (.pointer (some ⟨X1.heap.size, 0 + 2 + 1, none⟩))
            refine env_gen (C := fun a => wpList Tryz.prog _ _ _ a _) S ?_
            clear S; intro a S
            refine wg_val (v := (.int .i64 (sTok t))) (wan_yes (j := 5) (t := 140) (b := true) rfl (S.get 140 _ rfl) (by rw [S.sz]; decide)) (ex_load (S.get 145 _ rfl) ⟨by kernel_rfl, by kernel_rfl⟩ _ (box_at B5 rfl)) ?_
            replace S := S.put (by decide : 146 < 167) (.int .i64 (sTok t))
            refine env_gen (C := fun a => wpList Tryz.prog _ _ _ a _) S ?_
            clear S; intro a S
            refine wg_val (v := (.bool true)) (wan_yes (j := 5) (t := 140) (b := true) rfl (S.get 140 _ rfl) (by rw [S.sz]; decide)) (ex_bin (u := (.int .i64 (sTok s))) (v := (.int .i64 (sTok t))) (S.get 143 _ rfl) (S.get 146 _ rfl) _ ((run_eqi _).trans (by rw [eT]))) ?_
            replace S := S.put (by decide : 147 < 167) (.bool true)
            refine wpl_val (v := (.bool true)) (ex_pickT (v := (.bool true)) (S.get 140 _ rfl) (S.get 147 _ rfl) _) ?_
            replace S := S.put (by decide : 148 < 167) (.bool true)
            refine wpl_val (v := (.bool true)) (ex_move (S.get 148 _ rfl) _) ?_
            replace S := S.put (by decide : 149 < 167) (.bool true)
            refine env_gen (C := fun a => wpList Tryz.prog _ _ _ a _) S ?_
            clear S; intro a S
            refine wg_val (v := (.pointer (some ⟨w.heap.size, 0 + 2, none⟩))) (wan_yes (j := 14) (t := 149) (b := true) rfl (S.get 149 _ rfl) (by rw [S.sz]; decide)) (ex_field (S.get 2 _ rfl) (by kernel_rfl) _) ?_
            replace S := S.put (by decide : 150 < 167) (.pointer (some ⟨w.heap.size, 0 + 2, none⟩))
            refine env_gen (C := fun a => wpList Tryz.prog _ _ _ a _) S ?_
            clear S; intro a S
            refine wg_val (v := (.pointer (some ⟨w.heap.size, 0 + 2 + 2, none⟩))) (wan_yes (j := 14) (t := 149) (b := true) rfl (S.get 149 _ rfl) (by rw [S.sz]; decide)) (ex_field (S.get 150 _ rfl) (by kernel_rfl) _) ?_
            replace S := S.put (by decide : 151 < 167) (.pointer (some ⟨w.heap.size, 0 + 2 + 2, none⟩))
            refine env_gen (C := fun a => wpList Tryz.prog _ _ _ a _) S ?_
            clear S; intro a S
            refine wg_val (v := (.int .i64 (sNow s))) (wan_yes (j := 14) (t := 149) (b := true) rfl (S.get 149 _ rfl) (by rw [S.sz]; decide)) (ex_load (S.get 151 _ rfl) ⟨by kernel_rfl, by kernel_rfl⟩ _ (box_at B2 rfl)) ?_
            replace S := S.put (by decide : 152 < 167) (.int .i64 (sNow s))
            refine env_gen (C := fun a => wpList Tryz.prog _ _ _ a _) S ?_
            clear S; intro a S
            refine wg_val (v := (.pointer (some ⟨X1.heap.size, 0 + 2, none⟩))) (wan_yes (j := 14) (t := 149) (b := true) rfl (S.get 149 _ rfl) (by rw [S.sz]; decide)) (ex_field (S.get 3 _ rfl) (by kernel_rfl) _) ?_
            replace S := S.put (by decide : 153 < 167) (.pointer (some ⟨X1.heap.size, 0 + 2, none⟩))
            refine env_gen (C := fun a => wpList Tryz.prog _ _ _ a _) S ?_
            clear S; intro a S
            refine wg_val (v := (.pointer (some ⟨X1.heap.size, 0 + 2 + 2, none⟩))) (wan_yes (j := 14) (t := 149) (b := true) rfl (S.get 149 _ rfl) (by rw [S.sz]; decide)) (ex_field (S.get 153 _ rfl) (by kernel_rfl) _) ?_
            replace S := S.put (by decide : 154 < 167) (.pointer (some ⟨X1.heap.size, 0 + 2 + 2, none⟩))
            refine env_gen (C := fun a => wpList Tryz.prog _ _ _ a _) S ?_
            clear S; intro a S
            refine wg_val (v := (.int .i64 (sNow t))) (wan_yes (j := 14) (t := 149) (b := true) rfl (S.get 149 _ rfl) (by rw [S.sz]; decide)) (ex_load (S.get 154 _ rfl) ⟨by kernel_rfl, by kernel_rfl⟩ _ (box_at B5 rfl)) ?_
            replace S := S.put (by decide : 155 < 167) (.int .i64 (sNow t))
            refine env_gen (C := fun a => wpList Tryz.prog _ _ _ a _) S ?_
            clear S; intro a S
            refine wg_val (v := (.bool false)) (wan_yes (j := 14) (t := 149) (b := true) rfl (S.get 149 _ rfl) (by rw [S.sz]; decide)) (ex_bin (u := (.int .i64 (sNow s))) (v := (.int .i64 (sNow t))) (S.get 152 _ rfl) (S.get 155 _ rfl) _ ((run_eqi _).trans (by rw [eN]))) ?_
            replace S := S.put (by decide : 156 < 167) (.bool false)
            refine env_gen (C := fun a => wpList Tryz.prog _ _ _ a _) S ?_
            clear S; intro a S
            refine wpl_val (v := (.bool false)) (ex_pickT (v := (.bool false)) (S.get 149 _ rfl) (S.get 156 _ rfl) _) ?_
            replace S := S.put (by decide : 157 < 167) (.bool false)
            refine wpl_val (v := (.bool false)) (ex_move (S.get 157 _ rfl) _) ?_
            replace S := S.put (by decide : 158 < 167) (.bool false)
            refine env_gen (C := fun a => wpList Tryz.prog _ _ _ a _) S ?_
            clear S; intro a S
            refine wg_skip (wan_no (j := 23) (t := 158) (b := true) (c := false) rfl (S.get 158 _ rfl) (by decide)) ?_
            replace S := S.put (by decide : 159 < 167) undef
            refine env_gen (C := fun a => wpList Tryz.prog _ _ _ a _) S ?_
            clear S; intro a S
            refine wg_skip (wan_no (j := 23) (t := 158) (b := true) (c := false) rfl (S.get 158 _ rfl) (by decide)) ?_
            replace S := S.put (by decide : 160 < 167) undef
            refine env_gen (C := fun a => wpList Tryz.prog _ _ _ a _) S ?_
            clear S; intro a S
            refine wg_skip (wan_no (j := 23) (t := 158) (b := true) (c := false) rfl (S.get 158 _ rfl) (by decide)) ?_
            replace S := S.put (by decide : 161 < 167) undef
            refine env_gen (C := fun a => wpList Tryz.prog _ _ _ a _) S ?_
            clear S; intro a S
            refine wg_skip (wan_no (j := 23) (t := 158) (b := true) (c := false) rfl (S.get 158 _ rfl) (by decide)) ?_
            replace S := S.put (by decide : 162 < 167) undef
            refine env_gen (C := fun a => wpList Tryz.prog _ _ _ a _) S ?_
            clear S; intro a S
            refine wg_skip (wan_no (j := 23) (t := 158) (b := true) (c := false) rfl (S.get 158 _ rfl) (by decide)) ?_
            replace S := S.put (by decide : 163 < 167) undef
            refine env_gen (C := fun a => wpList Tryz.prog _ _ _ a _) S ?_
            clear S; intro a S
            refine wg_skip (wan_no (j := 23) (t := 158) (b := true) (c := false) rfl (S.get 158 _ rfl) (by decide)) ?_
            replace S := S.put (by decide : 164 < 167) undef
            refine env_gen (C := fun a => wpList Tryz.prog _ _ _ a _) S ?_
            clear S; intro a S
            refine wg_skip (wan_no (j := 23) (t := 158) (b := true) (c := false) rfl (S.get 158 _ rfl) (by decide)) ?_
            replace S := S.put (by decide : 165 < 167) undef
            refine wpl_val (v := (.bool false)) (ex_pickF (v := (.bool false)) (S.get 158 _ rfl) rfl _) ?_
            replace S := S.put (by decide : 166 < 167) (.bool false)
            refine env_gen (C := fun a => wpList Tryz.prog _ _ _ a _) S ?_
            clear S; intro a S
            refine wpl_val (v := (.bool false)) (ex_assign (S.get 166 _ rfl) _) ?_
            replace S := S.put (by decide : 4 < 167) (.bool false)
            refine wpl_nil ?_
            refine wp_ret ?_
            exact ret_at (P := Tryz.prog) (fn := Tryz.f15) (R := fun e w' => e = .returned (.bool (sameSt s t)) ∧ Below w.heap.size w w') S rfl rfl ⟨by unfold sameSt bookE; rw [eN]; simp, M⟩
          have eN : (sNow s == sNow t) = true := by simp [hsNow]
          refine wp_seq (wp_region_list ?_)
          refine wpl_val (v := (.pointer (some ⟨w.heap.size, 0 + 7, none⟩))) (ex_field (S.get 2 _ rfl) (by kernel_rfl) _) ?_
          replace S := S.put (by decide : 135 < 167) (.pointer (some ⟨w.heap.size, 0 + 7, none⟩))
          refine wpl_val (v := (.int .i64 (sCount s))) (ex_load (S.get 135 _ rfl) ⟨by kernel_rfl, by kernel_rfl⟩ _ (box_at B2 rfl)) ?_
          replace S := S.put (by decide : 136 < 167) (.int .i64 (sCount s))
          refine env_gen (C := fun a => wpList Tryz.prog _ _ _ a _) S ?_
          clear S; intro a S
          refine wpl_val (v := (.pointer (some ⟨X1.heap.size, 0 + 7, none⟩))) (ex_field (S.get 3 _ rfl) (by kernel_rfl) _) ?_
          replace S := S.put (by decide : 137 < 167) (.pointer (some ⟨X1.heap.size, 0 + 7, none⟩))
          refine wpl_val (v := (.int .i64 (sCount t))) (ex_load (S.get 137 _ rfl) ⟨by kernel_rfl, by kernel_rfl⟩ _ (box_at B5 rfl)) ?_
          replace S := S.put (by decide : 138 < 167) (.int .i64 (sCount t))
          refine wpl_val (v := (.bool true)) (ex_bin (u := (.int .i64 (sCount s))) (v := (.int .i64 (sCount t))) (S.get 136 _ rfl) (S.get 138 _ rfl) _ ((run_eqi _).trans (by rw [eC]))) ?_
          replace S := S.put (by decide : 139 < 167) (.bool true)
          refine env_gen (C := fun a => wpList Tryz.prog _ _ _ a _) S ?_
          clear S; intro a S
          refine wpl_val (v := (.bool true)) (ex_move (S.get 139 _ rfl) _) ?_
          replace S := S.put (by decide : 140 < 167) (.bool true)
          refine env_gen (C := fun a => wpList Tryz.prog _ _ _ a _) S ?_
          clear S; intro a S
          refine wg_val (v := (.pointer (some ⟨w.heap.size, 0 + 2, none⟩))) (wan_yes (j := 5) (t := 140) (b := true) rfl (S.get 140 _ rfl) (by rw [S.sz]; decide)) (ex_field (S.get 2 _ rfl) (by kernel_rfl) _) ?_
          replace S := S.put (by decide : 141 < 167) (.pointer (some ⟨w.heap.size, 0 + 2, none⟩))
          refine env_gen (C := fun a => wpList Tryz.prog _ _ _ a _) S ?_
          clear S; intro a S
          refine wg_val (v := (.pointer (some ⟨w.heap.size, 0 + 2 + 1, none⟩))) (wan_yes (j := 5) (t := 140) (b := true) rfl (S.get 140 _ rfl) (by rw [S.sz]; decide)) (ex_field (S.get 141 _ rfl) (by kernel_rfl) _) ?_
          replace S := S.put (by decide : 142 < 167) (.pointer (some ⟨w.heap.size, 0 + 2 + 1, none⟩))
          refine env_gen (C := fun a => wpList Tryz.prog _ _ _ a _) S ?_
          clear S; intro a S
          refine wg_val (v := (.int .i64 (sTok s))) (wan_yes (j := 5) (t := 140) (b := true) rfl (S.get 140 _ rfl) (by rw [S.sz]; decide)) (ex_load (S.get 142 _ rfl) ⟨by kernel_rfl, by kernel_rfl⟩ _ (box_at B2 rfl)) ?_
          replace S := S.put (by decide : 143 < 167) (.int .i64 (sTok s))
          refine env_gen (C := fun a => wpList Tryz.prog _ _ _ a _) S ?_
          clear S; intro a S
          refine wg_val (v := (.pointer (some ⟨X1.heap.size, 0 + 2, none⟩))) (wan_yes (j := 5) (t := 140) (b := true) rfl (S.get 140 _ rfl) (by rw [S.sz]; decide)) (ex_field (S.get 3 _ rfl) (by kernel_rfl) _) ?_
          replace S := S.put (by decide : 144 < 167) (.pointer (some ⟨X1.heap.size, 0 + 2, none⟩))
          refine env_gen (C := fun a => wpList Tryz.prog _ _ _ a _) S ?_
          clear S; intro a S
          refine wg_val (v := (.pointer (some ⟨X1.heap.size, 0 + 2 + 1, none⟩))) (wan_yes (j := 5) (t := 140) (b := true) rfl (S.get 140 _ rfl) (by rw [S.sz]; decide)) (ex_field (S.get 144 _ rfl) (by kernel_rfl) _) ?_
          replace S := S.put (by decide : 145 < 167) (.pointer (some ⟨X1.heap.size, 0 + 2 + 1, none⟩))
          refine env_gen (C := fun a => wpList Tryz.prog _ _ _ a _) S ?_
          clear S; intro a S
          refine wg_val (v := (.int .i64 (sTok t))) (wan_yes (j := 5) (t := 140) (b := true) rfl (S.get 140 _ rfl) (by rw [S.sz]; decide)) (ex_load (S.get 145 _ rfl) ⟨by kernel_rfl, by kernel_rfl⟩ _ (box_at B5 rfl)) ?_
          replace S := S.put (by decide : 146 < 167) (.int .i64 (sTok t))
          refine env_gen (C := fun a => wpList Tryz.prog _ _ _ a _) S ?_
          clear S; intro a S
          refine wg_val (v := (.bool true)) (wan_yes (j := 5) (t := 140) (b := true) rfl (S.get 140 _ rfl) (by rw [S.sz]; decide)) (ex_bin (u := (.int .i64 (sTok s))) (v := (.int .i64 (sTok t))) (S.get 143 _ rfl) (S.get 146 _ rfl) _ ((run_eqi _).trans (by rw [eT]))) ?_
          replace S := S.put (by decide : 147 < 167) (.bool true)
          refine wpl_val (v := (.bool true)) (ex_pickT (v := (.bool true)) (S.get 140 _ rfl) (S.get 147 _ rfl) _) ?_
          replace S := S.put (by decide : 148 < 167) (.bool true)
          refine wpl_val (v := (.bool true)) (ex_move (S.get 148 _ rfl) _) ?_
          replace S := S.put (by decide : 149 < 167) (.bool true)
          refine env_gen (C := fun a => wpList Tryz.prog _ _ _ a _) S ?_
          clear S; intro a S
          refine wg_val (v := (.pointer (some ⟨w.heap.size, 0 + 2, none⟩))) (wan_yes (j := 14) (t := 149) (b := true) rfl (S.get 149 _ rfl) (by rw [S.sz]; decide)) (ex_field (S.get 2 _ rfl) (by kernel_rfl) _) ?_
          replace S := S.put (by decide : 150 < 167) (.pointer (some ⟨w.heap.size, 0 + 2, none⟩))
          refine env_gen (C := fun a => wpList Tryz.prog _ _ _ a _) S ?_
          clear S; intro a S
          refine wg_val (v := (.pointer (some ⟨w.heap.size, 0 + 2 + 2, none⟩))) (wan_yes (j := 14) (t := 149) (b := true) rfl (S.get 149 _ rfl) (by rw [S.sz]; decide)) (ex_field (S.get 150 _ rfl) (by kernel_rfl) _) ?_
          replace S := S.put (by decide : 151 < 167) (.pointer (some ⟨w.heap.size, 0 + 2 + 2, none⟩))
          refine env_gen (C := fun a => wpList Tryz.prog _ _ _ a _) S ?_
          clear S; intro a S
          refine wg_val (v := (.int .i64 (sNow s))) (wan_yes (j := 14) (t := 149) (b := true) rfl (S.get 149 _ rfl) (by rw [S.sz]; decide)) (ex_load (S.get 151 _ rfl) ⟨by kernel_rfl, by kernel_rfl⟩ _ (box_at B2 rfl)) ?_
          replace S := S.put (by decide : 152 < 167) (.int .i64 (sNow s))
          refine env_gen (C := fun a => wpList Tryz.prog _ _ _ a _) S ?_
          clear S; intro a S
          refine wg_val (v := (.pointer (some ⟨X1.heap.size, 0 + 2, none⟩))) (wan_yes (j := 14) (t := 149) (b := true) rfl (S.get 149 _ rfl) (by rw [S.sz]; decide)) (ex_field (S.get 3 _ rfl) (by kernel_rfl) _) ?_
          replace S := S.put (by decide : 153 < 167) (.pointer (some ⟨X1.heap.size, 0 + 2, none⟩))
          refine env_gen (C := fun a => wpList Tryz.prog _ _ _ a _) S ?_
          clear S; intro a S
          refine wg_val (v := (.pointer (some ⟨X1.heap.size, 0 + 2 + 2, none⟩))) (wan_yes (j := 14) (t := 149) (b := true) rfl (S.get 149 _ rfl) (by rw [S.sz]; decide)) (ex_field (S.get 153 _ rfl) (by kernel_rfl) _) ?_
          replace S := S.put (by decide : 154 < 167) (.pointer (some ⟨X1.heap.size, 0 + 2 + 2, none⟩))
          refine env_gen (C := fun a => wpList Tryz.prog _ _ _ a _) S ?_
          clear S; intro a S
          refine wg_val (v := (.int .i64 (sNow t))) (wan_yes (j := 14) (t := 149) (b := true) rfl (S.get 149 _ rfl) (by rw [S.sz]; decide)) (ex_load (S.get 154 _ rfl) ⟨by kernel_rfl, by kernel_rfl⟩ _ (box_at B5 rfl)) ?_
          replace S := S.put (by decide : 155 < 167) (.int .i64 (sNow t))
          refine env_gen (C := fun a => wpList Tryz.prog _ _ _ a _) S ?_
          clear S; intro a S
          refine wg_val (v := (.bool true)) (wan_yes (j := 14) (t := 149) (b := true) rfl (S.get 149 _ rfl) (by rw [S.sz]; decide)) (ex_bin (u := (.int .i64 (sNow s))) (v := (.int .i64 (sNow t))) (S.get 152 _ rfl) (S.get 155 _ rfl) _ ((run_eqi _).trans (by rw [eN]))) ?_
          replace S := S.put (by decide : 156 < 167) (.bool true)
          refine env_gen (C := fun a => wpList Tryz.prog _ _ _ a _) S ?_
          clear S; intro a S
          refine wpl_val (v := (.bool true)) (ex_pickT (v := (.bool true)) (S.get 149 _ rfl) (S.get 156 _ rfl) _) ?_
          replace S := S.put (by decide : 157 < 167) (.bool true)
          refine wpl_val (v := (.bool true)) (ex_move (S.get 157 _ rfl) _) ?_
          replace S := S.put (by decide : 158 < 167) (.bool true)
          refine env_gen (C := fun a => wpList Tryz.prog _ _ _ a _) S ?_
          clear S; intro a S
          refine wg_val (v := (.pointer (some ⟨w.heap.size, 0 + 5, none⟩))) (wan_yes (j := 23) (t := 158) (b := true) rfl (S.get 158 _ rfl) (by rw [S.sz]; decide)) (ex_field (S.get 2 _ rfl) (by kernel_rfl) _) ?_
          replace S := S.put (by decide : 159 < 167) (.pointer (some ⟨w.heap.size, 0 + 5, none⟩))
          refine env_gen (C := fun a => wpList Tryz.prog _ _ _ a _) S ?_
          clear S; intro a S
          refine wg_val (v := (.pointer (some ⟨w.heap.size, 0 + 5 + 1, none⟩))) (wan_yes (j := 23) (t := 158) (b := true) rfl (S.get 158 _ rfl) (by rw [S.sz]; decide)) (ex_field (S.get 159 _ rfl) (by kernel_rfl) _) ?_
          replace S := S.put (by decide : 160 < 167) (.pointer (some ⟨w.heap.size, 0 + 5 + 1, none⟩))
          refine env_gen (C := fun a => wpList Tryz.prog _ _ _ a _) S ?_
          clear S; intro a S
          refine wg_val (v := (.int .i64 (sNext s))) (wan_yes (j := 23) (t := 158) (b := true) rfl (S.get 158 _ rfl) (by rw [S.sz]; decide)) (ex_load (S.get 160 _ rfl) ⟨by kernel_rfl, by kernel_rfl⟩ _ (box_at B2 rfl)) ?_
          replace S := S.put (by decide : 161 < 167) (.int .i64 (sNext s))
          refine env_gen (C := fun a => wpList Tryz.prog _ _ _ a _) S ?_
          clear S; intro a S
          refine wg_val (v := (.pointer (some ⟨X1.heap.size, 0 + 5, none⟩))) (wan_yes (j := 23) (t := 158) (b := true) rfl (S.get 158 _ rfl) (by rw [S.sz]; decide)) (ex_field (S.get 3 _ rfl) (by kernel_rfl) _) ?_
          replace S := S.put (by decide : 162 < 167) (.pointer (some ⟨X1.heap.size, 0 + 5, none⟩))
          refine env_gen (C := fun a => wpList Tryz.prog _ _ _ a _) S ?_
          clear S; intro a S
          refine wg_val (v := (.pointer (some ⟨X1.heap.size, 0 + 5 + 1, none⟩))) (wan_yes (j := 23) (t := 158) (b := true) rfl (S.get 158 _ rfl) (by rw [S.sz]; decide)) (ex_field (S.get 162 _ rfl) (by kernel_rfl) _) ?_
          replace S := S.put (by decide : 163 < 167) (.pointer (some ⟨X1.heap.size, 0 + 5 + 1, none⟩))
          refine env_gen (C := fun a => wpList Tryz.prog _ _ _ a _) S ?_
          clear S; intro a S
          refine wg_val (v := (.int .i64 (sNext t))) (wan_yes (j := 23) (t := 158) (b := true) rfl (S.get 158 _ rfl) (by rw [S.sz]; decide)) (ex_load (S.get 163 _ rfl) ⟨by kernel_rfl, by kernel_rfl⟩ _ (box_at B5 rfl)) ?_
          replace S := S.put (by decide : 164 < 167) (.int .i64 (sNext t))
          refine env_gen (C := fun a => wpList Tryz.prog _ _ _ a _) S ?_
          clear S; intro a S
          refine wg_val (v := (.bool (((sNext s) : Int) == ((sNext t) : Int)))) (wan_yes (j := 23) (t := 158) (b := true) rfl (S.get 158 _ rfl) (by rw [S.sz]; decide)) (ex_bin (u := (.int .i64 (sNext s))) (v := (.int .i64 (sNext t))) (S.get 161 _ rfl) (S.get 164 _ rfl) _ (run_eqi _)) ?_
          replace S := S.put (by decide : 165 < 167) (.bool (((sNext s) : Int) == ((sNext t) : Int)))
          refine wpl_val (v := (.bool (((sNext s) : Int) == ((sNext t) : Int)))) (ex_pickT (v := (.bool (((sNext s) : Int) == ((sNext t) : Int)))) (S.get 158 _ rfl) (S.get 165 _ rfl) _) ?_
          replace S := S.put (by decide : 166 < 167) (.bool (((sNext s) : Int) == ((sNext t) : Int)))
          refine env_gen (C := fun a => wpList Tryz.prog _ _ _ a _) S ?_
          clear S; intro a S
          refine wpl_val (v := (.bool (((sNext s) : Int) == ((sNext t) : Int)))) (ex_assign (S.get 166 _ rfl) _) ?_
          replace S := S.put (by decide : 4 < 167) (.bool (((sNext s) : Int) == ((sNext t) : Int)))
          refine wpl_nil ?_
          refine wp_ret ?_
          exact ret_at (P := Tryz.prog) (fn := Tryz.f15) (R := fun e w' => e = .returned (.bool (sameSt s t)) ∧ Below w.heap.size w w') S rfl rfl ⟨by unfold sameSt planE bookE deskE; rw [q0, q1, q2, q3, eC, eT, eN]; simp, M⟩
        rw [decide_eq_true (by omega : (i : Int) < ((sSess s).length : Int))] at S ⊢
        refine wp_cond_true (S.get 119 _ rfl) (wp_skip ?_)
        replace S := (((S.nil).add (S.get 2 _ rfl)).add (S.get 3 _ rfl)).add (S.get 8 _ rfl)
        refine env_gen (C := fun a => Code.wp Tryz.prog _ _ a _) S ?_
        clear S; intro a S
        obtain ⟨x, hxi⟩ : ∃ z, (sSess s)[i]? = some z := ⟨_, List.getElem?_eq_getElem (by omega)⟩
        obtain ⟨p, q, rfl⟩ : ∃ p q, oS = some ⟨p, q, none⟩ := by obtain ⟨p, q, _, e, _⟩ := hs.hS i x hxi; exact ⟨p, q, e⟩
        obtain ⟨ux, hpx, hsx, hrx⟩ := (hs.hS i x hxi).out2
        have hlx : ux.length = 4 := (cSession.len hrx).trans (by kernel_rfl)
        rw [show cSession.k = 4 by kernel_rfl] at hsx
        obtain ⟨y, hyi⟩ : ∃ z, (sSess t)[i]? = some z := ⟨_, List.getElem?_eq_getElem (by omega)⟩
        obtain ⟨p', q', rfl⟩ : ∃ p q, oS' = some ⟨p, q, none⟩ := by obtain ⟨p, q, _, e, _⟩ := ht.hS i y hyi; exact ⟨p, q, e⟩
        obtain ⟨uy, hpy, hsy, hry⟩ := (ht.hS i y hyi).out2
        have hly : uy.length = 4 := (cSession.len hry).trans (by kernel_rfl)
        rw [show cSession.k = 4 by kernel_rfl] at hsy
        have hg := eqK_at (f := eqSess_B) hxi hyi
        refine wp_seq (wp_block ?_)
        cases hE : eqSess_B x y
        case false =>
          refine wp_seq ?_
          have hdr : Below W.heap.size W W.drew := (Below.refl _ W).drew
          have B2 := B2.later hdr
          have B5 := B5.later hdr
          have M := M.trans (hdr.mono M.size)
          have z7 := hdr.size
          clear hdr
          refine wp_region_held_drew (S := fun V => Below w.heap.size w V ∧ Box V w.heap.size [.slice oP (sPools s).length cP, .slice oB (sBlocks s).length cB, .slice oL (sLeases s).length cL, .int .i64 (sTok s), .int .i64 (sNow s), .slice (some ⟨p, q, none⟩) (sSess s).length cS, .int .i64 (sNext s), .int .i64 (sCount s)] ∧ Box V X1.heap.size [.slice oP' (sPools t).length cP', .slice oB' (sBlocks t).length cB', .slice oL' (sLeases t).length cL', .int .i64 (sTok t), .int .i64 (sNow t), .slice (some ⟨p', q', none⟩) (sSess t).length cS', .int .i64 (sNext t), .int .i64 (sCount t)]) (by kernel_rfl) ⟨M, B2, B5⟩ (fun hS => ?_)
          refine dr_val 0 122 rfl (by kernel_rfl) (fun c a d v w hq => hpan c a d v w hq) (v := (.pointer (some ⟨w.heap.size, 0 + 5, none⟩))) (fun V hV => ex_field (S.get 2 _ rfl) (by kernel_rfl) V) hS ?_
          replace S := S.put (by decide : 122 < 167) (.pointer (some ⟨w.heap.size, 0 + 5, none⟩))
          refine dr_val 1 123 rfl (by kernel_rfl) (fun c a d v w hq => hpan c a d v w hq) (v := (.pointer (some ⟨w.heap.size, 0 + 5 + 0, none⟩))) (fun V hV => ex_field (S.get 122 _ rfl) (by kernel_rfl) V) hS ?_
          replace S := S.put (by decide : 123 < 167) (.pointer (some ⟨w.heap.size, 0 + 5 + 0, none⟩))
          refine dr_val 2 124 rfl (by kernel_rfl) (fun c a d v w hq => hpan c a d v w hq) (v := (.slice (some ⟨p, q, none⟩) (sSess s).length cS)) (fun V hV => ex_load (S.get 123 _ rfl) ⟨by kernel_rfl, by kernel_rfl⟩ V (box_at hV.2.1 rfl)) hS ?_
          replace S := S.put (by decide : 124 < 167) (.slice (some ⟨p, q, none⟩) (sSess s).length cS)
          refine dr_val 3 125 rfl (by kernel_rfl) (fun c a d v w hq => hpan c a d v w hq) (v := (.int .i64 i)) (fun V hV => ex_move (S.get 8 _ rfl) V) hS ?_
          replace S := S.put (by decide : 125 < 167) (.int .i64 i)
          refine dr_val 4 126 rfl (by kernel_rfl) (fun c a d v w hq => hpan c a d v w hq) (v := (.pointer (some ⟨p, q + i * 4, none⟩))) (fun V hV => ex_index (e := 123) (i := i) (k := 4) (by kernel_rfl) (by kernel_rfl) (S.get 124 _ rfl) (S.get 125 _ rfl) (by omega) V) hS ?_
          replace S := S.put (by decide : 126 < 167) (.pointer (some ⟨p, q + i * 4, none⟩))
          refine dr_val 5 127 rfl (by kernel_rfl) (fun c a d v w hq => hpan c a d v w hq) (v := (.agg (List.toArray ux))) (fun V hV => ex_agg (us := ux) (S.get 126 _ rfl) ⟨by kernel_rfl, by kernel_rfl⟩ hlx V (hsx.frm (Fr.of hV.1) (Nat.zero_le _) hpx)) hS ?_
          replace S := S.put (by decide : 127 < 167) (.agg (List.toArray ux))
          refine dr_val 6 128 rfl (by kernel_rfl) (fun c a d v w hq => hpan c a d v w hq) (v := (.pointer (some ⟨X1.heap.size, 0 + 5, none⟩))) (fun V hV => ex_field (S.get 3 _ rfl) (by kernel_rfl) V) hS ?_
          replace S := S.put (by decide : 128 < 167) (.pointer (some ⟨X1.heap.size, 0 + 5, none⟩))
          refine dr_val 7 129 rfl (by kernel_rfl) (fun c a d v w hq => hpan c a d v w hq) (v := (.pointer (some ⟨X1.heap.size, 0 + 5 + 0, none⟩))) (fun V hV => ex_field (S.get 128 _ rfl) (by kernel_rfl) V) hS ?_
          replace S := S.put (by decide : 129 < 167) (.pointer (some ⟨X1.heap.size, 0 + 5 + 0, none⟩))
          refine dr_val 8 130 rfl (by kernel_rfl) (fun c a d v w hq => hpan c a d v w hq) (v := (.slice (some ⟨p', q', none⟩) (sSess t).length cS')) (fun V hV => ex_load (S.get 129 _ rfl) ⟨by kernel_rfl, by kernel_rfl⟩ V (box_at hV.2.2 rfl)) hS ?_
          replace S := S.put (by decide : 130 < 167) (.slice (some ⟨p', q', none⟩) (sSess t).length cS')
          refine dr_val 9 131 rfl (by kernel_rfl) (fun c a d v w hq => hpan c a d v w hq) (v := (.int .i64 i)) (fun V hV => ex_move (S.get 8 _ rfl) V) hS ?_
          replace S := S.put (by decide : 131 < 167) (.int .i64 i)
          refine dr_val 10 132 rfl (by kernel_rfl) (fun c a d v w hq => hpan c a d v w hq) (v := (.pointer (some ⟨p', q' + i * 4, none⟩))) (fun V hV => ex_index (e := 123) (i := i) (k := 4) (by kernel_rfl) (by kernel_rfl) (S.get 130 _ rfl) (S.get 131 _ rfl) (by omega) V) hS ?_
          replace S := S.put (by decide : 132 < 167) (.pointer (some ⟨p', q' + i * 4, none⟩))
          refine dr_val 11 133 rfl (by kernel_rfl) (fun c a d v w hq => hpan c a d v w hq) (v := (.agg (List.toArray uy))) (fun V hV => ex_agg (us := uy) (S.get 132 _ rfl) ⟨by kernel_rfl, by kernel_rfl⟩ hly V (hsy.frm (Fr.of hV.1) (Nat.zero_le _) hpy)) hS ?_
          replace S := S.put (by decide : 133 < 167) (.agg (List.toArray uy))
          refine dr_val 12 134 rfl (by kernel_rfl) (fun c a d v w hq => hpan c a d v w hq) (v := (.bool true)) (fun V hV => ex_bin (u := (.agg (List.toArray ux))) (v := (.agg (List.toArray uy))) (S.get 127 _ rfl) (S.get 133 _ rfl) V ((nqSess ux uy x y w w 0 0 hrx hry _ _ V).trans (by rw [hE]; rfl))) hS ?_
          replace S := S.put (by decide : 134 < 167) (.bool true)
          refine ⟨by kernel_rfl, ?_⟩
          refine wp_cond_true (S.get 134 _ rfl) ?_
          refine wp_seq (wp_region_list ?_)
          refine wpl_val (v := (.bool false)) (ex_assign (v := (.bool false)) rfl _) ?_
          replace S := S.put (by decide : 4 < 167) (.bool false)
          refine wpl_nil ?_
          refine wp_ret ?_
          exact ret_at (P := Tryz.prog) (fn := Tryz.f15) (R := fun e w' => e = .returned (.bool (sameSt s t)) ∧ Below w.heap.size w w') S rfl rfl ⟨by unfold sameSt deskE; rw [eqR_bad (hg.trans hE) hlt]; simp, M⟩
        case true =>
          refine wp_seq ?_
          have hdr : Below W.heap.size W W.drew := (Below.refl _ W).drew
          have B2 := B2.later hdr
          have B5 := B5.later hdr
          have M := M.trans (hdr.mono M.size)
          have z8 := hdr.size
          clear hdr
          refine wp_region_held_drew (S := fun V => Below w.heap.size w V ∧ Box V w.heap.size [.slice oP (sPools s).length cP, .slice oB (sBlocks s).length cB, .slice oL (sLeases s).length cL, .int .i64 (sTok s), .int .i64 (sNow s), .slice (some ⟨p, q, none⟩) (sSess s).length cS, .int .i64 (sNext s), .int .i64 (sCount s)] ∧ Box V X1.heap.size [.slice oP' (sPools t).length cP', .slice oB' (sBlocks t).length cB', .slice oL' (sLeases t).length cL', .int .i64 (sTok t), .int .i64 (sNow t), .slice (some ⟨p', q', none⟩) (sSess t).length cS', .int .i64 (sNext t), .int .i64 (sCount t)]) (by kernel_rfl) ⟨M, B2, B5⟩ (fun hS => ?_)
          refine dr_val 0 122 rfl (by kernel_rfl) (fun c a d v w hq => hpan c a d v w hq) (v := (.pointer (some ⟨w.heap.size, 0 + 5, none⟩))) (fun V hV => ex_field (S.get 2 _ rfl) (by kernel_rfl) V) hS ?_
          replace S := S.put (by decide : 122 < 167) (.pointer (some ⟨w.heap.size, 0 + 5, none⟩))
          refine dr_val 1 123 rfl (by kernel_rfl) (fun c a d v w hq => hpan c a d v w hq) (v := (.pointer (some ⟨w.heap.size, 0 + 5 + 0, none⟩))) (fun V hV => ex_field (S.get 122 _ rfl) (by kernel_rfl) V) hS ?_
          replace S := S.put (by decide : 123 < 167) (.pointer (some ⟨w.heap.size, 0 + 5 + 0, none⟩))
          refine dr_val 2 124 rfl (by kernel_rfl) (fun c a d v w hq => hpan c a d v w hq) (v := (.slice (some ⟨p, q, none⟩) (sSess s).length cS)) (fun V hV => ex_load (S.get 123 _ rfl) ⟨by kernel_rfl, by kernel_rfl⟩ V (box_at hV.2.1 rfl)) hS ?_
          replace S := S.put (by decide : 124 < 167) (.slice (some ⟨p, q, none⟩) (sSess s).length cS)
          refine dr_val 3 125 rfl (by kernel_rfl) (fun c a d v w hq => hpan c a d v w hq) (v := (.int .i64 i)) (fun V hV => ex_move (S.get 8 _ rfl) V) hS ?_
          replace S := S.put (by decide : 125 < 167) (.int .i64 i)
          refine dr_val 4 126 rfl (by kernel_rfl) (fun c a d v w hq => hpan c a d v w hq) (v := (.pointer (some ⟨p, q + i * 4, none⟩))) (fun V hV => ex_index (e := 123) (i := i) (k := 4) (by kernel_rfl) (by kernel_rfl) (S.get 124 _ rfl) (S.get 125 _ rfl) (by omega) V) hS ?_
          replace S := S.put (by decide : 126 < 167) (.pointer (some ⟨p, q + i * 4, none⟩))
          refine dr_val 5 127 rfl (by kernel_rfl) (fun c a d v w hq => hpan c a d v w hq) (v := (.agg (List.toArray ux))) (fun V hV => ex_agg (us := ux) (S.get 126 _ rfl) ⟨by kernel_rfl, by kernel_rfl⟩ hlx V (hsx.frm (Fr.of hV.1) (Nat.zero_le _) hpx)) hS ?_
          replace S := S.put (by decide : 127 < 167) (.agg (List.toArray ux))
          refine dr_val 6 128 rfl (by kernel_rfl) (fun c a d v w hq => hpan c a d v w hq) (v := (.pointer (some ⟨X1.heap.size, 0 + 5, none⟩))) (fun V hV => ex_field (S.get 3 _ rfl) (by kernel_rfl) V) hS ?_
          replace S := S.put (by decide : 128 < 167) (.pointer (some ⟨X1.heap.size, 0 + 5, none⟩))
          refine dr_val 7 129 rfl (by kernel_rfl) (fun c a d v w hq => hpan c a d v w hq) (v := (.pointer (some ⟨X1.heap.size, 0 + 5 + 0, none⟩))) (fun V hV => ex_field (S.get 128 _ rfl) (by kernel_rfl) V) hS ?_
          replace S := S.put (by decide : 129 < 167) (.pointer (some ⟨X1.heap.size, 0 + 5 + 0, none⟩))
          refine dr_val 8 130 rfl (by kernel_rfl) (fun c a d v w hq => hpan c a d v w hq) (v := (.slice (some ⟨p', q', none⟩) (sSess t).length cS')) (fun V hV => ex_load (S.get 129 _ rfl) ⟨by kernel_rfl, by kernel_rfl⟩ V (box_at hV.2.2 rfl)) hS ?_
          replace S := S.put (by decide : 130 < 167) (.slice (some ⟨p', q', none⟩) (sSess t).length cS')
          refine dr_val 9 131 rfl (by kernel_rfl) (fun c a d v w hq => hpan c a d v w hq) (v := (.int .i64 i)) (fun V hV => ex_move (S.get 8 _ rfl) V) hS ?_
          replace S := S.put (by decide : 131 < 167) (.int .i64 i)
          refine dr_val 10 132 rfl (by kernel_rfl) (fun c a d v w hq => hpan c a d v w hq) (v := (.pointer (some ⟨p', q' + i * 4, none⟩))) (fun V hV => ex_index (e := 123) (i := i) (k := 4) (by kernel_rfl) (by kernel_rfl) (S.get 130 _ rfl) (S.get 131 _ rfl) (by omega) V) hS ?_
          replace S := S.put (by decide : 132 < 167) (.pointer (some ⟨p', q' + i * 4, none⟩))
          refine dr_val 11 133 rfl (by kernel_rfl) (fun c a d v w hq => hpan c a d v w hq) (v := (.agg (List.toArray uy))) (fun V hV => ex_agg (us := uy) (S.get 132 _ rfl) ⟨by kernel_rfl, by kernel_rfl⟩ hly V (hsy.frm (Fr.of hV.1) (Nat.zero_le _) hpy)) hS ?_
          replace S := S.put (by decide : 133 < 167) (.agg (List.toArray uy))
          refine dr_val 12 134 rfl (by kernel_rfl) (fun c a d v w hq => hpan c a d v w hq) (v := (.bool false)) (fun V hV => ex_bin (u := (.agg (List.toArray ux))) (v := (.agg (List.toArray uy))) (S.get 127 _ rfl) (S.get 133 _ rfl) V ((nqSess ux uy x y w w 0 0 hrx hry _ _ V).trans (by rw [hE]; rfl))) hS ?_
          replace S := S.put (by decide : 134 < 167) (.bool false)
          refine ⟨by kernel_rfl, ?_⟩
          refine wp_cond_false (S.get 134 _ rfl) (wp_skip ?_)
          replace S := (((S.nil).add (S.get 2 _ rfl)).add (S.get 3 _ rfl)).add (S.get 8 _ rfl)
          refine env_gen (C := fun a => Code.wp Tryz.prog _ _ a _) S ?_
          clear S; intro a S
          refine wp_region_list ?_
          refine wpl_val (v := (.int .i64 i)) (ex_move (S.get 8 _ rfl) _) ?_
          replace S := S.put (by decide : 120 < 167) (.int .i64 i)
          refine env_gen (C := fun a => wpList Tryz.prog _ _ _ a _) S ?_
          clear S; intro a S
          refine wpl_val (v := (.int .i64 (i + 1))) (ex_bin (u := (.int .i64 i)) (v := (.int .i64 1)) (S.get 120 _ rfl) rfl _ (run_inc _ (by omega) (by omega))) ?_
          replace S := S.put (by decide : 121 < 167) (.int .i64 (i + 1))
          refine wpl_val (v := (.int .i64 (i + 1))) (ex_assign (S.get 121 _ rfl) _) ?_
          replace S := S.put (by decide : 8 < 167) (.int .i64 (i + 1))
          refine wpl_nil ?_
          exact ⟨⟨(((S.nil).add (S.get 2 _ rfl)).add (S.get 3 _ rfl)).add (S.get 8 _ rfl), allN_step hall (hg.trans hE), M, B2, B5⟩, hlt⟩
      rw [decide_eq_true (by omega : (i : Int) < ((sLeases s).length : Int))] at S ⊢
      refine wp_cond_true (S.get 98 _ rfl) (wp_skip ?_)
      replace S := (((S.nil).add (S.get 2 _ rfl)).add (S.get 3 _ rfl)).add (S.get 7 _ rfl)
      refine env_gen (C := fun a => Code.wp Tryz.prog _ _ a _) S ?_
      clear S; intro a S
      obtain ⟨x, hxi⟩ : ∃ z, (sLeases s)[i]? = some z := ⟨_, List.getElem?_eq_getElem (by omega)⟩
      obtain ⟨p, q, rfl⟩ : ∃ p q, oL = some ⟨p, q, none⟩ := by obtain ⟨p, q, _, e, _⟩ := hs.hL i x hxi; exact ⟨p, q, e⟩
      obtain ⟨ux, hpx, hsx, hrx⟩ := (hs.hL i x hxi).out2
      have hlx : ux.length = 6 := (cLease.len hrx).trans (by kernel_rfl)
      rw [show cLease.k = 6 by kernel_rfl] at hsx
      obtain ⟨y, hyi⟩ : ∃ z, (sLeases t)[i]? = some z := ⟨_, List.getElem?_eq_getElem (by omega)⟩
      obtain ⟨p', q', rfl⟩ : ∃ p q, oL' = some ⟨p, q, none⟩ := by obtain ⟨p, q, _, e, _⟩ := ht.hL i y hyi; exact ⟨p, q, e⟩
      obtain ⟨uy, hpy, hsy, hry⟩ := (ht.hL i y hyi).out2
      have hly : uy.length = 6 := (cLease.len hry).trans (by kernel_rfl)
      rw [show cLease.k = 6 by kernel_rfl] at hsy
      have hg := eqK_at (f := eqLease_B) hxi hyi
      refine wp_seq (wp_block ?_)
      cases hE : eqLease_B x y
      case false =>
        refine wp_seq ?_
        have hdr : Below W.heap.size W W.drew := (Below.refl _ W).drew
        have B2 := B2.later hdr
        have B5 := B5.later hdr
        have M := M.trans (hdr.mono M.size)
        have z9 := hdr.size
        clear hdr
        refine wp_region_held_drew (S := fun V => Below w.heap.size w V ∧ Box V w.heap.size [.slice oP (sPools s).length cP, .slice oB (sBlocks s).length cB, .slice (some ⟨p, q, none⟩) (sLeases s).length cL, .int .i64 (sTok s), .int .i64 (sNow s), .slice oS (sSess s).length cS, .int .i64 (sNext s), .int .i64 (sCount s)] ∧ Box V X1.heap.size [.slice oP' (sPools t).length cP', .slice oB' (sBlocks t).length cB', .slice (some ⟨p', q', none⟩) (sLeases t).length cL', .int .i64 (sTok t), .int .i64 (sNow t), .slice oS' (sSess t).length cS', .int .i64 (sNext t), .int .i64 (sCount t)]) (by kernel_rfl) ⟨M, B2, B5⟩ (fun hS => ?_)
        refine dr_val 0 101 rfl (by kernel_rfl) (fun c a d v w hq => hpan c a d v w hq) (v := (.pointer (some ⟨w.heap.size, 0 + 2, none⟩))) (fun V hV => ex_field (S.get 2 _ rfl) (by kernel_rfl) V) hS ?_
        replace S := S.put (by decide : 101 < 167) (.pointer (some ⟨w.heap.size, 0 + 2, none⟩))
        refine dr_val 1 102 rfl (by kernel_rfl) (fun c a d v w hq => hpan c a d v w hq) (v := (.pointer (some ⟨w.heap.size, 0 + 2 + 0, none⟩))) (fun V hV => ex_field (S.get 101 _ rfl) (by kernel_rfl) V) hS ?_
        replace S := S.put (by decide : 102 < 167) (.pointer (some ⟨w.heap.size, 0 + 2 + 0, none⟩))
        refine dr_val 2 103 rfl (by kernel_rfl) (fun c a d v w hq => hpan c a d v w hq) (v := (.slice (some ⟨p, q, none⟩) (sLeases s).length cL)) (fun V hV => ex_load (S.get 102 _ rfl) ⟨by kernel_rfl, by kernel_rfl⟩ V (box_at hV.2.1 rfl)) hS ?_
        replace S := S.put (by decide : 103 < 167) (.slice (some ⟨p, q, none⟩) (sLeases s).length cL)
        refine dr_val 3 104 rfl (by kernel_rfl) (fun c a d v w hq => hpan c a d v w hq) (v := (.int .i64 i)) (fun V hV => ex_move (S.get 7 _ rfl) V) hS ?_
        replace S := S.put (by decide : 104 < 167) (.int .i64 i)
        refine dr_val 4 105 rfl (by kernel_rfl) (fun c a d v w hq => hpan c a d v w hq) (v := (.pointer (some ⟨p, q + i * 6, none⟩))) (fun V hV => ex_index (e := 121) (i := i) (k := 6) (by kernel_rfl) (by kernel_rfl) (S.get 103 _ rfl) (S.get 104 _ rfl) (by omega) V) hS ?_
        replace S := S.put (by decide : 105 < 167) (.pointer (some ⟨p, q + i * 6, none⟩))
        refine dr_val 5 106 rfl (by kernel_rfl) (fun c a d v w hq => hpan c a d v w hq) (v := (.agg (List.toArray ux))) (fun V hV => ex_agg (us := ux) (S.get 105 _ rfl) ⟨by kernel_rfl, by kernel_rfl⟩ hlx V (hsx.frm (Fr.of hV.1) (Nat.zero_le _) hpx)) hS ?_
        replace S := S.put (by decide : 106 < 167) (.agg (List.toArray ux))
        refine dr_val 6 107 rfl (by kernel_rfl) (fun c a d v w hq => hpan c a d v w hq) (v := (.pointer (some ⟨X1.heap.size, 0 + 2, none⟩))) (fun V hV => ex_field (S.get 3 _ rfl) (by kernel_rfl) V) hS ?_
        replace S := S.put (by decide : 107 < 167) (.pointer (some ⟨X1.heap.size, 0 + 2, none⟩))
        refine dr_val 7 108 rfl (by kernel_rfl) (fun c a d v w hq => hpan c a d v w hq) (v := (.pointer (some ⟨X1.heap.size, 0 + 2 + 0, none⟩))) (fun V hV => ex_field (S.get 107 _ rfl) (by kernel_rfl) V) hS ?_
        replace S := S.put (by decide : 108 < 167) (.pointer (some ⟨X1.heap.size, 0 + 2 + 0, none⟩))
        refine dr_val 8 109 rfl (by kernel_rfl) (fun c a d v w hq => hpan c a d v w hq) (v := (.slice (some ⟨p', q', none⟩) (sLeases t).length cL')) (fun V hV => ex_load (S.get 108 _ rfl) ⟨by kernel_rfl, by kernel_rfl⟩ V (box_at hV.2.2 rfl)) hS ?_
        replace S := S.put (by decide : 109 < 167) (.slice (some ⟨p', q', none⟩) (sLeases t).length cL')
        refine dr_val 9 110 rfl (by kernel_rfl) (fun c a d v w hq => hpan c a d v w hq) (v := (.int .i64 i)) (fun V hV => ex_move (S.get 7 _ rfl) V) hS ?_
        replace S := S.put (by decide : 110 < 167) (.int .i64 i)
        refine dr_val 10 111 rfl (by kernel_rfl) (fun c a d v w hq => hpan c a d v w hq) (v := (.pointer (some ⟨p', q' + i * 6, none⟩))) (fun V hV => ex_index (e := 121) (i := i) (k := 6) (by kernel_rfl) (by kernel_rfl) (S.get 109 _ rfl) (S.get 110 _ rfl) (by omega) V) hS ?_
        replace S := S.put (by decide : 111 < 167) (.pointer (some ⟨p', q' + i * 6, none⟩))
        refine dr_val 11 112 rfl (by kernel_rfl) (fun c a d v w hq => hpan c a d v w hq) (v := (.agg (List.toArray uy))) (fun V hV => ex_agg (us := uy) (S.get 111 _ rfl) ⟨by kernel_rfl, by kernel_rfl⟩ hly V (hsy.frm (Fr.of hV.1) (Nat.zero_le _) hpy)) hS ?_
        replace S := S.put (by decide : 112 < 167) (.agg (List.toArray uy))
        refine dr_val 12 113 rfl (by kernel_rfl) (fun c a d v w hq => hpan c a d v w hq) (v := (.bool true)) (fun V hV => ex_bin (u := (.agg (List.toArray ux))) (v := (.agg (List.toArray uy))) (S.get 106 _ rfl) (S.get 112 _ rfl) V ((nqLease ux uy x y w w 0 0 hrx hry _ _ V).trans (by rw [hE]; rfl))) hS ?_
        replace S := S.put (by decide : 113 < 167) (.bool true)
        refine ⟨by kernel_rfl, ?_⟩
        refine wp_cond_true (S.get 113 _ rfl) ?_
        refine wp_seq (wp_region_list ?_)
        refine wpl_val (v := (.bool false)) (ex_assign (v := (.bool false)) rfl _) ?_
        replace S := S.put (by decide : 4 < 167) (.bool false)
        refine wpl_nil ?_
        refine wp_ret ?_
        exact ret_at (P := Tryz.prog) (fn := Tryz.f15) (R := fun e w' => e = .returned (.bool (sameSt s t)) ∧ Below w.heap.size w w') S rfl rfl ⟨by unfold sameSt bookE; rw [eqR_bad (hg.trans hE) hlt]; simp, M⟩
      case true =>
        refine wp_seq ?_
        have hdr : Below W.heap.size W W.drew := (Below.refl _ W).drew
        have B2 := B2.later hdr
        have B5 := B5.later hdr
        have M := M.trans (hdr.mono M.size)
        have z10 := hdr.size
        clear hdr
        refine wp_region_held_drew (S := fun V => Below w.heap.size w V ∧ Box V w.heap.size [.slice oP (sPools s).length cP, .slice oB (sBlocks s).length cB, .slice (some ⟨p, q, none⟩) (sLeases s).length cL, .int .i64 (sTok s), .int .i64 (sNow s), .slice oS (sSess s).length cS, .int .i64 (sNext s), .int .i64 (sCount s)] ∧ Box V X1.heap.size [.slice oP' (sPools t).length cP', .slice oB' (sBlocks t).length cB', .slice (some ⟨p', q', none⟩) (sLeases t).length cL', .int .i64 (sTok t), .int .i64 (sNow t), .slice oS' (sSess t).length cS', .int .i64 (sNext t), .int .i64 (sCount t)]) (by kernel_rfl) ⟨M, B2, B5⟩ (fun hS => ?_)
        refine dr_val 0 101 rfl (by kernel_rfl) (fun c a d v w hq => hpan c a d v w hq) (v := (.pointer (some ⟨w.heap.size, 0 + 2, none⟩))) (fun V hV => ex_field (S.get 2 _ rfl) (by kernel_rfl) V) hS ?_
        replace S := S.put (by decide : 101 < 167) (.pointer (some ⟨w.heap.size, 0 + 2, none⟩))
        refine dr_val 1 102 rfl (by kernel_rfl) (fun c a d v w hq => hpan c a d v w hq) (v := (.pointer (some ⟨w.heap.size, 0 + 2 + 0, none⟩))) (fun V hV => ex_field (S.get 101 _ rfl) (by kernel_rfl) V) hS ?_
        replace S := S.put (by decide : 102 < 167) (.pointer (some ⟨w.heap.size, 0 + 2 + 0, none⟩))
        refine dr_val 2 103 rfl (by kernel_rfl) (fun c a d v w hq => hpan c a d v w hq) (v := (.slice (some ⟨p, q, none⟩) (sLeases s).length cL)) (fun V hV => ex_load (S.get 102 _ rfl) ⟨by kernel_rfl, by kernel_rfl⟩ V (box_at hV.2.1 rfl)) hS ?_
        replace S := S.put (by decide : 103 < 167) (.slice (some ⟨p, q, none⟩) (sLeases s).length cL)
        refine dr_val 3 104 rfl (by kernel_rfl) (fun c a d v w hq => hpan c a d v w hq) (v := (.int .i64 i)) (fun V hV => ex_move (S.get 7 _ rfl) V) hS ?_
        replace S := S.put (by decide : 104 < 167) (.int .i64 i)
        refine dr_val 4 105 rfl (by kernel_rfl) (fun c a d v w hq => hpan c a d v w hq) (v := (.pointer (some ⟨p, q + i * 6, none⟩))) (fun V hV => ex_index (e := 121) (i := i) (k := 6) (by kernel_rfl) (by kernel_rfl) (S.get 103 _ rfl) (S.get 104 _ rfl) (by omega) V) hS ?_
        replace S := S.put (by decide : 105 < 167) (.pointer (some ⟨p, q + i * 6, none⟩))
        refine dr_val 5 106 rfl (by kernel_rfl) (fun c a d v w hq => hpan c a d v w hq) (v := (.agg (List.toArray ux))) (fun V hV => ex_agg (us := ux) (S.get 105 _ rfl) ⟨by kernel_rfl, by kernel_rfl⟩ hlx V (hsx.frm (Fr.of hV.1) (Nat.zero_le _) hpx)) hS ?_
        replace S := S.put (by decide : 106 < 167) (.agg (List.toArray ux))
        refine dr_val 6 107 rfl (by kernel_rfl) (fun c a d v w hq => hpan c a d v w hq) (v := (.pointer (some ⟨X1.heap.size, 0 + 2, none⟩))) (fun V hV => ex_field (S.get 3 _ rfl) (by kernel_rfl) V) hS ?_
        replace S := S.put (by decide : 107 < 167) (.pointer (some ⟨X1.heap.size, 0 + 2, none⟩))
        refine dr_val 7 108 rfl (by kernel_rfl) (fun c a d v w hq => hpan c a d v w hq) (v := (.pointer (some ⟨X1.heap.size, 0 + 2 + 0, none⟩))) (fun V hV => ex_field (S.get 107 _ rfl) (by kernel_rfl) V) hS ?_
        replace S := S.put (by decide : 108 < 167) (.pointer (some ⟨X1.heap.size, 0 + 2 + 0, none⟩))
        refine dr_val 8 109 rfl (by kernel_rfl) (fun c a d v w hq => hpan c a d v w hq) (v := (.slice (some ⟨p', q', none⟩) (sLeases t).length cL')) (fun V hV => ex_load (S.get 108 _ rfl) ⟨by kernel_rfl, by kernel_rfl⟩ V (box_at hV.2.2 rfl)) hS ?_
        replace S := S.put (by decide : 109 < 167) (.slice (some ⟨p', q', none⟩) (sLeases t).length cL')
        refine dr_val 9 110 rfl (by kernel_rfl) (fun c a d v w hq => hpan c a d v w hq) (v := (.int .i64 i)) (fun V hV => ex_move (S.get 7 _ rfl) V) hS ?_
        replace S := S.put (by decide : 110 < 167) (.int .i64 i)
        refine dr_val 10 111 rfl (by kernel_rfl) (fun c a d v w hq => hpan c a d v w hq) (v := (.pointer (some ⟨p', q' + i * 6, none⟩))) (fun V hV => ex_index (e := 121) (i := i) (k := 6) (by kernel_rfl) (by kernel_rfl) (S.get 109 _ rfl) (S.get 110 _ rfl) (by omega) V) hS ?_
        replace S := S.put (by decide : 111 < 167) (.pointer (some ⟨p', q' + i * 6, none⟩))
        refine dr_val 11 112 rfl (by kernel_rfl) (fun c a d v w hq => hpan c a d v w hq) (v := (.agg (List.toArray uy))) (fun V hV => ex_agg (us := uy) (S.get 111 _ rfl) ⟨by kernel_rfl, by kernel_rfl⟩ hly V (hsy.frm (Fr.of hV.1) (Nat.zero_le _) hpy)) hS ?_
        replace S := S.put (by decide : 112 < 167) (.agg (List.toArray uy))
        refine dr_val 12 113 rfl (by kernel_rfl) (fun c a d v w hq => hpan c a d v w hq) (v := (.bool false)) (fun V hV => ex_bin (u := (.agg (List.toArray ux))) (v := (.agg (List.toArray uy))) (S.get 106 _ rfl) (S.get 112 _ rfl) V ((nqLease ux uy x y w w 0 0 hrx hry _ _ V).trans (by rw [hE]; rfl))) hS ?_
        replace S := S.put (by decide : 113 < 167) (.bool false)
        refine ⟨by kernel_rfl, ?_⟩
        refine wp_cond_false (S.get 113 _ rfl) (wp_skip ?_)
        replace S := (((S.nil).add (S.get 2 _ rfl)).add (S.get 3 _ rfl)).add (S.get 7 _ rfl)
        refine env_gen (C := fun a => Code.wp Tryz.prog _ _ a _) S ?_
        clear S; intro a S
        refine wp_region_list ?_
        refine wpl_val (v := (.int .i64 i)) (ex_move (S.get 7 _ rfl) _) ?_
        replace S := S.put (by decide : 99 < 167) (.int .i64 i)
        refine wpl_val (v := (.int .i64 (i + 1))) (ex_bin (u := (.int .i64 i)) (v := (.int .i64 1)) (S.get 99 _ rfl) rfl _ (run_inc _ (by omega) (by omega))) ?_
        replace S := S.put (by decide : 100 < 167) (.int .i64 (i + 1))
        refine wpl_val (v := (.int .i64 (i + 1))) (ex_assign (S.get 100 _ rfl) _) ?_
        replace S := S.put (by decide : 7 < 167) (.int .i64 (i + 1))
        refine wpl_nil ?_
        exact ⟨⟨(((S.nil).add (S.get 2 _ rfl)).add (S.get 3 _ rfl)).add (S.get 7 _ rfl), allN_step hall (hg.trans hE), M, B2, B5⟩, hlt⟩
    rw [decide_eq_true (by omega : (i : Int) < ((sBlocks s).length : Int))] at S ⊢
    refine wp_cond_true (S.get 77 _ rfl) (wp_skip ?_)
    replace S := (((S.nil).add (S.get 2 _ rfl)).add (S.get 3 _ rfl)).add (S.get 6 _ rfl)
    refine env_gen (C := fun a => Code.wp Tryz.prog _ _ a _) S ?_
    clear S; intro a S
    obtain ⟨x, hxi⟩ : ∃ z, (sBlocks s)[i]? = some z := ⟨_, List.getElem?_eq_getElem (by omega)⟩
    obtain ⟨p, q, rfl⟩ : ∃ p q, oB = some ⟨p, q, none⟩ := by obtain ⟨p, q, _, e, _⟩ := hs.hB i x hxi; exact ⟨p, q, e⟩
    obtain ⟨ux, hpx, hsx, hrx⟩ := (hs.hB i x hxi).out2
    have hlx : ux.length = 5 := (cBlock.len hrx).trans (by kernel_rfl)
    rw [show cBlock.k = 5 by kernel_rfl] at hsx
    obtain ⟨y, hyi⟩ : ∃ z, (sBlocks t)[i]? = some z := ⟨_, List.getElem?_eq_getElem (by omega)⟩
    obtain ⟨p', q', rfl⟩ : ∃ p q, oB' = some ⟨p, q, none⟩ := by obtain ⟨p, q, _, e, _⟩ := ht.hB i y hyi; exact ⟨p, q, e⟩
    obtain ⟨uy, hpy, hsy, hry⟩ := (ht.hB i y hyi).out2
    have hly : uy.length = 5 := (cBlock.len hry).trans (by kernel_rfl)
    rw [show cBlock.k = 5 by kernel_rfl] at hsy
    have hg := eqK_at (f := eqBlock_B) hxi hyi
    refine wp_seq (wp_block ?_)
    cases hE : eqBlock_B x y
    case false =>
      refine wp_seq ?_
      have hdr : Below W.heap.size W W.drew := (Below.refl _ W).drew
      have B2 := B2.later hdr
      have B5 := B5.later hdr
      have M := M.trans (hdr.mono M.size)
      have z11 := hdr.size
      clear hdr
      refine wp_region_held_drew (S := fun V => Below w.heap.size w V ∧ Box V w.heap.size [.slice oP (sPools s).length cP, .slice (some ⟨p, q, none⟩) (sBlocks s).length cB, .slice oL (sLeases s).length cL, .int .i64 (sTok s), .int .i64 (sNow s), .slice oS (sSess s).length cS, .int .i64 (sNext s), .int .i64 (sCount s)] ∧ Box V X1.heap.size [.slice oP' (sPools t).length cP', .slice (some ⟨p', q', none⟩) (sBlocks t).length cB', .slice oL' (sLeases t).length cL', .int .i64 (sTok t), .int .i64 (sNow t), .slice oS' (sSess t).length cS', .int .i64 (sNext t), .int .i64 (sCount t)]) (by kernel_rfl) ⟨M, B2, B5⟩ (fun hS => ?_)
      refine dr_val 0 80 rfl (by kernel_rfl) (fun c a d v w hq => hpan c a d v w hq) (v := (.pointer (some ⟨w.heap.size, 0 + 0, none⟩))) (fun V hV => ex_field (S.get 2 _ rfl) (by kernel_rfl) V) hS ?_
      replace S := S.put (by decide : 80 < 167) (.pointer (some ⟨w.heap.size, 0 + 0, none⟩))
      refine dr_val 1 81 rfl (by kernel_rfl) (fun c a d v w hq => hpan c a d v w hq) (v := (.pointer (some ⟨w.heap.size, 0 + 0 + 1, none⟩))) (fun V hV => ex_field (S.get 80 _ rfl) (by kernel_rfl) V) hS ?_
      replace S := S.put (by decide : 81 < 167) (.pointer (some ⟨w.heap.size, 0 + 0 + 1, none⟩))
      refine dr_val 2 82 rfl (by kernel_rfl) (fun c a d v w hq => hpan c a d v w hq) (v := (.slice (some ⟨p, q, none⟩) (sBlocks s).length cB)) (fun V hV => ex_load (S.get 81 _ rfl) ⟨by kernel_rfl, by kernel_rfl⟩ V (box_at hV.2.1 rfl)) hS ?_
      replace S := S.put (by decide : 82 < 167) (.slice (some ⟨p, q, none⟩) (sBlocks s).length cB)
      refine dr_val 3 83 rfl (by kernel_rfl) (fun c a d v w hq => hpan c a d v w hq) (v := (.int .i64 i)) (fun V hV => ex_move (S.get 6 _ rfl) V) hS ?_
      replace S := S.put (by decide : 83 < 167) (.int .i64 i)
      refine dr_val 4 84 rfl (by kernel_rfl) (fun c a d v w hq => hpan c a d v w hq) (v := (.pointer (some ⟨p, q + i * 5, none⟩))) (fun V hV => ex_index (e := 119) (i := i) (k := 5) (by kernel_rfl) (by kernel_rfl) (S.get 82 _ rfl) (S.get 83 _ rfl) (by omega) V) hS ?_
      replace S := S.put (by decide : 84 < 167) (.pointer (some ⟨p, q + i * 5, none⟩))
      refine dr_val 5 85 rfl (by kernel_rfl) (fun c a d v w hq => hpan c a d v w hq) (v := (.agg (List.toArray ux))) (fun V hV => ex_agg (us := ux) (S.get 84 _ rfl) ⟨by kernel_rfl, by kernel_rfl⟩ hlx V (hsx.frm (Fr.of hV.1) (Nat.zero_le _) hpx)) hS ?_
      replace S := S.put (by decide : 85 < 167) (.agg (List.toArray ux))
      refine dr_val 6 86 rfl (by kernel_rfl) (fun c a d v w hq => hpan c a d v w hq) (v := (.pointer (some ⟨X1.heap.size, 0 + 0, none⟩))) (fun V hV => ex_field (S.get 3 _ rfl) (by kernel_rfl) V) hS ?_
      replace S := S.put (by decide : 86 < 167) (.pointer (some ⟨X1.heap.size, 0 + 0, none⟩))
      refine dr_val 7 87 rfl (by kernel_rfl) (fun c a d v w hq => hpan c a d v w hq) (v := (.pointer (some ⟨X1.heap.size, 0 + 0 + 1, none⟩))) (fun V hV => ex_field (S.get 86 _ rfl) (by kernel_rfl) V) hS ?_
      replace S := S.put (by decide : 87 < 167) (.pointer (some ⟨X1.heap.size, 0 + 0 + 1, none⟩))
      refine dr_val 8 88 rfl (by kernel_rfl) (fun c a d v w hq => hpan c a d v w hq) (v := (.slice (some ⟨p', q', none⟩) (sBlocks t).length cB')) (fun V hV => ex_load (S.get 87 _ rfl) ⟨by kernel_rfl, by kernel_rfl⟩ V (box_at hV.2.2 rfl)) hS ?_
      replace S := S.put (by decide : 88 < 167) (.slice (some ⟨p', q', none⟩) (sBlocks t).length cB')
      refine dr_val 9 89 rfl (by kernel_rfl) (fun c a d v w hq => hpan c a d v w hq) (v := (.int .i64 i)) (fun V hV => ex_move (S.get 6 _ rfl) V) hS ?_
      replace S := S.put (by decide : 89 < 167) (.int .i64 i)
      refine dr_val 10 90 rfl (by kernel_rfl) (fun c a d v w hq => hpan c a d v w hq) (v := (.pointer (some ⟨p', q' + i * 5, none⟩))) (fun V hV => ex_index (e := 119) (i := i) (k := 5) (by kernel_rfl) (by kernel_rfl) (S.get 88 _ rfl) (S.get 89 _ rfl) (by omega) V) hS ?_
      replace S := S.put (by decide : 90 < 167) (.pointer (some ⟨p', q' + i * 5, none⟩))
      refine dr_val 11 91 rfl (by kernel_rfl) (fun c a d v w hq => hpan c a d v w hq) (v := (.agg (List.toArray uy))) (fun V hV => ex_agg (us := uy) (S.get 90 _ rfl) ⟨by kernel_rfl, by kernel_rfl⟩ hly V (hsy.frm (Fr.of hV.1) (Nat.zero_le _) hpy)) hS ?_
      replace S := S.put (by decide : 91 < 167) (.agg (List.toArray uy))
      refine dr_val 12 92 rfl (by kernel_rfl) (fun c a d v w hq => hpan c a d v w hq) (v := (.bool true)) (fun V hV => ex_bin (u := (.agg (List.toArray ux))) (v := (.agg (List.toArray uy))) (S.get 85 _ rfl) (S.get 91 _ rfl) V ((nqBlock ux uy x y w w 0 0 hrx hry _ _ V).trans (by rw [hE]; rfl))) hS ?_
      replace S := S.put (by decide : 92 < 167) (.bool true)
      refine ⟨by kernel_rfl, ?_⟩
      refine wp_cond_true (S.get 92 _ rfl) ?_
      refine wp_seq (wp_region_list ?_)
      refine wpl_val (v := (.bool false)) (ex_assign (v := (.bool false)) rfl _) ?_
      replace S := S.put (by decide : 4 < 167) (.bool false)
      refine wpl_nil ?_
      refine wp_ret ?_
      exact ret_at (P := Tryz.prog) (fn := Tryz.f15) (R := fun e w' => e = .returned (.bool (sameSt s t)) ∧ Below w.heap.size w w') S rfl rfl ⟨by unfold sameSt planE; rw [eqR_bad (hg.trans hE) hlt]; simp, M⟩
    case true =>
      refine wp_seq ?_
      have hdr : Below W.heap.size W W.drew := (Below.refl _ W).drew
      have B2 := B2.later hdr
      have B5 := B5.later hdr
      have M := M.trans (hdr.mono M.size)
      have z12 := hdr.size
      clear hdr
      refine wp_region_held_drew (S := fun V => Below w.heap.size w V ∧ Box V w.heap.size [.slice oP (sPools s).length cP, .slice (some ⟨p, q, none⟩) (sBlocks s).length cB, .slice oL (sLeases s).length cL, .int .i64 (sTok s), .int .i64 (sNow s), .slice oS (sSess s).length cS, .int .i64 (sNext s), .int .i64 (sCount s)] ∧ Box V X1.heap.size [.slice oP' (sPools t).length cP', .slice (some ⟨p', q', none⟩) (sBlocks t).length cB', .slice oL' (sLeases t).length cL', .int .i64 (sTok t), .int .i64 (sNow t), .slice oS' (sSess t).length cS', .int .i64 (sNext t), .int .i64 (sCount t)]) (by kernel_rfl) ⟨M, B2, B5⟩ (fun hS => ?_)
      refine dr_val 0 80 rfl (by kernel_rfl) (fun c a d v w hq => hpan c a d v w hq) (v := (.pointer (some ⟨w.heap.size, 0 + 0, none⟩))) (fun V hV => ex_field (S.get 2 _ rfl) (by kernel_rfl) V) hS ?_
      replace S := S.put (by decide : 80 < 167) (.pointer (some ⟨w.heap.size, 0 + 0, none⟩))
      refine dr_val 1 81 rfl (by kernel_rfl) (fun c a d v w hq => hpan c a d v w hq) (v := (.pointer (some ⟨w.heap.size, 0 + 0 + 1, none⟩))) (fun V hV => ex_field (S.get 80 _ rfl) (by kernel_rfl) V) hS ?_
      replace S := S.put (by decide : 81 < 167) (.pointer (some ⟨w.heap.size, 0 + 0 + 1, none⟩))
      refine dr_val 2 82 rfl (by kernel_rfl) (fun c a d v w hq => hpan c a d v w hq) (v := (.slice (some ⟨p, q, none⟩) (sBlocks s).length cB)) (fun V hV => ex_load (S.get 81 _ rfl) ⟨by kernel_rfl, by kernel_rfl⟩ V (box_at hV.2.1 rfl)) hS ?_
      replace S := S.put (by decide : 82 < 167) (.slice (some ⟨p, q, none⟩) (sBlocks s).length cB)
      refine dr_val 3 83 rfl (by kernel_rfl) (fun c a d v w hq => hpan c a d v w hq) (v := (.int .i64 i)) (fun V hV => ex_move (S.get 6 _ rfl) V) hS ?_
      replace S := S.put (by decide : 83 < 167) (.int .i64 i)
      refine dr_val 4 84 rfl (by kernel_rfl) (fun c a d v w hq => hpan c a d v w hq) (v := (.pointer (some ⟨p, q + i * 5, none⟩))) (fun V hV => ex_index (e := 119) (i := i) (k := 5) (by kernel_rfl) (by kernel_rfl) (S.get 82 _ rfl) (S.get 83 _ rfl) (by omega) V) hS ?_
      replace S := S.put (by decide : 84 < 167) (.pointer (some ⟨p, q + i * 5, none⟩))
      refine dr_val 5 85 rfl (by kernel_rfl) (fun c a d v w hq => hpan c a d v w hq) (v := (.agg (List.toArray ux))) (fun V hV => ex_agg (us := ux) (S.get 84 _ rfl) ⟨by kernel_rfl, by kernel_rfl⟩ hlx V (hsx.frm (Fr.of hV.1) (Nat.zero_le _) hpx)) hS ?_
      replace S := S.put (by decide : 85 < 167) (.agg (List.toArray ux))
      refine dr_val 6 86 rfl (by kernel_rfl) (fun c a d v w hq => hpan c a d v w hq) (v := (.pointer (some ⟨X1.heap.size, 0 + 0, none⟩))) (fun V hV => ex_field (S.get 3 _ rfl) (by kernel_rfl) V) hS ?_
      replace S := S.put (by decide : 86 < 167) (.pointer (some ⟨X1.heap.size, 0 + 0, none⟩))
      refine dr_val 7 87 rfl (by kernel_rfl) (fun c a d v w hq => hpan c a d v w hq) (v := (.pointer (some ⟨X1.heap.size, 0 + 0 + 1, none⟩))) (fun V hV => ex_field (S.get 86 _ rfl) (by kernel_rfl) V) hS ?_
      replace S := S.put (by decide : 87 < 167) (.pointer (some ⟨X1.heap.size, 0 + 0 + 1, none⟩))
      refine dr_val 8 88 rfl (by kernel_rfl) (fun c a d v w hq => hpan c a d v w hq) (v := (.slice (some ⟨p', q', none⟩) (sBlocks t).length cB')) (fun V hV => ex_load (S.get 87 _ rfl) ⟨by kernel_rfl, by kernel_rfl⟩ V (box_at hV.2.2 rfl)) hS ?_
      replace S := S.put (by decide : 88 < 167) (.slice (some ⟨p', q', none⟩) (sBlocks t).length cB')
      refine dr_val 9 89 rfl (by kernel_rfl) (fun c a d v w hq => hpan c a d v w hq) (v := (.int .i64 i)) (fun V hV => ex_move (S.get 6 _ rfl) V) hS ?_
      replace S := S.put (by decide : 89 < 167) (.int .i64 i)
      refine dr_val 10 90 rfl (by kernel_rfl) (fun c a d v w hq => hpan c a d v w hq) (v := (.pointer (some ⟨p', q' + i * 5, none⟩))) (fun V hV => ex_index (e := 119) (i := i) (k := 5) (by kernel_rfl) (by kernel_rfl) (S.get 88 _ rfl) (S.get 89 _ rfl) (by omega) V) hS ?_
      replace S := S.put (by decide : 90 < 167) (.pointer (some ⟨p', q' + i * 5, none⟩))
      refine dr_val 11 91 rfl (by kernel_rfl) (fun c a d v w hq => hpan c a d v w hq) (v := (.agg (List.toArray uy))) (fun V hV => ex_agg (us := uy) (S.get 90 _ rfl) ⟨by kernel_rfl, by kernel_rfl⟩ hly V (hsy.frm (Fr.of hV.1) (Nat.zero_le _) hpy)) hS ?_
      replace S := S.put (by decide : 91 < 167) (.agg (List.toArray uy))
      refine dr_val 12 92 rfl (by kernel_rfl) (fun c a d v w hq => hpan c a d v w hq) (v := (.bool false)) (fun V hV => ex_bin (u := (.agg (List.toArray ux))) (v := (.agg (List.toArray uy))) (S.get 85 _ rfl) (S.get 91 _ rfl) V ((nqBlock ux uy x y w w 0 0 hrx hry _ _ V).trans (by rw [hE]; rfl))) hS ?_
      replace S := S.put (by decide : 92 < 167) (.bool false)
      refine ⟨by kernel_rfl, ?_⟩
      refine wp_cond_false (S.get 92 _ rfl) (wp_skip ?_)
      replace S := (((S.nil).add (S.get 2 _ rfl)).add (S.get 3 _ rfl)).add (S.get 6 _ rfl)
      refine env_gen (C := fun a => Code.wp Tryz.prog _ _ a _) S ?_
      clear S; intro a S
      refine wp_region_list ?_
      refine wpl_val (v := (.int .i64 i)) (ex_move (S.get 6 _ rfl) _) ?_
      replace S := S.put (by decide : 78 < 167) (.int .i64 i)
      refine wpl_val (v := (.int .i64 (i + 1))) (ex_bin (u := (.int .i64 i)) (v := (.int .i64 1)) (S.get 78 _ rfl) rfl _ (run_inc _ (by omega) (by omega))) ?_
      replace S := S.put (by decide : 79 < 167) (.int .i64 (i + 1))
      refine env_gen (C := fun a => wpList Tryz.prog _ _ _ a _) S ?_
      clear S; intro a S
      refine wpl_val (v := (.int .i64 (i + 1))) (ex_assign (S.get 79 _ rfl) _) ?_
      replace S := S.put (by decide : 6 < 167) (.int .i64 (i + 1))
      refine wpl_nil ?_
      exact ⟨⟨(((S.nil).add (S.get 2 _ rfl)).add (S.get 3 _ rfl)).add (S.get 6 _ rfl), allN_step hall (hg.trans hE), M, B2, B5⟩, hlt⟩
  rw [decide_eq_true (by omega : (i : Int) < ((sPools s).length : Int))] at S ⊢
  refine wp_cond_true (S.get 56 _ rfl) (wp_skip ?_)
  replace S := (((S.nil).add (S.get 2 _ rfl)).add (S.get 3 _ rfl)).add (S.get 5 _ rfl)
  refine env_gen (C := fun a => Code.wp Tryz.prog _ _ a _) S ?_
  clear S; intro a S
  obtain ⟨x, hxi⟩ : ∃ z, (sPools s)[i]? = some z := ⟨_, List.getElem?_eq_getElem (by omega)⟩
  obtain ⟨p, q, rfl⟩ : ∃ p q, oP = some ⟨p, q, none⟩ := by obtain ⟨p, q, _, e, _⟩ := hs.hP i x hxi; exact ⟨p, q, e⟩
  obtain ⟨ux, hpx, hsx, hrx⟩ := (hs.hP i x hxi).out2
  have hlx : ux.length = 5 := (cPool.len hrx).trans (by kernel_rfl)
  rw [show cPool.k = 5 by kernel_rfl] at hsx
  obtain ⟨y, hyi⟩ : ∃ z, (sPools t)[i]? = some z := ⟨_, List.getElem?_eq_getElem (by omega)⟩
  obtain ⟨p', q', rfl⟩ : ∃ p q, oP' = some ⟨p, q, none⟩ := by obtain ⟨p, q, _, e, _⟩ := ht.hP i y hyi; exact ⟨p, q, e⟩
  obtain ⟨uy, hpy, hsy, hry⟩ := (ht.hP i y hyi).out2
  have hly : uy.length = 5 := (cPool.len hry).trans (by kernel_rfl)
  rw [show cPool.k = 5 by kernel_rfl] at hsy
  have hg := eqK_at (f := eqPool_B) hxi hyi
  refine wp_seq (wp_block ?_)
  cases hE : eqPool_B x y
  case false =>
    refine wp_seq ?_
    have hdr : Below W.heap.size W W.drew := (Below.refl _ W).drew
    have B2 := B2.later hdr
    have B5 := B5.later hdr
    have M := M.trans (hdr.mono M.size)
    have z13 := hdr.size
    clear hdr
    refine wp_region_held_drew (S := fun V => Below w.heap.size w V ∧ Box V w.heap.size [.slice (some ⟨p, q, none⟩) (sPools s).length cP, .slice oB (sBlocks s).length cB, .slice oL (sLeases s).length cL, .int .i64 (sTok s), .int .i64 (sNow s), .slice oS (sSess s).length cS, .int .i64 (sNext s), .int .i64 (sCount s)] ∧ Box V X1.heap.size [.slice (some ⟨p', q', none⟩) (sPools t).length cP', .slice oB' (sBlocks t).length cB', .slice oL' (sLeases t).length cL', .int .i64 (sTok t), .int .i64 (sNow t), .slice oS' (sSess t).length cS', .int .i64 (sNext t), .int .i64 (sCount t)]) (by kernel_rfl) ⟨M, B2, B5⟩ (fun hS => ?_)
    refine dr_val 0 59 rfl (by kernel_rfl) (fun c a d v w hq => hpan c a d v w hq) (v := (.pointer (some ⟨w.heap.size, 0 + 0, none⟩))) (fun V hV => ex_field (S.get 2 _ rfl) (by kernel_rfl) V) hS ?_
    replace S := S.put (by decide : 59 < 167) (.pointer (some ⟨w.heap.size, 0 + 0, none⟩))
    refine dr_val 1 60 rfl (by kernel_rfl) (fun c a d v w hq => hpan c a d v w hq) (v := (.pointer (some ⟨w.heap.size, 0 + 0 + 0, none⟩))) (fun V hV => ex_field (S.get 59 _ rfl) (by kernel_rfl) V) hS ?_
    replace S := S.put (by decide : 60 < 167) (.pointer (some ⟨w.heap.size, 0 + 0 + 0, none⟩))
    refine dr_val 2 61 rfl (by kernel_rfl) (fun c a d v w hq => hpan c a d v w hq) (v := (.slice (some ⟨p, q, none⟩) (sPools s).length cP)) (fun V hV => ex_load (S.get 60 _ rfl) ⟨by kernel_rfl, by kernel_rfl⟩ V (box_at hV.2.1 rfl)) hS ?_
    replace S := S.put (by decide : 61 < 167) (.slice (some ⟨p, q, none⟩) (sPools s).length cP)
    refine dr_val 3 62 rfl (by kernel_rfl) (fun c a d v w hq => hpan c a d v w hq) (v := (.int .i64 i)) (fun V hV => ex_move (S.get 5 _ rfl) V) hS ?_
    replace S := S.put (by decide : 62 < 167) (.int .i64 i)
    refine dr_val 4 63 rfl (by kernel_rfl) (fun c a d v w hq => hpan c a d v w hq) (v := (.pointer (some ⟨p, q + i * 5, none⟩))) (fun V hV => ex_index (e := 117) (i := i) (k := 5) (by kernel_rfl) (by kernel_rfl) (S.get 61 _ rfl) (S.get 62 _ rfl) (by omega) V) hS ?_
    replace S := S.put (by decide : 63 < 167) (.pointer (some ⟨p, q + i * 5, none⟩))
    refine dr_val 5 64 rfl (by kernel_rfl) (fun c a d v w hq => hpan c a d v w hq) (v := (.agg (List.toArray ux))) (fun V hV => ex_agg (us := ux) (S.get 63 _ rfl) ⟨by kernel_rfl, by kernel_rfl⟩ hlx V (hsx.frm (Fr.of hV.1) (Nat.zero_le _) hpx)) hS ?_
    replace S := S.put (by decide : 64 < 167) (.agg (List.toArray ux))
    refine dr_val 6 65 rfl (by kernel_rfl) (fun c a d v w hq => hpan c a d v w hq) (v := (.pointer (some ⟨X1.heap.size, 0 + 0, none⟩))) (fun V hV => ex_field (S.get 3 _ rfl) (by kernel_rfl) V) hS ?_
    replace S := S.put (by decide : 65 < 167) (.pointer (some ⟨X1.heap.size, 0 + 0, none⟩))
    refine dr_val 7 66 rfl (by kernel_rfl) (fun c a d v w hq => hpan c a d v w hq) (v := (.pointer (some ⟨X1.heap.size, 0 + 0 + 0, none⟩))) (fun V hV => ex_field (S.get 65 _ rfl) (by kernel_rfl) V) hS ?_
    replace S := S.put (by decide : 66 < 167) (.pointer (some ⟨X1.heap.size, 0 + 0 + 0, none⟩))
    refine dr_val 8 67 rfl (by kernel_rfl) (fun c a d v w hq => hpan c a d v w hq) (v := (.slice (some ⟨p', q', none⟩) (sPools t).length cP')) (fun V hV => ex_load (S.get 66 _ rfl) ⟨by kernel_rfl, by kernel_rfl⟩ V (box_at hV.2.2 rfl)) hS ?_
    replace S := S.put (by decide : 67 < 167) (.slice (some ⟨p', q', none⟩) (sPools t).length cP')
    refine dr_val 9 68 rfl (by kernel_rfl) (fun c a d v w hq => hpan c a d v w hq) (v := (.int .i64 i)) (fun V hV => ex_move (S.get 5 _ rfl) V) hS ?_
    replace S := S.put (by decide : 68 < 167) (.int .i64 i)
    refine dr_val 10 69 rfl (by kernel_rfl) (fun c a d v w hq => hpan c a d v w hq) (v := (.pointer (some ⟨p', q' + i * 5, none⟩))) (fun V hV => ex_index (e := 117) (i := i) (k := 5) (by kernel_rfl) (by kernel_rfl) (S.get 67 _ rfl) (S.get 68 _ rfl) (by omega) V) hS ?_
    replace S := S.put (by decide : 69 < 167) (.pointer (some ⟨p', q' + i * 5, none⟩))
    refine dr_val 11 70 rfl (by kernel_rfl) (fun c a d v w hq => hpan c a d v w hq) (v := (.agg (List.toArray uy))) (fun V hV => ex_agg (us := uy) (S.get 69 _ rfl) ⟨by kernel_rfl, by kernel_rfl⟩ hly V (hsy.frm (Fr.of hV.1) (Nat.zero_le _) hpy)) hS ?_
    replace S := S.put (by decide : 70 < 167) (.agg (List.toArray uy))
    refine dr_val 12 71 rfl (by kernel_rfl) (fun c a d v w hq => hpan c a d v w hq) (v := (.bool true)) (fun V hV => ex_bin (u := (.agg (List.toArray ux))) (v := (.agg (List.toArray uy))) (S.get 64 _ rfl) (S.get 70 _ rfl) V ((nqPool ux uy x y w w 0 0 hrx hry _ _ V).trans (by rw [hE]; rfl))) hS ?_
    replace S := S.put (by decide : 71 < 167) (.bool true)
    refine ⟨by kernel_rfl, ?_⟩
    refine wp_cond_true (S.get 71 _ rfl) ?_
    refine wp_seq (wp_region_list ?_)
    refine wpl_val (v := (.bool false)) (ex_assign (v := (.bool false)) rfl _) ?_
    replace S := S.put (by decide : 4 < 167) (.bool false)
    refine wpl_nil ?_
    refine wp_ret ?_
    exact ret_at (P := Tryz.prog) (fn := Tryz.f15) (R := fun e w' => e = .returned (.bool (sameSt s t)) ∧ Below w.heap.size w w') S rfl rfl ⟨by unfold sameSt planE; rw [eqR_bad (hg.trans hE) hlt]; simp, M⟩
  case true =>
    refine wp_seq ?_
    have hdr : Below W.heap.size W W.drew := (Below.refl _ W).drew
    have B2 := B2.later hdr
    have B5 := B5.later hdr
    have M := M.trans (hdr.mono M.size)
    have z14 := hdr.size
    clear hdr
    refine wp_region_held_drew (S := fun V => Below w.heap.size w V ∧ Box V w.heap.size [.slice (some ⟨p, q, none⟩) (sPools s).length cP, .slice oB (sBlocks s).length cB, .slice oL (sLeases s).length cL, .int .i64 (sTok s), .int .i64 (sNow s), .slice oS (sSess s).length cS, .int .i64 (sNext s), .int .i64 (sCount s)] ∧ Box V X1.heap.size [.slice (some ⟨p', q', none⟩) (sPools t).length cP', .slice oB' (sBlocks t).length cB', .slice oL' (sLeases t).length cL', .int .i64 (sTok t), .int .i64 (sNow t), .slice oS' (sSess t).length cS', .int .i64 (sNext t), .int .i64 (sCount t)]) (by kernel_rfl) ⟨M, B2, B5⟩ (fun hS => ?_)
    refine dr_val 0 59 rfl (by kernel_rfl) (fun c a d v w hq => hpan c a d v w hq) (v := (.pointer (some ⟨w.heap.size, 0 + 0, none⟩))) (fun V hV => ex_field (S.get 2 _ rfl) (by kernel_rfl) V) hS ?_
    replace S := S.put (by decide : 59 < 167) (.pointer (some ⟨w.heap.size, 0 + 0, none⟩))
    refine dr_val 1 60 rfl (by kernel_rfl) (fun c a d v w hq => hpan c a d v w hq) (v := (.pointer (some ⟨w.heap.size, 0 + 0 + 0, none⟩))) (fun V hV => ex_field (S.get 59 _ rfl) (by kernel_rfl) V) hS ?_
    replace S := S.put (by decide : 60 < 167) (.pointer (some ⟨w.heap.size, 0 + 0 + 0, none⟩))
    refine dr_val 2 61 rfl (by kernel_rfl) (fun c a d v w hq => hpan c a d v w hq) (v := (.slice (some ⟨p, q, none⟩) (sPools s).length cP)) (fun V hV => ex_load (S.get 60 _ rfl) ⟨by kernel_rfl, by kernel_rfl⟩ V (box_at hV.2.1 rfl)) hS ?_
    replace S := S.put (by decide : 61 < 167) (.slice (some ⟨p, q, none⟩) (sPools s).length cP)
    refine dr_val 3 62 rfl (by kernel_rfl) (fun c a d v w hq => hpan c a d v w hq) (v := (.int .i64 i)) (fun V hV => ex_move (S.get 5 _ rfl) V) hS ?_
    replace S := S.put (by decide : 62 < 167) (.int .i64 i)
    refine dr_val 4 63 rfl (by kernel_rfl) (fun c a d v w hq => hpan c a d v w hq) (v := (.pointer (some ⟨p, q + i * 5, none⟩))) (fun V hV => ex_index (e := 117) (i := i) (k := 5) (by kernel_rfl) (by kernel_rfl) (S.get 61 _ rfl) (S.get 62 _ rfl) (by omega) V) hS ?_
    replace S := S.put (by decide : 63 < 167) (.pointer (some ⟨p, q + i * 5, none⟩))
    refine dr_val 5 64 rfl (by kernel_rfl) (fun c a d v w hq => hpan c a d v w hq) (v := (.agg (List.toArray ux))) (fun V hV => ex_agg (us := ux) (S.get 63 _ rfl) ⟨by kernel_rfl, by kernel_rfl⟩ hlx V (hsx.frm (Fr.of hV.1) (Nat.zero_le _) hpx)) hS ?_
    replace S := S.put (by decide : 64 < 167) (.agg (List.toArray ux))
    refine dr_val 6 65 rfl (by kernel_rfl) (fun c a d v w hq => hpan c a d v w hq) (v := (.pointer (some ⟨X1.heap.size, 0 + 0, none⟩))) (fun V hV => ex_field (S.get 3 _ rfl) (by kernel_rfl) V) hS ?_
    replace S := S.put (by decide : 65 < 167) (.pointer (some ⟨X1.heap.size, 0 + 0, none⟩))
    refine dr_val 7 66 rfl (by kernel_rfl) (fun c a d v w hq => hpan c a d v w hq) (v := (.pointer (some ⟨X1.heap.size, 0 + 0 + 0, none⟩))) (fun V hV => ex_field (S.get 65 _ rfl) (by kernel_rfl) V) hS ?_
    replace S := S.put (by decide : 66 < 167) (.pointer (some ⟨X1.heap.size, 0 + 0 + 0, none⟩))
    refine dr_val 8 67 rfl (by kernel_rfl) (fun c a d v w hq => hpan c a d v w hq) (v := (.slice (some ⟨p', q', none⟩) (sPools t).length cP')) (fun V hV => ex_load (S.get 66 _ rfl) ⟨by kernel_rfl, by kernel_rfl⟩ V (box_at hV.2.2 rfl)) hS ?_
    replace S := S.put (by decide : 67 < 167) (.slice (some ⟨p', q', none⟩) (sPools t).length cP')
    refine dr_val 9 68 rfl (by kernel_rfl) (fun c a d v w hq => hpan c a d v w hq) (v := (.int .i64 i)) (fun V hV => ex_move (S.get 5 _ rfl) V) hS ?_
    replace S := S.put (by decide : 68 < 167) (.int .i64 i)
    refine dr_val 10 69 rfl (by kernel_rfl) (fun c a d v w hq => hpan c a d v w hq) (v := (.pointer (some ⟨p', q' + i * 5, none⟩))) (fun V hV => ex_index (e := 117) (i := i) (k := 5) (by kernel_rfl) (by kernel_rfl) (S.get 67 _ rfl) (S.get 68 _ rfl) (by omega) V) hS ?_
    replace S := S.put (by decide : 69 < 167) (.pointer (some ⟨p', q' + i * 5, none⟩))
    refine dr_val 11 70 rfl (by kernel_rfl) (fun c a d v w hq => hpan c a d v w hq) (v := (.agg (List.toArray uy))) (fun V hV => ex_agg (us := uy) (S.get 69 _ rfl) ⟨by kernel_rfl, by kernel_rfl⟩ hly V (hsy.frm (Fr.of hV.1) (Nat.zero_le _) hpy)) hS ?_
    replace S := S.put (by decide : 70 < 167) (.agg (List.toArray uy))
    refine dr_val 12 71 rfl (by kernel_rfl) (fun c a d v w hq => hpan c a d v w hq) (v := (.bool false)) (fun V hV => ex_bin (u := (.agg (List.toArray ux))) (v := (.agg (List.toArray uy))) (S.get 64 _ rfl) (S.get 70 _ rfl) V ((nqPool ux uy x y w w 0 0 hrx hry _ _ V).trans (by rw [hE]; rfl))) hS ?_
    replace S := S.put (by decide : 71 < 167) (.bool false)
    refine ⟨by kernel_rfl, ?_⟩
    refine wp_cond_false (S.get 71 _ rfl) (wp_skip ?_)
    replace S := (((S.nil).add (S.get 2 _ rfl)).add (S.get 3 _ rfl)).add (S.get 5 _ rfl)
    refine env_gen (C := fun a => Code.wp Tryz.prog _ _ a _) S ?_
    clear S; intro a S
    refine wp_region_list ?_
    refine wpl_val (v := (.int .i64 i)) (ex_move (S.get 5 _ rfl) _) ?_
    replace S := S.put (by decide : 57 < 167) (.int .i64 i)
    refine env_gen (C := fun a => wpList Tryz.prog _ _ _ a _) S ?_
    clear S; intro a S
    refine wpl_val (v := (.int .i64 (i + 1))) (ex_bin (u := (.int .i64 i)) (v := (.int .i64 1)) (S.get 57 _ rfl) rfl _ (run_inc _ (by omega) (by omega))) ?_
    replace S := S.put (by decide : 58 < 167) (.int .i64 (i + 1))
    refine wpl_val (v := (.int .i64 (i + 1))) (ex_assign (S.get 58 _ rfl) _) ?_
    replace S := S.put (by decide : 5 < 167) (.int .i64 (i + 1))
    refine wpl_nil ?_
    exact ⟨⟨(((S.nil).add (S.get 2 _ rfl)).add (S.get 3 _ rfl)).add (S.get 5 _ rfl), allN_step hall (hg.trans hE), M, B2, B5⟩, hlt⟩

end Go.Proofs.YtjiplphfpkhmpaaGreat
