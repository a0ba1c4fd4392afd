/-
  Two plans.
-/
import Derived.Test.YtjiplphfpkhmpaaGreatJU
namespace Go.Proofs.YtjiplphfpkhmpaaGreat
open Go.RowKit

set_option maxRecDepth 20000 in
set_option maxHeartbeats 8000000 in
theorem samePl {oP oB oL oS oP' oB' oL' oS' : Option Addr} {cP cB cL cS cP' cB' cL' cS' : Nat} {us vs : List Value} {s t : StA} {w : World} (hs : StaC w s us oP oB oL oS cP cB cL cS) (ht : StaC w t vs oP' oB' oL' oS' cP' cB' cL' cS') :
    Calls Tryz.prog 67 #[.agg (List.toArray [.slice oP (sPools s).length cP, .slice oB (sBlocks s).length cB]), .agg (List.toArray [.slice oP' (sPools t).length cP', .slice oB' (sBlocks t).length cB'])] w fun e w' => e = .returned (.bool (planE s t)) ∧ Below w.heap.size w w' := by
  refine calls_of_wp Tryz.func67 rfl ?_
  have hpan := pan_body (P := Tryz.prog) (fn := Tryz.f67) (R := fun e w' => e = .returned (.bool (planE s t)) ∧ Below w.heap.size w w')
  refine env2 (N := 17) rfl (by decide) ?_
  intro a S
  have M : Below w.heap.size w w := Below.refl _ _
  refine wp_seq (wp_region_list ?_)
  refine wpl_box (us := [.slice oP (sPools s).length cP, .slice oB (sBlocks s).length cB]) (by rw [S.get 0 _ rfl]; rfl) ?_
  intro X1 B2 l3 _
  have M := M.trans (l3.mono M.size)
  replace S := S.put (by decide : 2 < 17) (.pointer (some ⟨w.heap.size, 0, none⟩))
  refine wpl_box (us := [.slice oP' (sPools t).length cP', .slice oB' (sBlocks t).length cB']) (by rw [S.get 1 _ rfl]; rfl) ?_
  intro X4 B5 l6 _
  have M := M.trans (l6.mono M.size)
  have B2 := B2.later l6
  replace S := S.put (by decide : 3 < 17) (.pointer (some ⟨X1.heap.size, 0, none⟩))
  refine wpl_val (v := (.bool false)) (ex_assign (v := (.bool false)) rfl _) ?_
  replace S := S.put (by decide : 4 < 17) (.bool false)
  refine wpl_nil ?_
  replace S := ((S.nil).add (S.get 2 _ rfl)).add (S.get 3 _ rfl)
  refine env_gen (C := fun a => Code.wp Tryz.prog _ _ a _) S ?_
  clear S; intro a S
  cases hE1 : eqR eqPool_B (sPools s) (sPools t)
  case false =>
    refine wp_seq (wp_region_list ?_)
    refine wpl_val (v := (.pointer (some ⟨w.heap.size, 0 + 0, none⟩))) (ex_field (S.get 2 _ rfl) (by kernel_rfl) _) ?_
    replace S := S.put (by decide : 5 < 17) (.pointer (some ⟨w.heap.size, 0 + 0, none⟩))
    refine wpl_val (v := (.slice oP (sPools s).length cP)) (ex_load (S.get 5 _ rfl) ⟨by kernel_rfl, by kernel_rfl⟩ _ (box_at B2 rfl)) ?_
    replace S := S.put (by decide : 6 < 17) (.slice oP (sPools s).length cP)
    refine wpl_val (v := (.pointer (some ⟨X1.heap.size, 0 + 0, none⟩))) (ex_field (S.get 3 _ rfl) (by kernel_rfl) _) ?_
    replace S := S.put (by decide : 7 < 17) (.pointer (some ⟨X1.heap.size, 0 + 0, none⟩))
    refine wpl_val (v := (.slice oP' (sPools t).length cP')) (ex_load (S.get 7 _ rfl) ⟨by kernel_rfl, by kernel_rfl⟩ _ (box_at B5 rfl)) ?_
    replace S := S.put (by decide : 8 < 17) (.slice oP' (sPools t).length cP')
    have zq0 : Act.eval _ (.tmp 6) = (.slice oP (sPools s).length cP) := S.get 6 _ rfl
    have zq1 : Act.eval _ (.tmp 8) = (.slice oP' (sPools t).length cP') := S.get 8 _ rfl
    refine wpl_call (R := fun e V => e = .returned (.bool false) ∧ Below X4.heap.size X4 V) ⟨_, Tryz.func83, by kernel_rfl, by kernel_rfl⟩ ?_ ?_
    · have hc := slEqPool oP oP' cP cP' (sPools s) (sPools t) X4 hs.nP (fun j z e => ((hs.hP j z e).frm (Fr.of M))) (fun j z e => ((ht.hP j z e).frm (Fr.of M)))
      rw [hE1] at hc
      simp only [List.map_toArray, List.map_cons, List.map_nil, zq0, zq1]; exact hc
    rintro e V7 ⟨rfl, hb8⟩
    refine ⟨_, rfl, ?_⟩
    have B2 := B2.later hb8
    have B5 := B5.later hb8
    have M := M.trans (hb8.mono M.size)
    have z9 := hb8.size
    replace S := S.put (by decide : 9 < 17) (.bool false)
    refine env_gen (C := fun a => wpList Tryz.prog _ _ _ a _) S ?_
    clear S; intro a S
    refine wpl_val (v := (.bool false)) (ex_move (S.get 9 _ rfl) _) ?_
    replace S := S.put (by decide : 10 < 17) (.bool false)
    refine env_gen (C := fun a => wpList Tryz.prog _ _ _ a _) S ?_
    clear S; intro a S
    refine wg_skip (wan_no (j := 5) (t := 10) (b := true) (c := false) rfl (S.get 10 _ rfl) (by decide)) ?_
    replace S := S.put (by decide : 11 < 17) undef
    refine env_gen (C := fun a => wpList Tryz.prog _ _ _ a _) S ?_
    clear S; intro a S
    refine wg_skip (wan_no (j := 5) (t := 10) (b := true) (c := false) rfl (S.get 10 _ rfl) (by decide)) ?_
    replace S := S.put (by decide : 12 < 17) undef
    refine env_gen (C := fun a => wpList Tryz.prog _ _ _ a _) S ?_
    clear S; intro a S
    refine wg_skip (wan_no (j := 5) (t := 10) (b := true) (c := false) rfl (S.get 10 _ rfl) (by decide)) ?_
    replace S := S.put (by decide : 13 < 17) undef
    refine env_gen (C := fun a => wpList Tryz.prog _ _ _ a _) S ?_
    clear S; intro a S
    refine wg_skip (wan_no (j := 5) (t := 10) (b := true) (c := false) rfl (S.get 10 _ rfl) (by decide)) ?_
    replace S := S.put (by decide : 14 < 17) undef
    refine env_gen (C := fun a => wpList Tryz.prog _ _ _ a _) S ?_
    clear S; intro a S
    refine wg_skip (wan_no (j := 5) (t := 10) (b := true) (c := false) rfl (S.get 10 _ rfl) (by decide)) ?_
    replace S := S.put (by decide : 15 < 17) undef
    refine wpl_val (v := (.bool false)) (ex_pickF (v := (.bool false)) (S.get 10 _ rfl) rfl _) ?_
    replace S := S.put (by decide : 16 < 17) (.bool false)
    refine wpl_val (v := (.bool false)) (ex_assign (S.get 16 _ rfl) _) ?_
    replace S := S.put (by decide : 4 < 17) (.bool false)
    refine wpl_nil ?_
    refine wp_ret ?_
    exact ret_at (P := Tryz.prog) (fn := Tryz.f67) (R := fun e w' => e = .returned (.bool (planE s t)) ∧ Below w.heap.size w w') S rfl rfl ⟨by unfold planE; rw [hE1]; rfl, M⟩
  case true =>
    refine wp_seq (wp_region_list ?_)
    refine wpl_val (v := (.pointer (some ⟨w.heap.size, 0 + 0, none⟩))) (ex_field (S.get 2 _ rfl) (by kernel_rfl) _) ?_
    replace S := S.put (by decide : 5 < 17) (.pointer (some ⟨w.heap.size, 0 + 0, none⟩))
    refine wpl_val (v := (.slice oP (sPools s).length cP)) (ex_load (S.get 5 _ rfl) ⟨by kernel_rfl, by kernel_rfl⟩ _ (box_at B2 rfl)) ?_
    replace S := S.put (by decide : 6 < 17) (.slice oP (sPools s).length cP)
    refine wpl_val (v := (.pointer (some ⟨X1.heap.size, 0 + 0, none⟩))) (ex_field (S.get 3 _ rfl) (by kernel_rfl) _) ?_
    replace S := S.put (by decide : 7 < 17) (.pointer (some ⟨X1.heap.size, 0 + 0, none⟩))
    refine wpl_val (v := (.slice oP' (sPools t).length cP')) (ex_load (S.get 7 _ rfl) ⟨by kernel_rfl, by kernel_rfl⟩ _ (box_at B5 rfl)) ?_
    replace S := S.put (by decide : 8 < 17) (.slice oP' (sPools t).length cP')
    have zq0 : Act.eval _ (.tmp 6) = (.slice oP (sPools s).length cP) := S.get 6 _ rfl
    have zq1 : Act.eval _ (.tmp 8) = (.slice oP' (sPools t).length cP') := S.get 8 _ rfl
    refine wpl_call (R := fun e V => e = .returned (.bool true) ∧ Below X4.heap.size X4 V) ⟨_, Tryz.func83, by kernel_rfl, by kernel_rfl⟩ ?_ ?_
    · have hc := slEqPool oP oP' cP cP' (sPools s) (sPools t) X4 hs.nP (fun j z e => ((hs.hP j z e).frm (Fr.of M))) (fun j z e => ((ht.hP j z e).frm (Fr.of M)))
      rw [hE1] at hc
      simp only [List.map_toArray, List.map_cons, List.map_nil, zq0, zq1]; exact hc
    rintro e V12 ⟨rfl, hb13⟩
    refine ⟨_, rfl, ?_⟩
    have B2 := B2.later hb13
    have B5 := B5.later hb13
    have M := M.trans (hb13.mono M.size)
    have z14 := hb13.size
    replace S := S.put (by decide : 9 < 17) (.bool true)
    refine env_gen (C := fun a => wpList Tryz.prog _ _ _ a _) S ?_
    clear S; intro a S
    refine wpl_val (v := (.bool true)) (ex_move (S.get 9 _ rfl) _) ?_
    replace S := S.put (by decide : 10 < 17) (.bool true)
    refine env_gen (C := fun a => wpList Tryz.prog _ _ _ a _) S ?_
    clear S; intro a S
    refine wg_val (v := (.pointer (some ⟨w.heap.size, 0 + 1, none⟩))) (wan_yes (j := 5) (t := 10) (b := true) rfl (S.get 10 _ rfl) (by rw [S.sz]; decide)) (ex_field (S.get 2 _ rfl) (by kernel_rfl) _) ?_
    replace S := S.put (by decide : 11 < 17) (.pointer (some ⟨w.heap.size, 0 + 1, none⟩))
    refine env_gen (C := fun a => wpList Tryz.prog _ _ _ a _) S ?_
    clear S; intro a S
    refine wg_val (v := (.slice oB (sBlocks s).length cB)) (wan_yes (j := 5) (t := 10) (b := true) rfl (S.get 10 _ rfl) (by rw [S.sz]; decide)) (ex_load (S.get 11 _ rfl) ⟨by kernel_rfl, by kernel_rfl⟩ _ (box_at B2 rfl)) ?_
    replace S := S.put (by decide : 12 < 17) (.slice oB (sBlocks s).length cB)
    refine env_gen (C := fun a => wpList Tryz.prog _ _ _ a _) S ?_
    clear S; intro a S
    refine wg_val (v := (.pointer (some ⟨X1.heap.size, 0 + 1, none⟩))) (wan_yes (j := 5) (t := 10) (b := true) rfl (S.get 10 _ rfl) (by rw [S.sz]; decide)) (ex_field (S.get 3 _ rfl) (by kernel_rfl) _) ?_
    replace S := S.put (by decide : 13 < 17) (.pointer (some ⟨X1.heap.size, 0 + 1, none⟩))
    refine env_gen (C := fun a => wpList Tryz.prog _ _ _ a _) S ?_
    clear S; intro a S
    refine wg_val (v := (.slice oB' (sBlocks t).length cB')) (wan_yes (j := 5) (t := 10) (b := true) rfl (S.get 10 _ rfl) (by rw [S.sz]; decide)) (ex_load (S.get 13 _ rfl) ⟨by kernel_rfl, by kernel_rfl⟩ _ (box_at B5 rfl)) ?_
    replace S := S.put (by decide : 14 < 17) (.slice oB' (sBlocks t).length cB')
    refine env_gen (C := fun a => wpList Tryz.prog _ _ _ a _) S ?_
    clear S; intro a S
    have zq0 : Act.eval _ (.tmp 12) = (.slice oB (sBlocks s).length cB) := S.get 12 _ rfl
    have zq1 : Act.eval _ (.tmp 14) = (.slice oB' (sBlocks t).length cB') := S.get 14 _ rfl
    refine wg_call (R := fun e V => e = .returned (.bool (eqR eqBlock_B (sBlocks s) (sBlocks t))) ∧ Below V12.heap.size V12 V) (wan_yes (j := 5) (t := 10) (b := true) rfl (S.get 10 _ rfl) (by rw [S.sz]; decide)) ⟨_, Tryz.func84, by kernel_rfl, by kernel_rfl⟩ ?_ ?_
    · have hc := slEqBlock oB oB' cB cB' (sBlocks s) (sBlocks t) V12 hs.nB (fun j z e => ((hs.hB j z e).frm (Fr.of M))) (fun j z e => ((ht.hB j z e).frm (Fr.of M)))
      simp only [List.map_toArray, List.map_cons, List.map_nil, zq0, zq1]; exact hc
    rintro e V15 ⟨rfl, hb16⟩
    refine ⟨_, rfl, ?_⟩
    have B2 := B2.later hb16
    have B5 := B5.later hb16
    have M := M.trans (hb16.mono M.size)
    have z17 := hb16.size
    replace S := S.put (by decide : 15 < 17) (.bool (eqR eqBlock_B (sBlocks s) (sBlocks t)))
    refine env_gen (C := fun a => wpList Tryz.prog _ _ _ a _) S ?_
    clear S; intro a S
    refine wpl_val (v := (.bool (eqR eqBlock_B (sBlocks s) (sBlocks t)))) (ex_pickT (v := (.bool (eqR eqBlock_B (sBlocks s) (sBlocks t)))) (S.get 10 _ rfl) (S.get 15 _ rfl) _) ?_
    replace S := S.put (by decide : 16 < 17) (.bool (eqR eqBlock_B (sBlocks s) (sBlocks t)))
    refine wpl_val (v := (.bool (eqR eqBlock_B (sBlocks s) (sBlocks t)))) (ex_assign (S.get 16 _ rfl) _) ?_
    replace S := S.put (by decide : 4 < 17) (.bool (eqR eqBlock_B (sBlocks s) (sBlocks t)))
    refine wpl_nil ?_
    refine wp_ret ?_
    exact ret_at (P := Tryz.prog) (fn := Tryz.f67) (R := fun e w' => e = .returned (.bool (planE s t)) ∧ Below w.heap.size w w') S rfl rfl ⟨by unfold planE; rw [hE1, Bool.true_and], M⟩

end Go.Proofs.YtjiplphfpkhmpaaGreat
