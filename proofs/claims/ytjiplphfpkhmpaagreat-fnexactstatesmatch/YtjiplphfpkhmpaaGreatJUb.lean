/-
  Two books.
-/
import Derived.Test.YtjiplphfpkhmpaaGreatJU
namespace Go.Proofs.YtjiplphfpkhmpaaGreat
open Go.RowKit

set_option maxRecDepth 20000 in
set_option maxHeartbeats 8000000 in
theorem sameBk {oP oB oL oS oP' oB' oL' oS' : Option Addr} {cP cB cL cS cP' cB' cL' cS' : Nat} {us vs : List Value} {s t : StA} {w : World} (hs : StaC w s us oP oB oL oS cP cB cL cS) (ht : StaC w t vs oP' oB' oL' oS' cP' cB' cL' cS') :
    Calls Tryz.prog 68 #[.agg (List.toArray [.slice oL (sLeases s).length cL, .int .i64 (sTok s), .int .i64 (sNow s)]), .agg (List.toArray [.slice oL' (sLeases t).length cL', .int .i64 (sTok t), .int .i64 (sNow t)])] w fun e w' => e = .returned (.bool (bookE s t)) ∧ Below w.heap.size w w' := by
  refine calls_of_wp Tryz.func68 rfl ?_
  have hpan := pan_body (P := Tryz.prog) (fn := Tryz.f68) (R := fun e w' => e = .returned (.bool (bookE s t)) ∧ Below w.heap.size w w')
  refine env2 (N := 24) rfl (by decide) ?_
  intro a S
  have M : Below w.heap.size w w := Below.refl _ _
  refine wp_seq (wp_region_list ?_)
  refine wpl_box (us := [.slice oL (sLeases s).length cL, .int .i64 (sTok s), .int .i64 (sNow s)]) (by rw [S.get 0 _ rfl]; rfl) ?_
  intro X1 B2 l3 _
  have M := M.trans (l3.mono M.size)
  replace S := S.put (by decide : 2 < 24) (.pointer (some ⟨w.heap.size, 0, none⟩))
  refine wpl_box (us := [.slice oL' (sLeases t).length cL', .int .i64 (sTok t), .int .i64 (sNow t)]) (by rw [S.get 1 _ rfl]; rfl) ?_
  intro X4 B5 l6 _
  have M := M.trans (l6.mono M.size)
  have B2 := B2.later l6
  replace S := S.put (by decide : 3 < 24) (.pointer (some ⟨X1.heap.size, 0, none⟩))
  refine wpl_val (v := (.bool false)) (ex_assign (v := (.bool false)) rfl _) ?_
  replace S := S.put (by decide : 4 < 24) (.bool false)
  refine wpl_nil ?_
  replace S := ((S.nil).add (S.get 2 _ rfl)).add (S.get 3 _ rfl)
  refine env_gen (C := fun a => Code.wp Tryz.prog _ _ a _) S ?_
  clear S; intro a S
  cases hE1 : eqR eqLease_B (sLeases s) (sLeases t)
  case false =>
    refine wp_seq (wp_region_list ?_)
    refine wpl_val (v := (.pointer (some ⟨w.heap.size, 0 + 0, none⟩))) (ex_field (S.get 2 _ rfl) (by kernel_rfl) _) ?_
    replace S := S.put (by decide : 5 < 24) (.pointer (some ⟨w.heap.size, 0 + 0, none⟩))
    refine wpl_val (v := (.slice oL (sLeases s).length cL)) (ex_load (S.get 5 _ rfl) ⟨by kernel_rfl, by kernel_rfl⟩ _ (box_at B2 rfl)) ?_
    replace S := S.put (by decide : 6 < 24) (.slice oL (sLeases s).length cL)
    refine wpl_val (v := (.pointer (some ⟨X1.heap.size, 0 + 0, none⟩))) (ex_field (S.get 3 _ rfl) (by kernel_rfl) _) ?_
    replace S := S.put (by decide : 7 < 24) (.pointer (some ⟨X1.heap.size, 0 + 0, none⟩))
    refine wpl_val (v := (.slice oL' (sLeases t).length cL')) (ex_load (S.get 7 _ rfl) ⟨by kernel_rfl, by kernel_rfl⟩ _ (box_at B5 rfl)) ?_
    replace S := S.put (by decide : 8 < 24) (.slice oL' (sLeases t).length cL')
    have zq0 : Act.eval _ (.tmp 6) = (.slice oL (sLeases s).length cL) := S.get 6 _ rfl
    have zq1 : Act.eval _ (.tmp 8) = (.slice oL' (sLeases t).length cL') := S.get 8 _ rfl
    refine wpl_call (R := fun e V => e = .returned (.bool false) ∧ Below X4.heap.size X4 V) ⟨_, Tryz.func85, by kernel_rfl, by kernel_rfl⟩ ?_ ?_
    · have hc := slEqLease oL oL' cL cL' (sLeases s) (sLeases t) X4 hs.nL (fun j z e => ((hs.hL j z e).frm (Fr.of M))) (fun j z e => ((ht.hL j z e).frm (Fr.of M)))
      rw [hE1] at hc
      simp only [List.map_toArray, List.map_cons, List.map_nil, zq0, zq1]; exact hc
    rintro e V7 ⟨rfl, hb8⟩
    refine ⟨_, rfl, ?_⟩
    have B2 := B2.later hb8
    have B5 := B5.later hb8
    have M := M.trans (hb8.mono M.size)
    have z9 := hb8.size
    replace S := S.put (by decide : 9 < 24) (.bool false)
    refine env_gen (C := fun a => wpList Tryz.prog _ _ _ a _) S ?_
    clear S; intro a S
    refine wpl_val (v := (.bool false)) (ex_move (S.get 9 _ rfl) _) ?_
    replace S := S.put (by decide : 10 < 24) (.bool false)
    refine env_gen (C := fun a => wpList Tryz.prog _ _ _ a _) S ?_
    clear S; intro a S
    refine wg_skip (wan_no (j := 5) (t := 10) (b := true) (c := false) rfl (S.get 10 _ rfl) (by decide)) ?_
    replace S := S.put (by decide : 11 < 24) undef
    refine env_gen (C := fun a => wpList Tryz.prog _ _ _ a _) S ?_
    clear S; intro a S
    refine wg_skip (wan_no (j := 5) (t := 10) (b := true) (c := false) rfl (S.get 10 _ rfl) (by decide)) ?_
    replace S := S.put (by decide : 12 < 24) undef
    refine env_gen (C := fun a => wpList Tryz.prog _ _ _ a _) S ?_
    clear S; intro a S
    refine wg_skip (wan_no (j := 5) (t := 10) (b := true) (c := false) rfl (S.get 10 _ rfl) (by decide)) ?_
    replace S := S.put (by decide : 13 < 24) undef
    refine env_gen (C := fun a => wpList Tryz.prog _ _ _ a _) S ?_
    clear S; intro a S
    refine wg_skip (wan_no (j := 5) (t := 10) (b := true) (c := false) rfl (S.get 10 _ rfl) (by decide)) ?_
    replace S := S.put (by decide : 14 < 24) undef
    refine env_gen (C := fun a => wpList Tryz.prog _ _ _ a _) S ?_
    clear S; intro a S
    refine wg_skip (wan_no (j := 5) (t := 10) (b := true) (c := false) rfl (S.get 10 _ rfl) (by decide)) ?_
    replace S := S.put (by decide : 15 < 24) undef
    refine wpl_val (v := (.bool false)) (ex_pickF (v := (.bool false)) (S.get 10 _ rfl) rfl _) ?_
    replace S := S.put (by decide : 16 < 24) (.bool false)
    refine wpl_val (v := (.bool false)) (ex_move (S.get 16 _ rfl) _) ?_
    replace S := S.put (by decide : 17 < 24) (.bool false)
    refine env_gen (C := fun a => wpList Tryz.prog _ _ _ a _) S ?_
    clear S; intro a S
    refine wg_skip (wan_no (j := 12) (t := 17) (b := true) (c := false) rfl (S.get 17 _ rfl) (by decide)) ?_
    replace S := S.put (by decide : 18 < 24) undef
    refine env_gen (C := fun a => wpList Tryz.prog _ _ _ a _) S ?_
    clear S; intro a S
    refine wg_skip (wan_no (j := 12) (t := 17) (b := true) (c := false) rfl (S.get 17 _ rfl) (by decide)) ?_
    replace S := S.put (by decide : 19 < 24) undef
    refine env_gen (C := fun a => wpList Tryz.prog _ _ _ a _) S ?_
    clear S; intro a S
    refine wg_skip (wan_no (j := 12) (t := 17) (b := true) (c := false) rfl (S.get 17 _ rfl) (by decide)) ?_
    replace S := S.put (by decide : 20 < 24) undef
    refine env_gen (C := fun a => wpList Tryz.prog _ _ _ a _) S ?_
    clear S; intro a S
    refine wg_skip (wan_no (j := 12) (t := 17) (b := true) (c := false) rfl (S.get 17 _ rfl) (by decide)) ?_
    replace S := S.put (by decide : 21 < 24) undef
    refine env_gen (C := fun a => wpList Tryz.prog _ _ _ a _) S ?_
    clear S; intro a S
    refine wg_skip (wan_no (j := 12) (t := 17) (b := true) (c := false) rfl (S.get 17 _ rfl) (by decide)) ?_
    replace S := S.put (by decide : 22 < 24) undef
    refine wpl_val (v := (.bool false)) (ex_pickF (v := (.bool false)) (S.get 17 _ rfl) rfl _) ?_
    replace S := S.put (by decide : 23 < 24) (.bool false)
    refine wpl_val (v := (.bool false)) (ex_assign (S.get 23 _ rfl) _) ?_
    replace S := S.put (by decide : 4 < 24) (.bool false)
    refine wpl_nil ?_
    refine wp_ret ?_
    exact ret_at (P := Tryz.prog) (fn := Tryz.f68) (R := fun e w' => e = .returned (.bool (bookE s t)) ∧ Below w.heap.size w w') S rfl rfl ⟨by unfold bookE; rw [hE1]; rfl, M⟩
  by_cases hT : sTok s = sTok t
  case pos =>
    have eT : (sTok s == sTok t) = true := by simp [hT]
    refine wp_seq (wp_region_list ?_)
    refine wpl_val (v := (.pointer (some ⟨w.heap.size, 0 + 0, none⟩))) (ex_field (S.get 2 _ rfl) (by kernel_rfl) _) ?_
    replace S := S.put (by decide : 5 < 24) (.pointer (some ⟨w.heap.size, 0 + 0, none⟩))
    refine wpl_val (v := (.slice oL (sLeases s).length cL)) (ex_load (S.get 5 _ rfl) ⟨by kernel_rfl, by kernel_rfl⟩ _ (box_at B2 rfl)) ?_
    replace S := S.put (by decide : 6 < 24) (.slice oL (sLeases s).length cL)
    refine wpl_val (v := (.pointer (some ⟨X1.heap.size, 0 + 0, none⟩))) (ex_field (S.get 3 _ rfl) (by kernel_rfl) _) ?_
    replace S := S.put (by decide : 7 < 24) (.pointer (some ⟨X1.heap.size, 0 + 0, none⟩))
    refine wpl_val (v := (.slice oL' (sLeases t).length cL')) (ex_load (S.get 7 _ rfl) ⟨by kernel_rfl, by kernel_rfl⟩ _ (box_at B5 rfl)) ?_
    replace S := S.put (by decide : 8 < 24) (.slice oL' (sLeases t).length cL')
    have zq0 : Act.eval _ (.tmp 6) = (.slice oL (sLeases s).length cL) := S.get 6 _ rfl
    have zq1 : Act.eval _ (.tmp 8) = (.slice oL' (sLeases t).length cL') := S.get 8 _ rfl
    refine wpl_call (R := fun e V => e = .returned (.bool true) ∧ Below X4.heap.size X4 V) ⟨_, Tryz.func85, by kernel_rfl, by kernel_rfl⟩ ?_ ?_
    · have hc := slEqLease oL oL' cL cL' (sLeases s) (sLeases t) X4 hs.nL (fun j z e => ((hs.hL j z e).frm (Fr.of M))) (fun j z e => ((ht.hL j z e).frm (Fr.of M)))
      rw [hE1] at hc
      simp only [List.map_toArray, List.map_cons, List.map_nil, zq0, zq1]; exact hc
    rintro e V10 ⟨rfl, hb11⟩
    refine ⟨_, rfl, ?_⟩
    have B2 := B2.later hb11
    have B5 := B5.later hb11
    have M := M.trans (hb11.mono M.size)
    have z12 := hb11.size
    replace S := S.put (by decide : 9 < 24) (.bool true)
    refine env_gen (C := fun a => wpList Tryz.prog _ _ _ a _) S ?_
    clear S; intro a S
    refine wpl_val (v := (.bool true)) (ex_move (S.get 9 _ rfl) _) ?_
    replace S := S.put (by decide : 10 < 24) (.bool true)
    refine env_gen (C := fun a => wpList Tryz.prog _ _ _ a _) S ?_
    clear S; intro a S
    refine wg_val (v := (.pointer (some ⟨w.heap.size, 0 + 1, none⟩))) (wan_yes (j := 5) (t := 10) (b := true) rfl (S.get 10 _ rfl) (by rw [S.sz]; decide)) (ex_field (S.get 2 _ rfl) (by kernel_rfl) _) ?_
    replace S := S.put (by decide : 11 < 24) (.pointer (some ⟨w.heap.size, 0 + 1, none⟩))
    refine env_gen (C := fun a => wpList Tryz.prog _ _ _ a _) S ?_
    clear S; intro a S
    refine wg_val (v := (.int .i64 (sTok s))) (wan_yes (j := 5) (t := 10) (b := true) rfl (S.get 10 _ rfl) (by rw [S.sz]; decide)) (ex_load (S.get 11 _ rfl) ⟨by kernel_rfl, by kernel_rfl⟩ _ (box_at B2 rfl)) ?_
    replace S := S.put (by decide : 12 < 24) (.int .i64 (sTok s))
    refine env_gen (C := fun a => wpList Tryz.prog _ _ _ a _) S ?_
    clear S; intro a S
    refine wg_val (v := (.pointer (some ⟨X1.heap.size, 0 + 1, none⟩))) (wan_yes (j := 5) (t := 10) (b := true) rfl (S.get 10 _ rfl) (by rw [S.sz]; decide)) (ex_field (S.get 3 _ rfl) (by kernel_rfl) _) ?_
    replace S := S.put (by decide : 13 < 24) (.pointer (some ⟨X1.heap.size, 0 + 1, none⟩))
    refine env_gen (C := fun a => wpList Tryz.prog _ _ _ a _) S ?_
    clear S; intro a S
    refine wg_val (v := (.int .i64 (sTok t))) (wan_yes (j := 5) (t := 10) (b := true) rfl (S.get 10 _ rfl) (by rw [S.sz]; decide)) (ex_load (S.get 13 _ rfl) ⟨by kernel_rfl, by kernel_rfl⟩ _ (box_at B5 rfl)) ?_
    replace S := S.put (by decide : 14 < 24) (.int .i64 (sTok t))
    refine env_gen (C := fun a => wpList Tryz.prog _ _ _ a _) S ?_
    clear S; intro a S
    refine wg_val (v := (.bool true)) (wan_yes (j := 5) (t := 10) (b := true) rfl (S.get 10 _ rfl) (by rw [S.sz]; decide)) (ex_bin (u := (.int .i64 (sTok s))) (v := (.int .i64 (sTok t))) (S.get 12 _ rfl) (S.get 14 _ rfl) _ ((run_eqi _).trans (by rw [eT]))) ?_
    replace S := S.put (by decide : 15 < 24) (.bool true)
    refine wpl_val (v := (.bool true)) (ex_pickT (v := (.bool true)) (S.get 10 _ rfl) (S.get 15 _ rfl) _) ?_
    replace S := S.put (by decide : 16 < 24) (.bool true)
    refine wpl_val (v := (.bool true)) (ex_move (S.get 16 _ rfl) _) ?_
    replace S := S.put (by decide : 17 < 24) (.bool true)
    refine env_gen (C := fun a => wpList Tryz.prog _ _ _ a _) S ?_
    clear S; intro a S
    refine wg_val (v := (.pointer (some ⟨w.heap.size, 0 + 2, none⟩))) (wan_yes (j := 12) (t := 17) (b := true) rfl (S.get 17 _ rfl) (by rw [S.sz]; decide)) (ex_field (S.get 2 _ rfl) (by kernel_rfl) _) ?_
    replace S := S.put (by decide : 18 < 24) (.pointer (some ⟨w.heap.size, 0 + 2, none⟩))
    refine env_gen (C := fun a => wpList Tryz.prog _ _ _ a _) S ?_
    clear S; intro a S
    refine wg_val (v := (.int .i64 (sNow s))) (wan_yes (j := 12) (t := 17) (b := true) rfl (S.get 17 _ rfl) (by rw [S.sz]; decide)) (ex_load (S.get 18 _ rfl) ⟨by kernel_rfl, by kernel_rfl⟩ _ (box_at B2 rfl)) ?_
    replace S := S.put (by decide : 19 < 24) (.int .i64 (sNow s))
    refine env_gen (C := fun a => wpList Tryz.prog _ _ _ a _) S ?_
    clear S; intro a S
    refine wg_val (v := (.pointer (some ⟨X1.heap.size, 0 + 2, none⟩))) (wan_yes (j := 12) (t := 17) (b := true) rfl (S.get 17 _ rfl) (by rw [S.sz]; decide)) (ex_field (S.get 3 _ rfl) (by kernel_rfl) _) ?_
    replace S := S.put (by decide : 20 < 24) (.pointer (some ⟨X1.heap.size, 0 + 2, none⟩))
    refine env_gen (C := fun a => wpList Tryz.prog _ _ _ a _) S ?_
    clear S; intro a S
    refine wg_val (v := (.int .i64 (sNow t))) (wan_yes (j := 12) (t := 17) (b := true) rfl (S.get 17 _ rfl) (by rw [S.sz]; decide)) (ex_load (S.get 20 _ rfl) ⟨by kernel_rfl, by kernel_rfl⟩ _ (box_at B5 rfl)) ?_
    replace S := S.put (by decide : 21 < 24) (.int .i64 (sNow t))
    refine env_gen (C := fun a => wpList Tryz.prog _ _ _ a _) S ?_
    clear S; intro a S
    refine wg_val (v := (.bool (((sNow s) : Int) == ((sNow t) : Int)))) (wan_yes (j := 12) (t := 17) (b := true) rfl (S.get 17 _ rfl) (by rw [S.sz]; decide)) (ex_bin (u := (.int .i64 (sNow s))) (v := (.int .i64 (sNow t))) (S.get 19 _ rfl) (S.get 21 _ rfl) _ (run_eqi _)) ?_
    replace S := S.put (by decide : 22 < 24) (.bool (((sNow s) : Int) == ((sNow t) : Int)))
    refine wpl_val (v := (.bool (((sNow s) : Int) == ((sNow t) : Int)))) (ex_pickT (v := (.bool (((sNow s) : Int) == ((sNow t) : Int)))) (S.get 17 _ rfl) (S.get 22 _ rfl) _) ?_
    replace S := S.put (by decide : 23 < 24) (.bool (((sNow s) : Int) == ((sNow t) : Int)))
    refine wpl_val (v := (.bool (((sNow s) : Int) == ((sNow t) : Int)))) (ex_assign (S.get 23 _ rfl) _) ?_
    replace S := S.put (by decide : 4 < 24) (.bool (((sNow s) : Int) == ((sNow t) : Int)))
    refine wpl_nil ?_
    refine wp_ret ?_
    exact ret_at (P := Tryz.prog) (fn := Tryz.f68) (R := fun e w' => e = .returned (.bool (bookE s t)) ∧ Below w.heap.size w w') S rfl rfl ⟨by unfold bookE; rw [hE1, eT, Bool.true_and, Bool.true_and], M⟩
  case neg =>
    have eT : (sTok s == sTok t) = false := by simp [hT]
    refine wp_seq (wp_region_list ?_)
    refine wpl_val (v := (.pointer (some ⟨w.heap.size, 0 + 0, none⟩))) (ex_field (S.get 2 _ rfl) (by kernel_rfl) _) ?_
    replace S := S.put (by decide : 5 < 24) (.pointer (some ⟨w.heap.size, 0 + 0, none⟩))
    refine wpl_val (v := (.slice oL (sLeases s).length cL)) (ex_load (S.get 5 _ rfl) ⟨by kernel_rfl, by kernel_rfl⟩ _ (box_at B2 rfl)) ?_
    replace S := S.put (by decide : 6 < 24) (.slice oL (sLeases s).length cL)
    refine wpl_val (v := (.pointer (some ⟨X1.heap.size, 0 + 0, none⟩))) (ex_field (S.get 3 _ rfl) (by kernel_rfl) _) ?_
    replace S := S.put (by decide : 7 < 24) (.pointer (some ⟨X1.heap.size, 0 + 0, none⟩))
    refine wpl_val (v := (.slice oL' (sLeases t).length cL')) (ex_load (S.get 7 _ rfl) ⟨by kernel_rfl, by kernel_rfl⟩ _ (box_at B5 rfl)) ?_
    replace S := S.put (by decide : 8 < 24) (.slice oL' (sLeases t).length cL')
    have zq0 : Act.eval _ (.tmp 6) = (.slice oL (sLeases s).length cL) := S.get 6 _ rfl
    have zq1 : Act.eval _ (.tmp 8) = (.slice oL' (sLeases t).length cL') := S.get 8 _ rfl
    refine wpl_call (R := fun e V => e = .returned (.bool true) ∧ Below X4.heap.size X4 V) ⟨_, Tryz.func85, by kernel_rfl, by kernel_rfl⟩ ?_ ?_
    · have hc := slEqLease oL oL' cL cL' (sLeases s) (sLeases t) X4 hs.nL (fun j z e => ((hs.hL j z e).frm (Fr.of M))) (fun j z e => ((ht.hL j z e).frm (Fr.of M)))
      rw [hE1] at hc
      simp only [List.map_toArray, List.map_cons, List.map_nil, zq0, zq1]; exact hc
    rintro e V13 ⟨rfl, hb14⟩
    refine ⟨_, rfl, ?_⟩
    have B2 := B2.later hb14
    have B5 := B5.later hb14
    have M := M.trans (hb14.mono M.size)
    have z15 := hb14.size
    replace S := S.put (by decide : 9 < 24) (.bool true)
    refine env_gen (C := fun a => wpList Tryz.prog _ _ _ a _) S ?_
    clear S; intro a S
    refine wpl_val (v := (.bool true)) (ex_move (S.get 9 _ rfl) _) ?_
    replace S := S.put (by decide : 10 < 24) (.bool true)
    refine env_gen (C := fun a => wpList Tryz.prog _ _ _ a _) S ?_
    clear S; intro a S
    refine wg_val (v := (.pointer (some ⟨w.heap.size, 0 + 1, none⟩))) (wan_yes (j := 5) (t := 10) (b := true) rfl (S.get 10 _ rfl) (by rw [S.sz]; decide)) (ex_field (S.get 2 _ rfl) (by kernel_rfl) _) ?_
    replace S := S.put (by decide : 11 < 24) (.pointer (some ⟨w.heap.size, 0 + 1, none⟩))
    refine env_gen (C := fun a => wpList Tryz.prog _ _ _ a _) S ?_
    clear S; intro a S
    refine wg_val (v := (.int .i64 (sTok s))) (wan_yes (j := 5) (t := 10) (b := true) rfl (S.get 10 _ rfl) (by rw [S.sz]; decide)) (ex_load (S.get 11 _ rfl) ⟨by kernel_rfl, by kernel_rfl⟩ _ (box_at B2 rfl)) ?_
    replace S := S.put (by decide : 12 < 24) (.int .i64 (sTok s))
    refine env_gen (C := fun a => wpList Tryz.prog _ _ _ a _) S ?_
    clear S; intro a S
    refine wg_val (v := (.pointer (some ⟨X1.heap.size, 0 + 1, none⟩))) (wan_yes (j := 5) (t := 10) (b := true) rfl (S.get 10 _ rfl) (by rw [S.sz]; decide)) (ex_field (S.get 3 _ rfl) (by kernel_rfl) _) ?_
    replace S := S.put (by decide : 13 < 24) (.pointer (some ⟨X1.heap.size, 0 + 1, none⟩))
    refine env_gen (C := fun a => wpList Tryz.prog _ _ _ a _) S ?_
    clear S; intro a S
    refine wg_val (v := (.int .i64 (sTok t))) (wan_yes (j := 5) (t := 10) (b := true) rfl (S.get 10 _ rfl) (by rw [S.sz]; decide)) (ex_load (S.get 13 _ rfl) ⟨by kernel_rfl, by kernel_rfl⟩ _ (box_at B5 rfl)) ?_
    replace S := S.put (by decide : 14 < 24) (.int .i64 (sTok t))
    refine env_gen (C := fun a => wpList Tryz.prog _ _ _ a _) S ?_
    clear S; intro a S
    refine wg_val (v := (.bool false)) (wan_yes (j := 5) (t := 10) (b := true) rfl (S.get 10 _ rfl) (by rw [S.sz]; decide)) (ex_bin (u := (.int .i64 (sTok s))) (v := (.int .i64 (sTok t))) (S.get 12 _ rfl) (S.get 14 _ rfl) _ ((run_eqi _).trans (by rw [eT]))) ?_
    replace S := S.put (by decide : 15 < 24) (.bool false)
    refine wpl_val (v := (.bool false)) (ex_pickT (v := (.bool false)) (S.get 10 _ rfl) (S.get 15 _ rfl) _) ?_
    replace S := S.put (by decide : 16 < 24) (.bool false)
    refine wpl_val (v := (.bool false)) (ex_move (S.get 16 _ rfl) _) ?_
    replace S := S.put (by decide : 17 < 24) (.bool false)
    refine env_gen (C := fun a => wpList Tryz.prog _ _ _ a _) S ?_
    clear S; intro a S
    refine wg_skip (wan_no (j := 12) (t := 17) (b := true) (c := false) rfl (S.get 17 _ rfl) (by decide)) ?_
    replace S := S.put (by decide : 18 < 24) undef
    refine env_gen (C := fun a => wpList Tryz.prog _ _ _ a _) S ?_
    clear S; intro a S
    refine wg_skip (wan_no (j := 12) (t := 17) (b := true) (c := false) rfl (S.get 17 _ rfl) (by decide)) ?_
    replace S := S.put (by decide : 19 < 24) undef
    refine env_gen (C := fun a => wpList Tryz.prog _ _ _ a _) S ?_
    clear S; intro a S
    refine wg_skip (wan_no (j := 12) (t := 17) (b := true) (c := false) rfl (S.get 17 _ rfl) (by decide)) ?_
    replace S := S.put (by decide : 20 < 24) undef
    refine env_gen (C := fun a => wpList Tryz.prog _ _ _ a _) S ?_
    clear S; intro a S
    refine wg_skip (wan_no (j := 12) (t := 17) (b := true) (c := false) rfl (S.get 17 _ rfl) (by decide)) ?_
    replace S := S.put (by decide : 21 < 24) undef
    refine env_gen (C := fun a => wpList Tryz.prog _ _ _ a _) S ?_
    clear S; intro a S
    refine wg_skip (wan_no (j := 12) (t := 17) (b := true) (c := false) rfl (S.get 17 _ rfl) (by decide)) ?_
    replace S := S.put (by decide : 22 < 24) undef
    refine wpl_val (v := (.bool false)) (ex_pickF (v := (.bool false)) (S.get 17 _ rfl) rfl _) ?_
    replace S := S.put (by decide : 23 < 24) (.bool false)
    refine wpl_val (v := (.bool false)) (ex_assign (S.get 23 _ rfl) _) ?_
    replace S := S.put (by decide : 4 < 24) (.bool false)
    refine wpl_nil ?_
    refine wp_ret ?_
    exact ret_at (P := Tryz.prog) (fn := Tryz.f68) (R := fun e w' => e = .returned (.bool (bookE s t)) ∧ Below w.heap.size w w') S rfl rfl ⟨by unfold bookE; rw [hE1, eT]; rfl, M⟩

end Go.Proofs.YtjiplphfpkhmpaaGreat
