/-
  The program looks whether two states are the same.
-/
import Derived.Test.YtjiplphfpkhmpaaGreatJUa
import Derived.Test.YtjiplphfpkhmpaaGreatJUb
import Derived.Test.YtjiplphfpkhmpaaGreatJUc
namespace Go.Proofs.YtjiplphfpkhmpaaGreat
open Go.RowKit

set_option maxRecDepth 20000 in
set_option maxHeartbeats 8000000 in
theorem iSame_c {oP oB oL oS oP' oB' oL' oS' : Option Addr} {cP cB cL cS cP' cB' cL' cS' : Nat} {us vs : List Value} {s t : StA} {w : World} (hs : StaC w s us oP oB oL oS cP cB cL cS) (ht : StaC w t vs oP' oB' oL' oS' cP' cB' cL' cS') :
    Calls Tryz.prog 53 #[.agg us.toArray, .agg vs.toArray] w fun e w' => e = .returned (.bool (sameSt s t)) ∧ Below w.heap.size w w' := by
  obtain rfl := hs.e
  obtain rfl := ht.e
  refine calls_of_wp Tryz.func53 rfl ?_
  have hpan := pan_body (P := Tryz.prog) (fn := Tryz.f53) (R := fun e w' => e = .returned (.bool (sameSt s t)) ∧ Below w.heap.size w w')
  refine env2 (N := 31) rfl (by decide) ?_
  intro a S
  have M : Below w.heap.size w w := Below.refl _ _
  refine wp_seq (wp_region_list ?_)
  refine wpl_box (us := [.slice oP (sPools s).length cP, .slice oB (sBlocks s).length cB, .slice oL (sLeases s).length cL, .int .i64 (sTok s), .int .i64 (sNow s), .slice oS (sSess s).length cS, .int .i64 (sNext s), .int .i64 (sCount s)]) (by rw [S.get 0 _ rfl]; rfl) ?_
  intro X1 B2 l3 _
  have M := M.trans (l3.mono M.size)
  replace S := S.put (by decide : 2 < 31) (.pointer (some ⟨w.heap.size, 0, none⟩))
  refine wpl_box (us := [.slice oP' (sPools t).length cP', .slice oB' (sBlocks t).length cB', .slice oL' (sLeases t).length cL', .int .i64 (sTok t), .int .i64 (sNow t), .slice oS' (sSess t).length cS', .int .i64 (sNext t), .int .i64 (sCount t)]) (by rw [S.get 1 _ rfl]; rfl) ?_
  intro X4 B5 l6 _
  have M := M.trans (l6.mono M.size)
  have B2 := B2.later l6
  replace S := S.put (by decide : 3 < 31) (.pointer (some ⟨X1.heap.size, 0, none⟩))
  refine wpl_val (v := (.bool false)) (ex_assign (v := (.bool false)) rfl _) ?_
  replace S := S.put (by decide : 4 < 31) (.bool false)
  refine wpl_nil ?_
  replace S := ((S.nil).add (S.get 2 _ rfl)).add (S.get 3 _ rfl)
  refine env_gen (C := fun a => Code.wp Tryz.prog _ _ a _) S ?_
  clear S; intro a S
  cases h1 : planE s t
  case false =>
    refine wp_seq (wp_region_list ?_)
    refine wpl_val (v := (.pointer (some ⟨w.heap.size, 0 + 0, none⟩))) (ex_field (S.get 2 _ rfl) (by kernel_rfl) _) ?_
    replace S := S.put (by decide : 5 < 31) (.pointer (some ⟨w.heap.size, 0 + 0, none⟩))
    refine wpl_val (v := (.agg (List.toArray [.slice oP (sPools s).length cP, .slice oB (sBlocks s).length cB]))) (ex_agg (us := [.slice oP (sPools s).length cP, .slice oB (sBlocks s).length cB]) (S.get 5 _ rfl) ⟨by kernel_rfl, by kernel_rfl⟩ rfl _ (Box.seg (us := []) (vs := [.slice oP (sPools s).length cP, .slice oB (sBlocks s).length cB]) (ts := [.slice oL (sLeases s).length cL, .int .i64 (sTok s), .int .i64 (sNow s), .slice oS (sSess s).length cS, .int .i64 (sNext s), .int .i64 (sCount s)]) B2 rfl)) ?_
    replace S := S.put (by decide : 6 < 31) (.agg (List.toArray [.slice oP (sPools s).length cP, .slice oB (sBlocks s).length cB]))
    refine wpl_val (v := (.pointer (some ⟨X1.heap.size, 0 + 0, none⟩))) (ex_field (S.get 3 _ rfl) (by kernel_rfl) _) ?_
    replace S := S.put (by decide : 7 < 31) (.pointer (some ⟨X1.heap.size, 0 + 0, none⟩))
    refine wpl_val (v := (.agg (List.toArray [.slice oP' (sPools t).length cP', .slice oB' (sBlocks t).length cB']))) (ex_agg (us := [.slice oP' (sPools t).length cP', .slice oB' (sBlocks t).length cB']) (S.get 7 _ rfl) ⟨by kernel_rfl, by kernel_rfl⟩ rfl _ (Box.seg (us := []) (vs := [.slice oP' (sPools t).length cP', .slice oB' (sBlocks t).length cB']) (ts := [.slice oL' (sLeases t).length cL', .int .i64 (sTok t), .int .i64 (sNow t), .slice oS' (sSess t).length cS', .int .i64 (sNext t), .int .i64 (sCount t)]) B5 rfl)) ?_
    replace S := S.put (by decide : 8 < 31) (.agg (List.toArray [.slice oP' (sPools t).length cP', .slice oB' (sBlocks t).length cB']))
    have zq0 : Act.eval _ (.tmp 6) = (.agg (List.toArray [.slice oP (sPools s).length cP, .slice oB (sBlocks s).length cB])) := S.get 6 _ rfl
    have zq1 : Act.eval _ (.tmp 8) = (.agg (List.toArray [.slice oP' (sPools t).length cP', .slice oB' (sBlocks t).length cB'])) := S.get 8 _ rfl
    refine wpl_call (R := fun e V => e = .returned (.bool false) ∧ Below X4.heap.size X4 V) ⟨_, Tryz.func67, by kernel_rfl, by kernel_rfl⟩ ?_ ?_
    · have hc := samePl (hs.later M) (ht.later M)
      rw [h1] at hc
      simp only [List.map_toArray, List.map_cons, List.map_nil, zq0, zq1]; exact hc
    rintro e V7 ⟨rfl, hb8⟩
    refine ⟨_, rfl, ?_⟩
    have B2 := B2.later hb8
    have B5 := B5.later hb8
    have M := M.trans (hb8.mono M.size)
    have z9 := hb8.size
    replace S := S.put (by decide : 9 < 31) (.bool false)
    refine env_gen (C := fun a => wpList Tryz.prog _ _ _ a _) S ?_
    clear S; intro a S
    refine wpl_val (v := (.bool false)) (ex_move (S.get 9 _ rfl) _) ?_
    replace S := S.put (by decide : 10 < 31) (.bool false)
    refine env_gen (C := fun a => wpList Tryz.prog _ _ _ a _) S ?_
    clear S; intro a S
    refine wg_skip (wan_no (j := 5) (t := 10) (b := true) (c := false) rfl (S.get 10 _ rfl) (by decide)) ?_
    replace S := S.put (by decide : 11 < 31) undef
    refine env_gen (C := fun a => wpList Tryz.prog _ _ _ a _) S ?_
    clear S; intro a S
    refine wg_skip (wan_no (j := 5) (t := 10) (b := true) (c := false) rfl (S.get 10 _ rfl) (by decide)) ?_
    replace S := S.put (by decide : 12 < 31) undef
    refine env_gen (C := fun a => wpList Tryz.prog _ _ _ a _) S ?_
    clear S; intro a S
    refine wg_skip (wan_no (j := 5) (t := 10) (b := true) (c := false) rfl (S.get 10 _ rfl) (by decide)) ?_
    replace S := S.put (by decide : 13 < 31) undef
    refine env_gen (C := fun a => wpList Tryz.prog _ _ _ a _) S ?_
    clear S; intro a S
    refine wg_skip (wan_no (j := 5) (t := 10) (b := true) (c := false) rfl (S.get 10 _ rfl) (by decide)) ?_
    replace S := S.put (by decide : 14 < 31) undef
    refine env_gen (C := fun a => wpList Tryz.prog _ _ _ a _) S ?_
    clear S; intro a S
    refine wg_skip (wan_no (j := 5) (t := 10) (b := true) (c := false) rfl (S.get 10 _ rfl) (by decide)) ?_
    replace S := S.put (by decide : 15 < 31) undef
    refine wpl_val (v := (.bool false)) (ex_pickF (v := (.bool false)) (S.get 10 _ rfl) rfl _) ?_
    replace S := S.put (by decide : 16 < 31) (.bool false)
    refine wpl_val (v := (.bool false)) (ex_move (S.get 16 _ rfl) _) ?_
    replace S := S.put (by decide : 17 < 31) (.bool false)
    refine env_gen (C := fun a => wpList Tryz.prog _ _ _ a _) S ?_
    clear S; intro a S
    refine wg_skip (wan_no (j := 12) (t := 17) (b := true) (c := false) rfl (S.get 17 _ rfl) (by decide)) ?_
    replace S := S.put (by decide : 18 < 31) undef
    refine env_gen (C := fun a => wpList Tryz.prog _ _ _ a _) S ?_
    clear S; intro a S
    refine wg_skip (wan_no (j := 12) (t := 17) (b := true) (c := false) rfl (S.get 17 _ rfl) (by decide)) ?_
    replace S := S.put (by decide : 19 < 31) undef
    refine env_gen (C := fun a => wpList Tryz.prog _ _ _ a _) S ?_
    clear S; intro a S
    refine wg_skip (wan_no (j := 12) (t := 17) (b := true) (c := false) rfl (S.get 17 _ rfl) (by decide)) ?_
    replace S := S.put (by decide : 20 < 31) undef
    refine env_gen (C := fun a => wpList Tryz.prog _ _ _ a _) S ?_
    clear S; intro a S
    refine wg_skip (wan_no (j := 12) (t := 17) (b := true) (c := false) rfl (S.get 17 _ rfl) (by decide)) ?_
    replace S := S.put (by decide : 21 < 31) undef
    refine env_gen (C := fun a => wpList Tryz.prog _ _ _ a _) S ?_
    clear S; intro a S
    refine wg_skip (wan_no (j := 12) (t := 17) (b := true) (c := false) rfl (S.get 17 _ rfl) (by decide)) ?_
    replace S := S.put (by decide : 22 < 31) undef
    refine wpl_val (v := (.bool false)) (ex_pickF (v := (.bool false)) (S.get 17 _ rfl) rfl _) ?_
    replace S := S.put (by decide : 23 < 31) (.bool false)
    refine wpl_val (v := (.bool false)) (ex_move (S.get 23 _ rfl) _) ?_
    replace S := S.put (by decide : 24 < 31) (.bool false)
    refine env_gen (C := fun a => wpList Tryz.prog _ _ _ a _) S ?_
    clear S; intro a S
    refine wg_skip (wan_no (j := 19) (t := 24) (b := true) (c := false) rfl (S.get 24 _ rfl) (by decide)) ?_
    replace S := S.put (by decide : 25 < 31) undef
    refine env_gen (C := fun a => wpList Tryz.prog _ _ _ a _) S ?_
    clear S; intro a S
    refine wg_skip (wan_no (j := 19) (t := 24) (b := true) (c := false) rfl (S.get 24 _ rfl) (by decide)) ?_
    replace S := S.put (by decide : 26 < 31) undef
    refine env_gen (C := fun a => wpList Tryz.prog _ _ _ a _) S ?_
    clear S; intro a S
    refine wg_skip (wan_no (j := 19) (t := 24) (b := true) (c := false) rfl (S.get 24 _ rfl) (by decide)) ?_
    replace S := S.put (by decide : 27 < 31) undef
    refine env_gen (C := fun a => wpList Tryz.prog _ _ _ a _) S ?_
    clear S; intro a S
    refine wg_skip (wan_no (j := 19) (t := 24) (b := true) (c := false) rfl (S.get 24 _ rfl) (by decide)) ?_
    replace S := S.put (by decide : 28 < 31) undef
    refine env_gen (C := fun a => wpList Tryz.prog _ _ _ a _) S ?_
    clear S; intro a S
    refine wg_skip (wan_no (j := 19) (t := 24) (b := true) (c := false) rfl (S.get 24 _ rfl) (by decide)) ?_
    replace S := S.put (by decide : 29 < 31) undef
    refine wpl_val (v := (.bool false)) (ex_pickF (v := (.bool false)) (S.get 24 _ rfl) rfl _) ?_
    replace S := S.put (by decide : 30 < 31) (.bool false)
    refine wpl_val (v := (.bool false)) (ex_assign (S.get 30 _ rfl) _) ?_
    replace S := S.put (by decide : 4 < 31) (.bool false)
    refine wpl_nil ?_
    refine wp_ret ?_
    exact ret_at (P := Tryz.prog) (fn := Tryz.f53) (R := fun e w' => e = .returned (.bool (sameSt s t)) ∧ Below w.heap.size w w') S rfl rfl ⟨by unfold sameSt; rw [h1]; rfl, M⟩
  cases h2 : bookE s t
  case false =>
    refine wp_seq (wp_region_list ?_)
    refine wpl_val (v := (.pointer (some ⟨w.heap.size, 0 + 0, none⟩))) (ex_field (S.get 2 _ rfl) (by kernel_rfl) _) ?_
    replace S := S.put (by decide : 5 < 31) (.pointer (some ⟨w.heap.size, 0 + 0, none⟩))
    refine wpl_val (v := (.agg (List.toArray [.slice oP (sPools s).length cP, .slice oB (sBlocks s).length cB]))) (ex_agg (us := [.slice oP (sPools s).length cP, .slice oB (sBlocks s).length cB]) (S.get 5 _ rfl) ⟨by kernel_rfl, by kernel_rfl⟩ rfl _ (Box.seg (us := []) (vs := [.slice oP (sPools s).length cP, .slice oB (sBlocks s).length cB]) (ts := [.slice oL (sLeases s).length cL, .int .i64 (sTok s), .int .i64 (sNow s), .slice oS (sSess s).length cS, .int .i64 (sNext s), .int .i64 (sCount s)]) B2 rfl)) ?_
    replace S := S.put (by decide : 6 < 31) (.agg (List.toArray [.slice oP (sPools s).length cP, .slice oB (sBlocks s).length cB]))
    refine wpl_val (v := (.pointer (some ⟨X1.heap.size, 0 + 0, none⟩))) (ex_field (S.get 3 _ rfl) (by kernel_rfl) _) ?_
    replace S := S.put (by decide : 7 < 31) (.pointer (some ⟨X1.heap.size, 0 + 0, none⟩))
    refine wpl_val (v := (.agg (List.toArray [.slice oP' (sPools t).length cP', .slice oB' (sBlocks t).length cB']))) (ex_agg (us := [.slice oP' (sPools t).length cP', .slice oB' (sBlocks t).length cB']) (S.get 7 _ rfl) ⟨by kernel_rfl, by kernel_rfl⟩ rfl _ (Box.seg (us := []) (vs := [.slice oP' (sPools t).length cP', .slice oB' (sBlocks t).length cB']) (ts := [.slice oL' (sLeases t).length cL', .int .i64 (sTok t), .int .i64 (sNow t), .slice oS' (sSess t).length cS', .int .i64 (sNext t), .int .i64 (sCount t)]) B5 rfl)) ?_
    replace S := S.put (by decide : 8 < 31) (.agg (List.toArray [.slice oP' (sPools t).length cP', .slice oB' (sBlocks t).length cB']))
    have zq0 : Act.eval _ (.tmp 6) = (.agg (List.toArray [.slice oP (sPools s).length cP, .slice oB (sBlocks s).length cB])) := S.get 6 _ rfl
    have zq1 : Act.eval _ (.tmp 8) = (.agg (List.toArray [.slice oP' (sPools t).length cP', .slice oB' (sBlocks t).length cB'])) := S.get 8 _ rfl
    refine wpl_call (R := fun e V => e = .returned (.bool true) ∧ Below X4.heap.size X4 V) ⟨_, Tryz.func67, by kernel_rfl, by kernel_rfl⟩ ?_ ?_
    · have hc := samePl (hs.later M) (ht.later M)
      rw [h1] at hc
      simp only [List.map_toArray, List.map_cons, List.map_nil, zq0, zq1]; exact hc
    rintro e V14 ⟨rfl, hb15⟩
    refine ⟨_, rfl, ?_⟩
    have B2 := B2.later hb15
    have B5 := B5.later hb15
    have M := M.trans (hb15.mono M.size)
    have z16 := hb15.size
    replace S := S.put (by decide : 9 < 31) (.bool true)
    refine env_gen (C := fun a => wpList Tryz.prog _ _ _ a _) S ?_
    clear S; intro a S
    refine wpl_val (v := (.bool true)) (ex_move (S.get 9 _ rfl) _) ?_
    replace S := S.put (by decide : 10 < 31) (.bool true)
    refine env_gen (C := fun a => wpList Tryz.prog _ _ _ a _) S ?_
    clear S; intro a S
    refine wg_val (v := (.pointer (some ⟨w.heap.size, 0 + 2, none⟩))) (wan_yes (j := 5) (t := 10) (b := true) rfl (S.get 10 _ rfl) (by rw [S.sz]; decide)) (ex_field (S.get 2 _ rfl) (by kernel_rfl) _) ?_
    replace S := S.put (by decide : 11 < 31) (.pointer (some ⟨w.heap.size, 0 + 2, none⟩))
    refine env_gen (C := fun a => wpList Tryz.prog _ _ _ a _) S ?_
    clear S; intro a S
    refine wg_val (v := (.agg (List.toArray [.slice oL (sLeases s).length cL, .int .i64 (sTok s), .int .i64 (sNow s)]))) (wan_yes (j := 5) (t := 10) (b := true) rfl (S.get 10 _ rfl) (by rw [S.sz]; decide)) (ex_agg (us := [.slice oL (sLeases s).length cL, .int .i64 (sTok s), .int .i64 (sNow s)]) (S.get 11 _ rfl) ⟨by kernel_rfl, by kernel_rfl⟩ rfl _ (Box.seg (us := [.slice oP (sPools s).length cP, .slice oB (sBlocks s).length cB]) (vs := [.slice oL (sLeases s).length cL, .int .i64 (sTok s), .int .i64 (sNow s)]) (ts := [.slice oS (sSess s).length cS, .int .i64 (sNext s), .int .i64 (sCount s)]) B2 rfl)) ?_
    replace S := S.put (by decide : 12 < 31) (.agg (List.toArray [.slice oL (sLeases s).length cL, .int .i64 (sTok s), .int .i64 (sNow s)]))
    refine env_gen (C := fun a => wpList Tryz.prog _ _ _ a _) S ?_
    clear S; intro a S
    refine wg_val (v := (.pointer (some ⟨X1.heap.size, 0 + 2, none⟩))) (wan_yes (j := 5) (t := 10) (b := true) rfl (S.get 10 _ rfl) (by rw [S.sz]; decide)) (ex_field (S.get 3 _ rfl) (by kernel_rfl) _) ?_
    replace S := S.put (by decide : 13 < 31) (.pointer (some ⟨X1.heap.size, 0 + 2, none⟩))
    refine env_gen (C := fun a => wpList Tryz.prog _ _ _ a _) S ?_
    clear S; intro a S
    refine wg_val (v := (.agg (List.toArray [.slice oL' (sLeases t).length cL', .int .i64 (sTok t), .int .i64 (sNow t)]))) (wan_yes (j := 5) (t := 10) (b := true) rfl (S.get 10 _ rfl) (by rw [S.sz]; decide)) (ex_agg (us := [.slice oL' (sLeases t).length cL', .int .i64 (sTok t), .int .i64 (sNow t)]) (S.get 13 _ rfl) ⟨by kernel_rfl, by kernel_rfl⟩ rfl _ (Box.seg (us := [.slice oP' (sPools t).length cP', .slice oB' (sBlocks t).length cB']) (vs := [.slice oL' (sLeases t).length cL', .int .i64 (sTok t), .int .i64 (sNow t)]) (ts := [.slice oS' (sSess t).length cS', .int .i64 (sNext t), .int .i64 (sCount t)]) B5 rfl)) ?_
    replace S := S.put (by decide : 14 < 31) (.agg (List.toArray [.slice oL' (sLeases t).length cL', .int .i64 (sTok t), .int .i64 (sNow t)]))
    refine env_gen (C := fun a => wpList Tryz.prog _ _ _ a _) S ?_
    clear S; intro a S
    have zq0 : Act.eval _ (.tmp 12) = (.agg (List.toArray [.slice oL (sLeases s).length cL, .int .i64 (sTok s), .int .i64 (sNow s)])) := S.get 12 _ rfl
    have zq1 : Act.eval _ (.tmp 14) = (.agg (List.toArray [.slice oL' (sLeases t).length cL', .int .i64 (sTok t), .int .i64 (sNow t)])) := S.get 14 _ rfl
    refine wg_call (R := fun e V => e = .returned (.bool false) ∧ Below V14.heap.size V14 V) (wan_yes (j := 5) (t := 10) (b := true) rfl (S.get 10 _ rfl) (by rw [S.sz]; decide)) ⟨_, Tryz.func68, by kernel_rfl, by kernel_rfl⟩ ?_ ?_
    · have hc := sameBk (hs.later M) (ht.later M)
      rw [h2] at hc
      simp only [List.map_toArray, List.map_cons, List.map_nil, zq0, zq1]; exact hc
    rintro e V17 ⟨rfl, hb18⟩
    refine ⟨_, rfl, ?_⟩
    have B2 := B2.later hb18
    have B5 := B5.later hb18
    have M := M.trans (hb18.mono M.size)
    have z19 := hb18.size
    replace S := S.put (by decide : 15 < 31) (.bool false)
    refine env_gen (C := fun a => wpList Tryz.prog _ _ _ a _) S ?_
    clear S; intro a S
    refine wpl_val (v := (.bool false)) (ex_pickT (v := (.bool false)) (S.get 10 _ rfl) (S.get 15 _ rfl) _) ?_
    replace S := S.put (by decide : 16 < 31) (.bool false)
    refine wpl_val (v := (.bool false)) (ex_move (S.get 16 _ rfl) _) ?_
    replace S := S.put (by decide : 17 < 31) (.bool false)
    refine env_gen (C := fun a => wpList Tryz.prog _ _ _ a _) S ?_
    clear S; intro a S
    refine wg_skip (wan_no (j := 12) (t := 17) (b := true) (c := false) rfl (S.get 17 _ rfl) (by decide)) ?_
    replace S := S.put (by decide : 18 < 31) undef
    refine env_gen (C := fun a => wpList Tryz.prog _ _ _ a _) S ?_
    clear S; intro a S
    refine wg_skip (wan_no (j := 12) (t := 17) (b := true) (c := false) rfl (S.get 17 _ rfl) (by decide)) ?_
    replace S := S.put (by decide : 19 < 31) undef
    refine env_gen (C := fun a => wpList Tryz.prog _ _ _ a _) S ?_
    clear S; intro a S
    refine wg_skip (wan_no (j := 12) (t := 17) (b := true) (c := false) rfl (S.get 17 _ rfl) (by decide)) ?_
    replace S := S.put (by decide : 20 < 31) undef
    refine env_gen (C := fun a => wpList Tryz.prog _ _ _ a _) S ?_
    clear S; intro a S
    refine wg_skip (wan_no (j := 12) (t := 17) (b := true) (c := false) rfl (S.get 17 _ rfl) (by decide)) ?_
    replace S := S.put (by decide : 21 < 31) undef
    refine env_gen (C := fun a => wpList Tryz.prog _ _ _ a _) S ?_
    clear S; intro a S
    refine wg_skip (wan_no (j := 12) (t := 17) (b := true) (c := false) rfl (S.get 17 _ rfl) (by decide)) ?_
    replace S := S.put (by decide : 22 < 31) undef
    refine wpl_val (v := (.bool false)) (ex_pickF (v := (.bool false)) (S.get 17 _ rfl) rfl _) ?_
    replace S := S.put (by decide : 23 < 31) (.bool false)
    refine wpl_val (v := (.bool false)) (ex_move (S.get 23 _ rfl) _) ?_
    replace S := S.put (by decide : 24 < 31) (.bool false)
    refine env_gen (C := fun a => wpList Tryz.prog _ _ _ a _) S ?_
    clear S; intro a S
    refine wg_skip (wan_no (j := 19) (t := 24) (b := true) (c := false) rfl (S.get 24 _ rfl) (by decide)) ?_
    replace S := S.put (by decide : 25 < 31) undef
    refine env_gen (C := fun a => wpList Tryz.prog _ _ _ a _) S ?_
    clear S; intro a S
    refine wg_skip (wan_no (j := 19) (t := 24) (b := true) (c := false) rfl (S.get 24 _ rfl) (by decide)) ?_
    replace S := S.put (by decide : 26 < 31) undef
    refine env_gen (C := fun a => wpList Tryz.prog _ _ _ a _) S ?_
    clear S; intro a S
    refine wg_skip (wan_no (j := 19) (t := 24) (b := true) (c := false) rfl (S.get 24 _ rfl) (by decide)) ?_
    replace S := S.put (by decide : 27 < 31) undef
    refine env_gen (C := fun a => wpList Tryz.prog _ _ _ a _) S ?_
    clear S; intro a S
    refine wg_skip (wan_no (j := 19) (t := 24) (b := true) (c := false) rfl (S.get 24 _ rfl) (by decide)) ?_
    replace S := S.put (by decide : 28 < 31) undef
    refine env_gen (C := fun a => wpList Tryz.prog _ _ _ a _) S ?_
    clear S; intro a S
    refine wg_skip (wan_no (j := 19) (t := 24) (b := true) (c := false) rfl (S.get 24 _ rfl) (by decide)) ?_
    replace S := S.put (by decide : 29 < 31) undef
    refine wpl_val (v := (.bool false)) (ex_pickF (v := (.bool false)) (S.get 24 _ rfl) rfl _) ?_
    replace S := S.put (by decide : 30 < 31) (.bool false)
    refine wpl_val (v := (.bool false)) (ex_assign (S.get 30 _ rfl) _) ?_
    replace S := S.put (by decide : 4 < 31) (.bool false)
    refine wpl_nil ?_
    refine wp_ret ?_
    exact ret_at (P := Tryz.prog) (fn := Tryz.f53) (R := fun e w' => e = .returned (.bool (sameSt s t)) ∧ Below w.heap.size w w') S rfl rfl ⟨by unfold sameSt; rw [h1, h2]; rfl, M⟩
  cases h3 : deskE s t
  case false =>
    refine wp_seq (wp_region_list ?_)
    refine wpl_val (v := (.pointer (some ⟨w.heap.size, 0 + 0, none⟩))) (ex_field (S.get 2 _ rfl) (by kernel_rfl) _) ?_
    replace S := S.put (by decide : 5 < 31) (.pointer (some ⟨w.heap.size, 0 + 0, none⟩))
    refine wpl_val (v := (.agg (List.toArray [.slice oP (sPools s).length cP, .slice oB (sBlocks s).length cB]))) (ex_agg (us := [.slice oP (sPools s).length cP, .slice oB (sBlocks s).length cB]) (S.get 5 _ rfl) ⟨by kernel_rfl, by kernel_rfl⟩ rfl _ (Box.seg (us := []) (vs := [.slice oP (sPools s).length cP, .slice oB (sBlocks s).length cB]) (ts := [.slice oL (sLeases s).length cL, .int .i64 (sTok s), .int .i64 (sNow s), .slice oS (sSess s).length cS, .int .i64 (sNext s), .int .i64 (sCount s)]) B2 rfl)) ?_
    replace S := S.put (by decide : 6 < 31) (.agg (List.toArray [.slice oP (sPools s).length cP, .slice oB (sBlocks s).length cB]))
    refine wpl_val (v := (.pointer (some ⟨X1.heap.size, 0 + 0, none⟩))) (ex_field (S.get 3 _ rfl) (by kernel_rfl) _) ?_
    replace S := S.put (by decide : 7 < 31) (.pointer (some ⟨X1.heap.size, 0 + 0, none⟩))
    refine wpl_val (v := (.agg (List.toArray [.slice oP' (sPools t).length cP', .slice oB' (sBlocks t).length cB']))) (ex_agg (us := [.slice oP' (sPools t).length cP', .slice oB' (sBlocks t).length cB']) (S.get 7 _ rfl) ⟨by kernel_rfl, by kernel_rfl⟩ rfl _ (Box.seg (us := []) (vs := [.slice oP' (sPools t).length cP', .slice oB' (sBlocks t).length cB']) (ts := [.slice oL' (sLeases t).length cL', .int .i64 (sTok t), .int .i64 (sNow t), .slice oS' (sSess t).length cS', .int .i64 (sNext t), .int .i64 (sCount t)]) B5 rfl)) ?_
    replace S := S.put (by decide : 8 < 31) (.agg (List.toArray [.slice oP' (sPools t).length cP', .slice oB' (sBlocks t).length cB']))
    have zq0 : Act.eval _ (.tmp 6) = (.agg (List.toArray [.slice oP (sPools s).length cP, .slice oB (sBlocks s).length cB])) := S.get 6 _ rfl
    have zq1 : Act.eval _ (.tmp 8) = (.agg (List.toArray [.slice oP' (sPools t).length cP', .slice oB' (sBlocks t).length cB'])) := S.get 8 _ rfl
    refine wpl_call (R := fun e V => e = .returned (.bool true) ∧ Below X4.heap.size X4 V) ⟨_, Tryz.func67, by kernel_rfl, by kernel_rfl⟩ ?_ ?_
    · have hc := samePl (hs.later M) (ht.later M)
      rw [h1] at hc
      simp only [List.map_toArray, List.map_cons, List.map_nil, zq0, zq1]; exact hc
    rintro e V22 ⟨rfl, hb23⟩
    refine ⟨_, rfl, ?_⟩
    have B2 := B2.later hb23
    have B5 := B5.later hb23
    have M := M.trans (hb23.mono M.size)
    have z24 := hb23.size
    replace S := S.put (by decide : 9 < 31) (.bool true)
    refine env_gen (C := fun a => wpList Tryz.prog _ _ _ a _) S ?_
    clear S; intro a S
    refine wpl_val (v := (.bool true)) (ex_move (S.get 9 _ rfl) _) ?_
    replace S := S.put (by decide : 10 < 31) (.bool true)
    refine env_gen (C := fun a => wpList Tryz.prog _ _ _ a _) S ?_
    clear S; intro a S
    refine wg_val (v := (.pointer (some ⟨w.heap.size, 0 + 2, none⟩))) (wan_yes (j := 5) (t := 10) (b := true) rfl (S.get 10 _ rfl) (by rw [S.sz]; decide)) (ex_field (S.get 2 _ rfl) (by kernel_rfl) _) ?_
    replace S := S.put (by decide : 11 < 31) (.pointer (some ⟨w.heap.size, 0 + 2, none⟩))
    refine env_gen (C := fun a => wpList Tryz.prog _ _ _ a _) S ?_
    clear S; intro a S
    refine wg_val (v := (.agg (List.toArray [.slice oL (sLeases s).length cL, .int .i64 (sTok s), .int .i64 (sNow s)]))) (wan_yes (j := 5) (t := 10) (b := true) rfl (S.get 10 _ rfl) (by rw [S.sz]; decide)) (ex_agg (us := [.slice oL (sLeases s).length cL, .int .i64 (sTok s), .int .i64 (sNow s)]) (S.get 11 _ rfl) ⟨by kernel_rfl, by kernel_rfl⟩ rfl _ (Box.seg (us := [.slice oP (sPools s).length cP, .slice oB (sBlocks s).length cB]) (vs := [.slice oL (sLeases s).length cL, .int .i64 (sTok s), .int .i64 (sNow s)]) (ts := [.slice oS (sSess s).length cS, .int .i64 (sNext s), .int .i64 (sCount s)]) B2 rfl)) ?_
    replace S := S.put (by decide : 12 < 31) (.agg (List.toArray [.slice oL (sLeases s).length cL, .int .i64 (sTok s), .int .i64 (sNow s)]))
    refine env_gen (C := fun a => wpList Tryz.prog _ _ _ a _) S ?_
    clear S; intro a S
    refine wg_val (v := (.pointer (some ⟨X1.heap.size, 0 + 2, none⟩))) (wan_yes (j := 5) (t := 10) (b := true) rfl (S.get 10 _ rfl) (by rw [S.sz]; decide)) (ex_field (S.get 3 _ rfl) (by kernel_rfl) _) ?_
    replace S := S.put (by decide : 13 < 31) (.pointer (some ⟨X1.heap.size, 0 + 2, none⟩))
    refine env_gen (C := fun a => wpList Tryz.prog _ _ _ a _) S ?_
    clear S; intro a S
    refine wg_val (v := (.agg (List.toArray [.slice oL' (sLeases t).length cL', .int .i64 (sTok t), .int .i64 (sNow t)]))) (wan_yes (j := 5) (t := 10) (b := true) rfl (S.get 10 _ rfl) (by rw [S.sz]; decide)) (ex_agg (us := [.slice oL' (sLeases t).length cL', .int .i64 (sTok t), .int .i64 (sNow t)]) (S.get 13 _ rfl) ⟨by kernel_rfl, by kernel_rfl⟩ rfl _ (Box.seg (us := [.slice oP' (sPools t).length cP', .slice oB' (sBlocks t).length cB']) (vs := [.slice oL' (sLeases t).length cL', .int .i64 (sTok t), .int .i64 (sNow t)]) (ts := [.slice oS' (sSess t).length cS', .int .i64 (sNext t), .int .i64 (sCount t)]) B5 rfl)) ?_
    replace S := S.put (by decide : 14 < 31) (.agg (List.toArray [.slice oL' (sLeases t).length cL', .int .i64 (sTok t), .int .i64 (sNow t)]))
    refine env_gen (C := fun a => wpList Tryz.prog _ _ _ a _) S ?_
    clear S; intro a S
    have zq0 : Act.eval _ (.tmp 12) = (.agg (List.toArray [.slice oL (sLeases s).length cL, .int .i64 (sTok s), .int .i64 (sNow s)])) := S.get 12 _ rfl
    have zq1 : Act.eval _ (.tmp 14) = (.agg (List.toArray [.slice oL' (sLeases t).length cL', .int .i64 (sTok t), .int .i64 (sNow t)])) := S.get 14 _ rfl
    refine wg_call (R := fun e V => e = .returned (.bool true) ∧ Below V22.heap.size V22 V) (wan_yes (j := 5) (t := 10) (b := true) rfl (S.get 10 _ rfl) (by rw [S.sz]; decide)) ⟨_, Tryz.func68, by kernel_rfl, by kernel_rfl⟩ ?_ ?_
    · have hc := sameBk (hs.later M) (ht.later M)
      rw [h2] at hc
      simp only [List.map_toArray, List.map_cons, List.map_nil, zq0, zq1]; exact hc
    rintro e V25 ⟨rfl, hb26⟩
    refine ⟨_, rfl, ?_⟩
    have B2 := B2.later hb26
    have B5 := B5.later hb26
    have M := M.trans (hb26.mono M.size)
    have z27 := hb26.size
    replace S := S.put (by decide : 15 < 31) (.bool true)
    refine env_gen (C := fun a => wpList Tryz.prog _ _ _ a _) S ?_
    clear S; intro a S
    refine wpl_val (v := (.bool true)) (ex_pickT (v := (.bool true)) (S.get 10 _ rfl) (S.get 15 _ rfl) _) ?_
    replace S := S.put (by decide : 16 < 31) (.bool true)
    refine wpl_val (v := (.bool true)) (ex_move (S.get 16 _ rfl) _) ?_
    replace S := S.put (by decide : 17 < 31) (.bool true)
    refine env_gen (C := fun a => wpList Tryz.prog _ _ _ a _) S ?_
    clear S; intro a S
    refine wg_val (v := (.pointer (some ⟨w.heap.size, 0 + 5, none⟩))) (wan_yes (j := 12) (t := 17) (b := true) rfl (S.get 17 _ rfl) (by rw [S.sz]; decide)) (ex_field (S.get 2 _ rfl) (by kernel_rfl) _) ?_
    replace S := S.put (by decide : 18 < 31) (.pointer (some ⟨w.heap.size, 0 + 5, none⟩))
    refine env_gen (C := fun a => wpList Tryz.prog _ _ _ a _) S ?_
    clear S; intro a S
    refine wg_val (v := (.agg (List.toArray [.slice oS (sSess s).length cS, .int .i64 (sNext s)]))) (wan_yes (j := 12) (t := 17) (b := true) rfl (S.get 17 _ rfl) (by rw [S.sz]; decide)) (ex_agg (us := [.slice oS (sSess s).length cS, .int .i64 (sNext s)]) (S.get 18 _ rfl) ⟨by kernel_rfl, by kernel_rfl⟩ rfl _ (Box.seg (us := [.slice oP (sPools s).length cP, .slice oB (sBlocks s).length cB, .slice oL (sLeases s).length cL, .int .i64 (sTok s), .int .i64 (sNow s)]) (vs := [.slice oS (sSess s).length cS, .int .i64 (sNext s)]) (ts := [.int .i64 (sCount s)]) B2 rfl)) ?_
    replace S := S.put (by decide : 19 < 31) (.agg (List.toArray [.slice oS (sSess s).length cS, .int .i64 (sNext s)]))
    refine env_gen (C := fun a => wpList Tryz.prog _ _ _ a _) S ?_
    clear S; intro a S
    refine wg_val (v := (.pointer (some ⟨X1.heap.size, 0 + 5, none⟩))) (wan_yes (j := 12) (t := 17) (b := true) rfl (S.get 17 _ rfl) (by rw [S.sz]; decide)) (ex_field (S.get 3 _ rfl) (by kernel_rfl) _) ?_
    replace S := S.put (by decide : 20 < 31) (.pointer (some ⟨X1.heap.size, 0 + 5, none⟩))
    refine env_gen (C := fun a => wpList Tryz.prog _ _ _ a _) S ?_
    clear S; intro a S
    refine wg_val (v := (.agg (List.toArray [.slice oS' (sSess t).length cS', .int .i64 (sNext t)]))) (wan_yes (j := 12) (t := 17) (b := true) rfl (S.get 17 _ rfl) (by rw [S.sz]; decide)) (ex_agg (us := [.slice oS' (sSess t).length cS', .int .i64 (sNext t)]) (S.get 20 _ rfl) ⟨by kernel_rfl, by kernel_rfl⟩ rfl _ (Box.seg (us := [.slice oP' (sPools t).length cP', .slice oB' (sBlocks t).length cB', .slice oL' (sLeases t).length cL', .int .i64 (sTok t), .int .i64 (sNow t)]) (vs := [.slice oS' (sSess t).length cS', .int .i64 (sNext t)]) (ts := [.int .i64 (sCount t)]) B5 rfl)) ?_
    replace S := S.put (by decide : 21 < 31) (.agg (List.toArray [.slice oS' (sSess t).length cS', .int .i64 (sNext t)]))
    refine env_gen (C := fun a => wpList Tryz.prog _ _ _ a _) S ?_
    clear S; intro a S
    have zq0 : Act.eval _ (.tmp 19) = (.agg (List.toArray [.slice oS (sSess s).length cS, .int .i64 (sNext s)])) := S.get 19 _ rfl
    have zq1 : Act.eval _ (.tmp 21) = (.agg (List.toArray [.slice oS' (sSess t).length cS', .int .i64 (sNext t)])) := S.get 21 _ rfl
    refine wg_call (R := fun e V => e = .returned (.bool false) ∧ Below V25.heap.size V25 V) (wan_yes (j := 12) (t := 17) (b := true) rfl (S.get 17 _ rfl) (by rw [S.sz]; decide)) ⟨_, Tryz.func69, by kernel_rfl, by kernel_rfl⟩ ?_ ?_
    · have hc := sameDk (hs.later M) (ht.later M)
      rw [h3] at hc
      simp only [List.map_toArray, List.map_cons, List.map_nil, zq0, zq1]; exact hc
    rintro e V28 ⟨rfl, hb29⟩
    refine ⟨_, rfl, ?_⟩
    have B2 := B2.later hb29
    have B5 := B5.later hb29
    have M := M.trans (hb29.mono M.size)
    have z30 := hb29.size
    replace S := S.put (by decide : 22 < 31) (.bool false)
    refine env_gen (C := fun a => wpList Tryz.prog _ _ _ a _) S ?_
    clear S; intro a S
    refine wpl_val (v := (.bool false)) (ex_pickT (v := (.bool false)) (S.get 17 _ rfl) (S.get 22 _ rfl) _) ?_
    replace S := S.put (by decide : 23 < 31) (.bool false)
    refine wpl_val (v := (.bool false)) (ex_move (S.get 23 _ rfl) _) ?_
    replace S := S.put (by decide : 24 < 31) (.bool false)
    refine env_gen (C := fun a => wpList Tryz.prog _ _ _ a _) S ?_
    clear S; intro a S
    refine wg_skip (wan_no (j := 19) (t := 24) (b := true) (c := false) rfl (S.get 24 _ rfl) (by decide)) ?_
    replace S := S.put (by decide : 25 < 31) undef
    refine env_gen (C := fun a => wpList Tryz.prog _ _ _ a _) S ?_
    clear S; intro a S
    refine wg_skip (wan_no (j := 19) (t := 24) (b := true) (c := false) rfl (S.get 24 _ rfl) (by decide)) ?_
    replace S := S.put (by decide : 26 < 31) undef
    refine env_gen (C := fun a => wpList Tryz.prog _ _ _ a _) S ?_
    clear S; intro a S
    refine wg_skip (wan_no (j := 19) (t := 24) (b := true) (c := false) rfl (S.get 24 _ rfl) (by decide)) ?_
    replace S := S.put (by decide : 27 < 31) undef
    refine env_gen (C := fun a => wpList Tryz.prog _ _ _ a _) S ?_
    clear S; intro a S
    refine wg_skip (wan_no (j := 19) (t := 24) (b := true) (c := false) rfl (S.get 24 _ rfl) (by decide)) ?_
    replace S := S.put (by decide : 28 < 31) undef
    refine env_gen (C := fun a => wpList Tryz.prog _ _ _ a _) S ?_
    clear S; intro a S
    refine wg_skip (wan_no (j := 19) (t := 24) (b := true) (c := false) rfl (S.get 24 _ rfl) (by decide)) ?_
    replace S := S.put (by decide : 29 < 31) undef
    refine wpl_val (v := (.bool false)) (ex_pickF (v := (.bool false)) (S.get 24 _ rfl) rfl _) ?_
    replace S := S.put (by decide : 30 < 31) (.bool false)
    refine wpl_val (v := (.bool false)) (ex_assign (S.get 30 _ rfl) _) ?_
    replace S := S.put (by decide : 4 < 31) (.bool false)
    refine wpl_nil ?_
    refine wp_ret ?_
    exact ret_at (P := Tryz.prog) (fn := Tryz.f53) (R := fun e w' => e = .returned (.bool (sameSt s t)) ∧ Below w.heap.size w w') S rfl rfl ⟨by unfold sameSt; rw [h1, h2, h3]; rfl, M⟩
  case true =>
    refine wp_seq (wp_region_list ?_)
    refine wpl_val (v := (.pointer (some ⟨w.heap.size, 0 + 0, none⟩))) (ex_field (S.get 2 _ rfl) (by kernel_rfl) _) ?_
    replace S := S.put (by decide : 5 < 31) (.pointer (some ⟨w.heap.size, 0 + 0, none⟩))
    refine wpl_val (v := (.agg (List.toArray [.slice oP (sPools s).length cP, .slice oB (sBlocks s).length cB]))) (ex_agg (us := [.slice oP (sPools s).length cP, .slice oB (sBlocks s).length cB]) (S.get 5 _ rfl) ⟨by kernel_rfl, by kernel_rfl⟩ rfl _ (Box.seg (us := []) (vs := [.slice oP (sPools s).length cP, .slice oB (sBlocks s).length cB]) (ts := [.slice oL (sLeases s).length cL, .int .i64 (sTok s), .int .i64 (sNow s), .slice oS (sSess s).length cS, .int .i64 (sNext s), .int .i64 (sCount s)]) B2 rfl)) ?_
    replace S := S.put (by decide : 6 < 31) (.agg (List.toArray [.slice oP (sPools s).length cP, .slice oB (sBlocks s).length cB]))
    refine wpl_val (v := (.pointer (some ⟨X1.heap.size, 0 + 0, none⟩))) (ex_field (S.get 3 _ rfl) (by kernel_rfl) _) ?_
    replace S := S.put (by decide : 7 < 31) (.pointer (some ⟨X1.heap.size, 0 + 0, none⟩))
    refine wpl_val (v := (.agg (List.toArray [.slice oP' (sPools t).length cP', .slice oB' (sBlocks t).length cB']))) (ex_agg (us := [.slice oP' (sPools t).length cP', .slice oB' (sBlocks t).length cB']) (S.get 7 _ rfl) ⟨by kernel_rfl, by kernel_rfl⟩ rfl _ (Box.seg (us := []) (vs := [.slice oP' (sPools t).length cP', .slice oB' (sBlocks t).length cB']) (ts := [.slice oL' (sLeases t).length cL', .int .i64 (sTok t), .int .i64 (sNow t), .slice oS' (sSess t).length cS', .int .i64 (sNext t), .int .i64 (sCount t)]) B5 rfl)) ?_
    replace S := S.put (by decide : 8 < 31) (.agg (List.toArray [.slice oP' (sPools t).length cP', .slice oB' (sBlocks t).length cB']))
    have zq0 : Act.eval _ (.tmp 6) = (.agg (List.toArray [.slice oP (sPools s).length cP, .slice oB (sBlocks s).length cB])) := S.get 6 _ rfl
    have zq1 : Act.eval _ (.tmp 8) = (.agg (List.toArray [.slice oP' (sPools t).length cP', .slice oB' (sBlocks t).length cB'])) := S.get 8 _ rfl
    refine wpl_call (R := fun e V => e = .returned (.bool true) ∧ Below X4.heap.size X4 V) ⟨_, Tryz.func67, by kernel_rfl, by kernel_rfl⟩ ?_ ?_
    · have hc := samePl (hs.later M) (ht.later M)
      rw [h1] at hc
      simp only [List.map_toArray, List.map_cons, List.map_nil, zq0, zq1]; exact hc
    rintro e V31 ⟨rfl, hb32⟩
    refine ⟨_, rfl, ?_⟩
    have B2 := B2.later hb32
    have B5 := B5.later hb32
    have M := M.trans (hb32.mono M.size)
    have z33 := hb32.size
    replace S := S.put (by decide : 9 < 31) (.bool true)
    refine env_gen (C := fun a => wpList Tryz.prog _ _ _ a _) S ?_
    clear S; intro a S
    refine wpl_val (v := (.bool true)) (ex_move (S.get 9 _ rfl) _) ?_
    replace S := S.put (by decide : 10 < 31) (.bool true)
    refine env_gen (C := fun a => wpList Tryz.prog _ _ _ a _) S ?_
    clear S; intro a S
    refine wg_val (v := (.pointer (some ⟨w.heap.size, 0 + 2, none⟩))) (wan_yes (j := 5) (t := 10) (b := true) rfl (S.get 10 _ rfl) (by rw [S.sz]; decide)) (ex_field (S.get 2 _ rfl) (by kernel_rfl) _) ?_
    replace S := S.put (by decide : 11 < 31) (.pointer (some ⟨w.heap.size, 0 + 2, none⟩))
    refine env_gen (C := fun a => wpList Tryz.prog _ _ _ a _) S ?_
    clear S; intro a S
    refine wg_val (v := (.agg (List.toArray [.slice oL (sLeases s).length cL, .int .i64 (sTok s), .int .i64 (sNow s)]))) (wan_yes (j := 5) (t := 10) (b := true) rfl (S.get 10 _ rfl) (by rw [S.sz]; decide)) (ex_agg (us := [.slice oL (sLeases s).length cL, .int .i64 (sTok s), .int .i64 (sNow s)]) (S.get 11 _ rfl) ⟨by kernel_rfl, by kernel_rfl⟩ rfl _ (Box.seg (us := [.slice oP (sPools s).length cP, .slice oB (sBlocks s).length cB]) (vs := [.slice oL (sLeases s).length cL, .int .i64 (sTok s), .int .i64 (sNow s)]) (ts := [.slice oS (sSess s).length cS, .int .i64 (sNext s), .int .i64 (sCount s)]) B2 rfl)) ?_
    replace S := S.put (by decide : 12 < 31) (.agg (List.toArray [.slice oL (sLeases s).length cL, .int .i64 (sTok s), .int .i64 (sNow s)]))
    refine env_gen (C := fun a => wpList Tryz.prog _ _ _ a _) S ?_
    clear S; intro a S
    refine wg_val (v := (.pointer (some ⟨X1.heap.size, 0 + 2, none⟩))) (wan_yes (j := 5) (t := 10) (b := true) rfl (S.get 10 _ rfl) (by rw [S.sz]; decide)) (ex_field (S.get 3 _ rfl) (by kernel_rfl) _) ?_
    replace S := S.put (by decide : 13 < 31) (.pointer (some ⟨X1.heap.size, 0 + 2, none⟩))
    refine env_gen (C := fun a => wpList Tryz.prog _ _ _ a _) S ?_
    clear S; intro a S
    refine wg_val (v := (.agg (List.toArray [.slice oL' (sLeases t).length cL', .int .i64 (sTok t), .int .i64 (sNow t)]))) (wan_yes (j := 5) (t := 10) (b := true) rfl (S.get 10 _ rfl) (by rw [S.sz]; decide)) (ex_agg (us := [.slice oL' (sLeases t).length cL', .int .i64 (sTok t), .int .i64 (sNow t)]) (S.get 13 _ rfl) ⟨by kernel_rfl, by kernel_rfl⟩ rfl _ (Box.seg (us := [.slice oP' (sPools t).length cP', .slice oB' (sBlocks t).length cB']) (vs := [.slice oL' (sLeases t).length cL', .int .i64 (sTok t), .int .i64 (sNow t)]) (ts := [.slice oS' (sSess t).length cS', .int .i64 (sNext t), .int .i64 (sCount t)]) B5 rfl)) ?_
    replace S := S.put (by decide : 14 < 31) (.agg (List.toArray [.slice oL' (sLeases t).length cL', .int .i64 (sTok t), .int .i64 (sNow t)]))
    refine env_gen (C := fun a => wpList Tryz.prog _ _ _ a _) S ?_
    clear S; intro a S
    have zq0 : Act.eval _ (.tmp 12) = (.agg (List.toArray [.slice oL (sLeases s).length cL, .int .i64 (sTok s), .int .i64 (sNow s)])) := S.get 12 _ rfl
    have zq1 : Act.eval _ (.tmp 14) = (.agg (List.toArray [.slice oL' (sLeases t).length cL', .int .i64 (sTok t), .int .i64 (sNow t)])) := S.get 14 _ rfl
    refine wg_call (R := fun e V => e = .returned (.bool true) ∧ Below V31.heap.size V31 V) (wan_yes (j := 5) (t := 10) (b := true) rfl (S.get 10 _ rfl) (by rw [S.sz]; decide)) ⟨_, Tryz.func68, by kernel_rfl, by kernel_rfl⟩ ?_ ?_
    · have hc := sameBk (hs.later M) (ht.later M)
      rw [h2] at hc
      simp only [List.map_toArray, List.map_cons, List.map_nil, zq0, zq1]; exact hc
    rintro e V34 ⟨rfl, hb35⟩
    refine ⟨_, rfl, ?_⟩
    have B2 := B2.later hb35
    have B5 := B5.later hb35
    have M := M.trans (hb35.mono M.size)
    have z36 := hb35.size
    replace S := S.put (by decide : 15 < 31) (.bool true)
    refine env_gen (C := fun a => wpList Tryz.prog _ _ _ a _) S ?_
    clear S; intro a S
    refine wpl_val (v := (.bool true)) (ex_pickT (v := (.bool true)) (S.get 10 _ rfl) (S.get 15 _ rfl) _) ?_
    replace S := S.put (by decide : 16 < 31) (.bool true)
    refine wpl_val (v := (.bool true)) (ex_move (S.get 16 _ rfl) _) ?_
    replace S := S.put (by decide : 17 < 31) (.bool true)
    refine env_gen (C := fun a => wpList Tryz.prog _ _ _ a _) S ?_
    clear S; intro a S
    refine wg_val (v := (.pointer (some ⟨w.heap.size, 0 + 5, none⟩))) (wan_yes (j := 12) (t := 17) (b := true) rfl (S.get 17 _ rfl) (by rw [S.sz]; decide)) (ex_field (S.get 2 _ rfl) (by kernel_rfl) _) ?_
    replace S := S.put (by decide : 18 < 31) (.pointer (some ⟨w.heap.size, 0 + 5, none⟩))
    refine env_gen (C := fun a => wpList Tryz.prog _ _ _ a _) S ?_
    clear S; intro a S
    refine wg_val (v := (.agg (List.toArray [.slice oS (sSess s).length cS, .int .i64 (sNext s)]))) (wan_yes (j := 12) (t := 17) (b := true) rfl (S.get 17 _ rfl) (by rw [S.sz]; decide)) (ex_agg (us := [.slice oS (sSess s).length cS, .int .i64 (sNext s)]) (S.get 18 _ rfl) ⟨by kernel_rfl, by kernel_rfl⟩ rfl _ (Box.seg (us := [.slice oP (sPools s).length cP, .slice oB (sBlocks s).length cB, .slice oL (sLeases s).length cL, .int .i64 (sTok s), .int .i64 (sNow s)]) (vs := [.slice oS (sSess s).length cS, .int .i64 (sNext s)]) (ts := [.int .i64 (sCount s)]) B2 rfl)) ?_
    replace S := S.put (by decide : 19 < 31) (.agg (List.toArray [.slice oS (sSess s).length cS, .int .i64 (sNext s)]))
    refine env_gen (C := fun a => wpList Tryz.prog _ _ _ a _) S ?_
    clear S; intro a S
    refine wg_val (v := (.pointer (some ⟨X1.heap.size, 0 + 5, none⟩))) (wan_yes (j := 12) (t := 17) (b := true) rfl (S.get 17 _ rfl) (by rw [S.sz]; decide)) (ex_field (S.get 3 _ rfl) (by kernel_rfl) _) ?_
    replace S := S.put (by decide : 20 < 31) (.pointer (some ⟨X1.heap.size, 0 + 5, none⟩))
    refine env_gen (C := fun a => wpList Tryz.prog _ _ _ a _) S ?_
    clear S; intro a S
    refine wg_val (v := (.agg (List.toArray [.slice oS' (sSess t).length cS', .int .i64 (sNext t)]))) (wan_yes (j := 12) (t := 17) (b := true) rfl (S.get 17 _ rfl) (by rw [S.sz]; decide)) (ex_agg (us := [.slice oS' (sSess t).length cS', .int .i64 (sNext t)]) (S.get 20 _ rfl) ⟨by kernel_rfl, by kernel_rfl⟩ rfl _ (Box.seg (us := [.slice oP' (sPools t).length cP', .slice oB' (sBlocks t).length cB', .slice oL' (sLeases t).length cL', .int .i64 (sTok t), .int .i64 (sNow t)]) (vs := [.slice oS' (sSess t).length cS', .int .i64 (sNext t)]) (ts := [.int .i64 (sCount t)]) B5 rfl)) ?_
    replace S := S.put (by decide : 21 < 31) (.agg (List.toArray [.slice oS' (sSess t).length cS', .int .i64 (sNext t)]))
    refine env_gen (C := fun a => wpList Tryz.prog _ _ _ a _) S ?_
    clear S; intro a S
    have zq0 : Act.eval _ (.tmp 19) = (.agg (List.toArray [.slice oS (sSess s).length cS, .int .i64 (sNext s)])) := S.get 19 _ rfl
    have zq1 : Act.eval _ (.tmp 21) = (.agg (List.toArray [.slice oS' (sSess t).length cS', .int .i64 (sNext t)])) := S.get 21 _ rfl
    refine wg_call (R := fun e V => e = .returned (.bool true) ∧ Below V34.heap.size V34 V) (wan_yes (j := 12) (t := 17) (b := true) rfl (S.get 17 _ rfl) (by rw [S.sz]; decide)) ⟨_, Tryz.func69, by kernel_rfl, by kernel_rfl⟩ ?_ ?_
    · have hc := sameDk (hs.later M) (ht.later M)
      rw [h3] at hc
      simp only [List.map_toArray, List.map_cons, List.map_nil, zq0, zq1]; exact hc
    rintro e V37 ⟨rfl, hb38⟩
    refine ⟨_, rfl, ?_⟩
    have B2 := B2.later hb38
    have B5 := B5.later hb38
    have M := M.trans (hb38.mono M.size)
    have z39 := hb38.size
    replace S := S.put (by decide : 22 < 31) (.bool true)
    refine env_gen (C := fun a => wpList Tryz.prog _ _ _ a _) S ?_
    clear S; intro a S
    refine wpl_val (v := (.bool true)) (ex_pickT (v := (.bool true)) (S.get 17 _ rfl) (S.get 22 _ rfl) _) ?_
    replace S := S.put (by decide : 23 < 31) (.bool true)
    refine wpl_val (v := (.bool true)) (ex_move (S.get 23 _ rfl) _) ?_
    replace S := S.put (by decide : 24 < 31) (.bool true)
    refine env_gen (C := fun a => wpList Tryz.prog _ _ _ a _) S ?_
    clear S; intro a S
    refine wg_val (v := (.pointer (some ⟨w.heap.size, 0 + 7, none⟩))) (wan_yes (j := 19) (t := 24) (b := true) rfl (S.get 24 _ rfl) (by rw [S.sz]; decide)) (ex_field (S.get 2 _ rfl) (by kernel_rfl) _) ?_
    replace S := S.put (by decide : 25 < 31) (.pointer (some ⟨w.heap.size, 0 + 7, none⟩))
    refine env_gen (C := fun a => wpList Tryz.prog _ _ _ a _) S ?_
    clear S; intro a S
    refine wg_val (v := (.int .i64 (sCount s))) (wan_yes (j := 19) (t := 24) (b := true) rfl (S.get 24 _ rfl) (by rw [S.sz]; decide)) (ex_load (S.get 25 _ rfl) ⟨by kernel_rfl, by kernel_rfl⟩ _ (box_at B2 rfl)) ?_
    replace S := S.put (by decide : 26 < 31) (.int .i64 (sCount s))
    refine env_gen (C := fun a => wpList Tryz.prog _ _ _ a _) S ?_
    clear S; intro a S
    refine wg_val (v := (.pointer (some ⟨X1.heap.size, 0 + 7, none⟩))) (wan_yes (j := 19) (t := 24) (b := true) rfl (S.get 24 _ rfl) (by rw [S.sz]; decide)) (ex_field (S.get 3 _ rfl) (by kernel_rfl) _) ?_
    replace S := S.put (by decide : 27 < 31) (.pointer (some ⟨X1.heap.size, 0 + 7, none⟩))
    refine env_gen (C := fun a => wpList Tryz.prog _ _ _ a _) S ?_
    clear S; intro a S
    refine wg_val (v := (.int .i64 (sCount t))) (wan_yes (j := 19) (t := 24) (b := true) rfl (S.get 24 _ rfl) (by rw [S.sz]; decide)) (ex_load (S.get 27 _ rfl) ⟨by kernel_rfl, by kernel_rfl⟩ _ (box_at B5 rfl)) ?_
    replace S := S.put (by decide : 28 < 31) (.int .i64 (sCount t))
    refine env_gen (C := fun a => wpList Tryz.prog _ _ _ a _) S ?_
    clear S; intro a S
    refine wg_val (v := (.bool (((sCount s) : Int) == ((sCount t) : Int)))) (wan_yes (j := 19) (t := 24) (b := true) rfl (S.get 24 _ rfl) (by rw [S.sz]; decide)) (ex_bin (u := (.int .i64 (sCount s))) (v := (.int .i64 (sCount t))) (S.get 26 _ rfl) (S.get 28 _ rfl) _ (run_eqi _)) ?_
    replace S := S.put (by decide : 29 < 31) (.bool (((sCount s) : Int) == ((sCount t) : Int)))
    refine wpl_val (v := (.bool (((sCount s) : Int) == ((sCount t) : Int)))) (ex_pickT (v := (.bool (((sCount s) : Int) == ((sCount t) : Int)))) (S.get 24 _ rfl) (S.get 29 _ rfl) _) ?_
    replace S := S.put (by decide : 30 < 31) (.bool (((sCount s) : Int) == ((sCount t) : Int)))
    refine wpl_val (v := (.bool (((sCount s) : Int) == ((sCount t) : Int)))) (ex_assign (S.get 30 _ rfl) _) ?_
    replace S := S.put (by decide : 4 < 31) (.bool (((sCount s) : Int) == ((sCount t) : Int)))
    refine wpl_nil ?_
    refine wp_ret ?_
    exact ret_at (P := Tryz.prog) (fn := Tryz.f53) (R := fun e w' => e = .returned (.bool (sameSt s t)) ∧ Below w.heap.size w w') S rfl rfl ⟨by unfold sameSt; rw [h1, h2, h3]; rfl, M⟩

end Go.Proofs.YtjiplphfpkhmpaaGreat
