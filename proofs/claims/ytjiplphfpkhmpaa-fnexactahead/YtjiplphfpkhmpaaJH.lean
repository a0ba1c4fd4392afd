/-
  Both Ahead.
-/
import Derived.Test.YtjiplphfpkhmpaaJB
namespace Go.Proofs.Ytjiplphfpkhmpaa
open Go.RowKit

/-- Of the replica at a place: is all applied, and no more agreed than is done? -/
def ahF (R : List RepA) (nD : Nat) (j : Nat) : Bool := match R[j]? with
  | some r => !((rUp r && rApplied r != rCommit r) || decide (rCommit r > (nD : Int)))
  | none => true
theorem ahF_at {R : List RepA} {nD j : Nat} {r : RepA} (h : R[j]? = some r) : ahF R nD j = !((rUp r && rApplied r != rCommit r) || decide (rCommit r > (nD : Int))) := by
  unfold ahF
  rw [h]

set_option maxRecDepth 20000 in
set_option maxHeartbeats 8000000 in
theorem iAhead_m (us : List Value) (R : List RepA) (o oD : Option Addr) (c cD nD : Nat) (p0 : Nat) (w : World) (k0 : us[0]? = some (.slice o R.length c)) (k5 : us[5]? = some (.slice oD nD cD)) (hn : R.length ≤ 1048576) (hat : ∀ j y, R[j]? = some y → At cReplica w 0 o j y) (B0 : Box w p0 us) :
    Calls Try.prog 31 #[.pointer (some ⟨p0, 0, none⟩)] w fun e w' => e = .returned (.bool (allN (ahF R nD) R.length)) ∧ Below w.heap.size w w' := by
  refine calls_of_wp Try.func31 rfl ?_
  have hpan := pan_body (P := Try.prog) (fn := Try.f31) (R := fun e w' => e = .returned (.bool (allN (ahF R nD) R.length)) ∧ Below w.heap.size w w')
  refine env1 (N := 38) rfl (by decide) ?_
  intro a S
  have M : Below w.heap.size w w := Below.refl _ _
  refine wp_seq (wp_region_list ?_)
  refine wpl_val (v := (.bool false)) (ex_assign (v := (.bool false)) rfl _) ?_
  replace S := S.put (by decide : 2 < 38) (.bool false)
  refine wpl_nil ?_
  replace S := (S.nil).add (S.get 0 _ rfl)
  refine env_gen (C := fun a => Code.wp Try.prog _ _ a _) S ?_
  clear S; intro a S
  refine wp_seq (wp_seq (wp_region_list ?_))
  refine wpl_val (v := (.pointer (some ⟨p0, 0, none⟩))) (ex_move (S.get 0 _ rfl) _) ?_
  replace S := S.put (by decide : 6 < 38) (.pointer (some ⟨p0, 0, none⟩))
  refine wpl_val (v := (.pointer (some ⟨p0, 0, none⟩))) (ex_nil (S.get 6 _ rfl) _) ?_
  replace S := S.put (by decide : 7 < 38) (.pointer (some ⟨p0, 0, none⟩))
  refine wpl_val (v := (.pointer (some ⟨p0, 0 + 0, none⟩))) (ex_field (S.get 7 _ rfl) (by kernel_rfl) _) ?_
  replace S := S.put (by decide : 8 < 38) (.pointer (some ⟨p0, 0 + 0, none⟩))
  refine wpl_val (v := (.slice o R.length c)) (ex_load (S.get 8 _ rfl) ⟨by kernel_rfl, by kernel_rfl⟩ _ (box_at B0 k0)) ?_
  replace S := S.put (by decide : 9 < 38) (.slice o R.length c)
  refine wpl_val (v := (.int .i64 R.length)) (ex_len (by kernel_rfl) (S.get 9 _ rfl) _) ?_
  replace S := S.put (by decide : 10 < 38) (.int .i64 R.length)
  refine wpl_val (v := (.int .i64 0)) (ex_move (v := (.int .i64 0)) rfl _) ?_
  replace S := S.put (by decide : 11 < 38) (.int .i64 0)
  refine wpl_nil ?_
  replace S := ((((S.nil).add (S.get 0 _ rfl)).add (S.get 9 _ rfl)).add (S.get 10 _ rfl)).add (S.get 11 _ rfl)
  refine env_gen (C := fun a => Code.wp Try.prog _ _ a _) S ?_
  clear S; intro a S
  refine wp_block (wp_count R.length (fun i a W => Env 38 (upd (upd (upd (upd ((fun _ => none)) 0 (.pointer (some ⟨p0, 0, none⟩))) 9 (.slice o R.length c)) 10 (.int .i64 R.length)) 11 (.int .i64 i)) a ∧ allN (ahF R nD) i = true ∧ Below w.heap.size w W ∧ Box W (p0) us) ⟨S, rfl, M, B0⟩ ?_)
  clear S M B0
  rintro i a W hin ⟨S, hall, M, B0⟩
  refine wp_seq (wp_region_list ?_)
  refine wpl_val (v := (.bool (decide ((i : Int) < (R.length : Int))))) (ex_bin (u := (.int .i64 i)) (v := (.int .i64 R.length)) (S.get 11 _ rfl) (S.get 10 _ rfl) _ (run_lss _)) ?_
  replace S := S.put (by decide : 12 < 38) (.bool (decide ((i : Int) < (R.length : Int))))
  refine wpl_nil ?_
  by_cases hlt : i < R.length
  case neg =>
    rw [decide_eq_false (by omega : ¬ (i : Int) < (R.length : Int))] at S ⊢
    have hiR : i = R.length := by omega
    refine wp_seq (wp_cond_false (S.get 12 _ rfl) (wp_exit ?_))
    simp only [Exit.then, Exit.inBlock, if_true]
    refine wp_seq (wp_region_list ?_)
    refine wpl_val (v := (.bool true)) (ex_assign (v := (.bool true)) rfl _) ?_
    replace S := S.put (by decide : 2 < 38) (.bool true)
    refine wpl_nil ?_
    refine wp_ret ?_
    rw [hiR] at hall
    exact ret_at (P := Try.prog) (fn := Try.f31) (R := fun e w' => e = .returned (.bool (allN (ahF R nD) R.length)) ∧ Below w.heap.size w w') S rfl rfl ⟨by rw [hall], M⟩
  rw [decide_eq_true (by omega : (i : Int) < (R.length : Int))] at S ⊢
  refine wp_seq (wp_cond_true (S.get 12 _ rfl) (wp_skip ?_))
  replace S := ((((S.nil).add (S.get 0 _ rfl)).add (S.get 9 _ rfl)).add (S.get 10 _ rfl)).add (S.get 11 _ rfl)
  refine env_gen (C := fun a => Code.wp Try.prog _ _ a _) S ?_
  clear S; intro a S
  obtain ⟨r, hri⟩ : ∃ r, R[i]? = some r := ⟨_, List.getElem?_eq_getElem (by omega)⟩
  obtain ⟨p, q, vs, rfl, _, hp, hseg, hrep⟩ := hat i r hri
  have hg := ahF_at (nD := nD) hri
  obtain ⟨hul, hone, hcm, hap, hup⟩ := rep_parts hrep
  have hk43 : cReplica.k = 43 := by kernel_rfl
  rw [hk43] at hseg
  generalize rUp r = up at *
  generalize rApplied r = ap at *
  generalize rCommit r = cm at *
  refine wp_seq (wp_block ?_)
  refine wp_seq (wp_region_list ?_)
  refine wpl_val (v := (.pointer (some ⟨p, q + i * 43, none⟩))) (ex_index (e := 84) (i := i) (k := 43) (by kernel_rfl) (by kernel_rfl) (S.get 9 _ rfl) (S.get 11 _ rfl) hlt _) ?_
  replace S := S.put (by decide : 13 < 38) (.pointer (some ⟨p, q + i * 43, none⟩))
  refine wpl_val (v := (.agg (List.toArray vs))) (ex_agg (us := vs) (S.get 13 _ rfl) ⟨by kernel_rfl, by kernel_rfl⟩ hul _ (hseg.frm (Fr.of M) (Nat.zero_le _) hp)) ?_
  replace S := S.put (by decide : 14 < 38) (.agg (List.toArray vs))
  refine wpl_alloc (zs := rpN) (z := .agg rpN.toArray) (by kernel_rfl) rfl ?_
  intro X3 B1 l4 n5
  have p2 : ∃ p, p = W.heap.size := ⟨_, rfl⟩
  obtain ⟨p2, ep2⟩ := p2
  rw [← ep2] at B1 ⊢
  replace S := S.put (by decide : 4 < 38) (.pointer (some ⟨p2, 0, none⟩))
  refine wpl_store (off := 0) (n := 43) rfl 84 (.tmp 4) (.tmp 14) rfl (S.get 4 _ rfl) (S.get 14 _ rfl) vs [] (rpN) [] rfl hone (by kernel_rfl) hul (by rw [List.append_nil]; exact B1) rfl rfl ?_
  intro U6 B1 g7 _
  rw [List.nil_append, List.append_nil] at B1
  rw [put_none]
  have h8 : Below W.heap.size W U6 := l4.grown g7 l4.size (fun q hq => by have := Option.some.inj hq; omega)
  have B0 := B0.later h8
  have M := M.trans (h8.mono M.size)
  have z9 := h8.size
  refine wpl_nil ?_
  replace S := (((((S.nil).add (S.get 0 _ rfl)).add (S.get 4 _ rfl)).add (S.get 9 _ rfl)).add (S.get 10 _ rfl)).add (S.get 11 _ rfl)
  refine env_gen (C := fun a => Code.wp Try.prog _ _ a _) S ?_
  clear S; intro a S
  cases up
  case false =>
    refine wp_seq (wp_region_list ?_)
    refine wpl_val (v := (.pointer (some ⟨p2, 0 + 42, none⟩))) (ex_field (S.get 4 _ rfl) (by kernel_rfl) _) ?_
    replace S := S.put (by decide : 15 < 38) (.pointer (some ⟨p2, 0 + 42, none⟩))
    refine wpl_val (v := (.bool false)) (ex_load (S.get 15 _ rfl) ⟨by kernel_rfl, by kernel_rfl⟩ _ (box_at B1 hup)) ?_
    replace S := S.put (by decide : 16 < 38) (.bool false)
    refine wpl_val (v := (.bool false)) (ex_move (S.get 16 _ rfl) _) ?_
    replace S := S.put (by decide : 17 < 38) (.bool false)
    refine env_gen (C := fun a => wpList Try.prog _ _ _ a _) S ?_
    clear S; intro a S
    refine wg_skip (wan_no (j := 2) (t := 17) (b := true) (c := false) rfl (S.get 17 _ rfl) (by decide)) ?_
    replace S := S.put (by decide : 18 < 38) undef
    refine env_gen (C := fun a => wpList Try.prog _ _ _ a _) S ?_
    clear S; intro a S
    refine wg_skip (wan_no (j := 2) (t := 17) (b := true) (c := false) rfl (S.get 17 _ rfl) (by decide)) ?_
    replace S := S.put (by decide : 19 < 38) undef
    refine env_gen (C := fun a => wpList Try.prog _ _ _ a _) S ?_
    clear S; intro a S
    refine wg_skip (wan_no (j := 2) (t := 17) (b := true) (c := false) rfl (S.get 17 _ rfl) (by decide)) ?_
    replace S := S.put (by decide : 20 < 38) undef
    refine env_gen (C := fun a => wpList Try.prog _ _ _ a _) S ?_
    clear S; intro a S
    refine wg_skip (wan_no (j := 2) (t := 17) (b := true) (c := false) rfl (S.get 17 _ rfl) (by decide)) ?_
    replace S := S.put (by decide : 21 < 38) undef
    refine env_gen (C := fun a => wpList Try.prog _ _ _ a _) S ?_
    clear S; intro a S
    refine wg_skip (wan_no (j := 2) (t := 17) (b := true) (c := false) rfl (S.get 17 _ rfl) (by decide)) ?_
    replace S := S.put (by decide : 22 < 38) undef
    refine env_gen (C := fun a => wpList Try.prog _ _ _ a _) S ?_
    clear S; intro a S
    refine wg_skip (wan_no (j := 2) (t := 17) (b := true) (c := false) rfl (S.get 17 _ rfl) (by decide)) ?_
    replace S := S.put (by decide : 23 < 38) undef
    refine wpl_val (v := (.bool false)) (ex_pickF (v := (.bool false)) (S.get 17 _ rfl) rfl _) ?_
    replace S := S.put (by decide : 24 < 38) (.bool false)
    refine wpl_val (v := (.bool false)) (ex_assign (S.get 24 _ rfl) _) ?_
    replace S := S.put (by decide : 5 < 38) (.bool false)
    refine wpl_nil ?_
    replace S := ((((((S.nil).add (S.get 0 _ rfl)).add (S.get 5 _ rfl)).add (S.get 4 _ rfl)).add (S.get 9 _ rfl)).add (S.get 10 _ rfl)).add (S.get 11 _ rfl)
    refine env_gen (C := fun a => Code.wp Try.prog _ _ a _) S ?_
    clear S; intro a S
    refine wp_seq ?_
    have hdr : Below U6.heap.size U6 U6.drew := (Below.refl _ U6).drew
    have B0 := B0.later hdr
    have B1 := B1.later hdr
    have M := M.trans (hdr.mono M.size)
    have z10 := hdr.size
    clear hdr
    refine wp_region_held_drew (S := fun V => Box V (p0) us ∧ Box V p2 vs) (by kernel_rfl) ⟨B0, B1⟩ (fun hS => ?_)
    refine dr_val 0 25 rfl (by kernel_rfl) (fun c a d v w hq => hpan c a d v w hq) (v := (.bool false)) (fun V hV => ex_move (S.get 5 _ rfl) V) hS ?_
    replace S := S.put (by decide : 25 < 38) (.bool false)
    refine dr_val 1 26 rfl (by kernel_rfl) (fun c a d v w hq => hpan c a d v w hq) (v := (.bool false)) (fun V hV => ex_move (S.get 25 _ rfl) V) hS ?_
    replace S := S.put (by decide : 26 < 38) (.bool false)
    refine env_gen (C := fun a => wpAnyH Try.prog _ _ _ _ _ _ a _) S ?_
    clear S; intro a S
    refine dg_val 2 27 rfl (by kernel_rfl) (fun c a d v w hq => hpan c a d v w hq) (wan_yes (j := 1) (t := 26) (b := false) rfl (S.get 26 _ rfl) (by rw [S.sz]; decide)) (v := (.pointer (some ⟨p2, 0 + 0, none⟩))) (fun V hV => ex_field (S.get 4 _ rfl) (by kernel_rfl) V) hS ?_
    replace S := S.put (by decide : 27 < 38) (.pointer (some ⟨p2, 0 + 0, none⟩))
    refine env_gen (C := fun a => wpAnyH Try.prog _ _ _ _ _ _ a _) S ?_
    clear S; intro a S
    refine dg_val 3 28 rfl (by kernel_rfl) (fun c a d v w hq => hpan c a d v w hq) (wan_yes (j := 1) (t := 26) (b := false) rfl (S.get 26 _ rfl) (by rw [S.sz]; decide)) (v := (.pointer (some ⟨p2, 0 + 0 + 11, none⟩))) (fun V hV => ex_field (S.get 27 _ rfl) (by kernel_rfl) V) hS ?_
    replace S := S.put (by decide : 28 < 38) (.pointer (some ⟨p2, 0 + 0 + 11, none⟩))
    refine env_gen (C := fun a => wpAnyH Try.prog _ _ _ _ _ _ a _) S ?_
    clear S; intro a S
    refine dg_val 4 29 rfl (by kernel_rfl) (fun c a d v w hq => hpan c a d v w hq) (wan_yes (j := 1) (t := 26) (b := false) rfl (S.get 26 _ rfl) (by rw [S.sz]; decide)) (v := (.int .i64 cm)) (fun V hV => ex_load (S.get 28 _ rfl) ⟨by kernel_rfl, by kernel_rfl⟩ V (box_at hV.2 hcm)) hS ?_
    replace S := S.put (by decide : 29 < 38) (.int .i64 cm)
    refine env_gen (C := fun a => wpAnyH Try.prog _ _ _ _ _ _ a _) S ?_
    clear S; intro a S
    refine dg_val 5 30 rfl (by kernel_rfl) (fun c a d v w hq => hpan c a d v w hq) (wan_yes (j := 1) (t := 26) (b := false) rfl (S.get 26 _ rfl) (by rw [S.sz]; decide)) (v := (.pointer (some ⟨p0, 0, none⟩))) (fun V hV => ex_move (S.get 0 _ rfl) V) hS ?_
    replace S := S.put (by decide : 30 < 38) (.pointer (some ⟨p0, 0, none⟩))
    refine env_gen (C := fun a => wpAnyH Try.prog _ _ _ _ _ _ a _) S ?_
    clear S; intro a S
    refine dg_val 6 31 rfl (by kernel_rfl) (fun c a d v w hq => hpan c a d v w hq) (wan_yes (j := 1) (t := 26) (b := false) rfl (S.get 26 _ rfl) (by rw [S.sz]; decide)) (v := (.pointer (some ⟨p0, 0, none⟩))) (fun V hV => ex_nil (S.get 30 _ rfl) V) hS ?_
    replace S := S.put (by decide : 31 < 38) (.pointer (some ⟨p0, 0, none⟩))
    refine env_gen (C := fun a => wpAnyH Try.prog _ _ _ _ _ _ a _) S ?_
    clear S; intro a S
    refine dg_val 7 32 rfl (by kernel_rfl) (fun c a d v w hq => hpan c a d v w hq) (wan_yes (j := 1) (t := 26) (b := false) rfl (S.get 26 _ rfl) (by rw [S.sz]; decide)) (v := (.pointer (some ⟨p0, 0 + 5, none⟩))) (fun V hV => ex_field (S.get 31 _ rfl) (by kernel_rfl) V) hS ?_
    replace S := S.put (by decide : 32 < 38) (.pointer (some ⟨p0, 0 + 5, none⟩))
    refine env_gen (C := fun a => wpAnyH Try.prog _ _ _ _ _ _ a _) S ?_
    clear S; intro a S
    refine dg_val 8 33 rfl (by kernel_rfl) (fun c a d v w hq => hpan c a d v w hq) (wan_yes (j := 1) (t := 26) (b := false) rfl (S.get 26 _ rfl) (by rw [S.sz]; decide)) (v := (.slice oD nD cD)) (fun V hV => ex_load (S.get 32 _ rfl) ⟨by kernel_rfl, by kernel_rfl⟩ V (box_at hV.1 k5)) hS ?_
    replace S := S.put (by decide : 33 < 38) (.slice oD nD cD)
    refine env_gen (C := fun a => wpAnyH Try.prog _ _ _ _ _ _ a _) S ?_
    clear S; intro a S
    refine dg_val 9 34 rfl (by kernel_rfl) (fun c a d v w hq => hpan c a d v w hq) (wan_yes (j := 1) (t := 26) (b := false) rfl (S.get 26 _ rfl) (by rw [S.sz]; decide)) (v := (.int .i64 nD)) (fun V hV => ex_len (by kernel_rfl) (S.get 33 _ rfl) V) hS ?_
    replace S := S.put (by decide : 34 < 38) (.int .i64 nD)
    refine env_gen (C := fun a => wpAnyH Try.prog _ _ _ _ _ _ a _) S ?_
    clear S; intro a S
    refine dg_val 10 35 rfl (by kernel_rfl) (fun c a d v w hq => hpan c a d v w hq) (wan_yes (j := 1) (t := 26) (b := false) rfl (S.get 26 _ rfl) (by rw [S.sz]; decide)) (v := (.bool (decide ((cm : Int) > (nD : Int))))) (fun V hV => ex_bin (u := (.int .i64 cm)) (v := (.int .i64 nD)) (S.get 29 _ rfl) (S.get 34 _ rfl) V (run_gtr V)) hS ?_
    replace S := S.put (by decide : 35 < 38) (.bool (decide ((cm : Int) > (nD : Int))))
    refine dr_val 11 36 rfl (by kernel_rfl) (fun c a d v w hq => hpan c a d v w hq) (v := (.bool (decide ((cm : Int) > (nD : Int))))) (fun V hV => ex_pickF (v := (.bool (decide ((cm : Int) > (nD : Int))))) (S.get 26 _ rfl) (S.get 35 _ rfl) V) hS ?_
    replace S := S.put (by decide : 36 < 38) (.bool (decide ((cm : Int) > (nD : Int))))
    refine ⟨by kernel_rfl, ?_⟩
    by_cases hc : ((cm : Int) > (nD : Int))
    case pos =>
      rw [decide_eq_true hc] at S ⊢
      refine wp_cond_true (S.get 36 _ rfl) ?_
      refine wp_seq (wp_region_list ?_)
      refine wpl_val (v := (.bool false)) (ex_assign (v := (.bool false)) rfl _) ?_
      replace S := S.put (by decide : 2 < 38) (.bool false)
      refine wpl_nil ?_
      refine wp_ret ?_
      have hgF : ahF R nD i = false := by rw [hg]; simp [*]
      exact ret_at (P := Try.prog) (fn := Try.f31) (R := fun e w' => e = .returned (.bool (allN (ahF R nD) R.length)) ∧ Below w.heap.size w w') S rfl rfl ⟨by rw [allN_bad hgF hlt], M⟩
    case neg =>
      rw [decide_eq_false hc] at S ⊢
      refine wp_cond_false (S.get 36 _ rfl) (wp_skip ?_)
      replace S := ((((S.nil).add (S.get 0 _ rfl)).add (S.get 9 _ rfl)).add (S.get 10 _ rfl)).add (S.get 11 _ rfl)
      refine env_gen (C := fun a => Code.wp Try.prog _ _ a _) S ?_
      clear S; intro a S
      refine wp_region_list ?_
      refine wpl_val (v := (.int .i64 (i + 1))) (ex_bin (u := (.int .i64 i)) (v := (.int .i64 1)) (S.get 11 _ rfl) rfl _ (run_inc _ (by omega) (by omega))) ?_
      replace S := S.put (by decide : 37 < 38) (.int .i64 (i + 1))
      refine wpl_val (v := (.int .i64 (i + 1))) (ex_move (S.get 37 _ rfl) _) ?_
      replace S := S.put (by decide : 11 < 38) (.int .i64 (i + 1))
      refine wpl_nil ?_
      have hgT : ahF R nD i = true := by rw [hg]; simp [*]
      exact ⟨⟨((((S.nil).add (S.get 0 _ rfl)).add (S.get 9 _ rfl)).add (S.get 10 _ rfl)).add (S.get 11 _ rfl), allN_step hall hgT, M, B0⟩, hlt⟩
  by_cases hac : ap = cm
  case pos =>
    have hne : (ap != cm) = false := by simp [hac]
    refine wp_seq (wp_region_list ?_)
    refine wpl_val (v := (.pointer (some ⟨p2, 0 + 42, none⟩))) (ex_field (S.get 4 _ rfl) (by kernel_rfl) _) ?_
    replace S := S.put (by decide : 15 < 38) (.pointer (some ⟨p2, 0 + 42, none⟩))
    refine wpl_val (v := (.bool true)) (ex_load (S.get 15 _ rfl) ⟨by kernel_rfl, by kernel_rfl⟩ _ (box_at B1 hup)) ?_
    replace S := S.put (by decide : 16 < 38) (.bool true)
    refine wpl_val (v := (.bool true)) (ex_move (S.get 16 _ rfl) _) ?_
    replace S := S.put (by decide : 17 < 38) (.bool true)
    refine env_gen (C := fun a => wpList Try.prog _ _ _ a _) S ?_
    clear S; intro a S
    refine wg_val (v := (.pointer (some ⟨p2, 0 + 39, none⟩))) (wan_yes (j := 2) (t := 17) (b := true) rfl (S.get 17 _ rfl) (by rw [S.sz]; decide)) (ex_field (S.get 4 _ rfl) (by kernel_rfl) _) ?_
    replace S := S.put (by decide : 18 < 38) (.pointer (some ⟨p2, 0 + 39, none⟩))
    refine env_gen (C := fun a => wpList Try.prog _ _ _ a _) S ?_
    clear S; intro a S
    refine wg_val (v := (.int .i64 ap)) (wan_yes (j := 2) (t := 17) (b := true) rfl (S.get 17 _ rfl) (by rw [S.sz]; decide)) (ex_load (S.get 18 _ rfl) ⟨by kernel_rfl, by kernel_rfl⟩ _ (box_at B1 hap)) ?_
    replace S := S.put (by decide : 19 < 38) (.int .i64 ap)
    refine env_gen (C := fun a => wpList Try.prog _ _ _ a _) S ?_
    clear S; intro a S
    refine wg_val (v := (.pointer (some ⟨p2, 0 + 0, none⟩))) (wan_yes (j := 2) (t := 17) (b := true) rfl (S.get 17 _ rfl) (by rw [S.sz]; decide)) (ex_field (S.get 4 _ rfl) (by kernel_rfl) _) ?_
    replace S := S.put (by decide : 20 < 38) (.pointer (some ⟨p2, 0 + 0, none⟩))
    refine env_gen (C := fun a => wpList Try.prog _ _ _ a _) S ?_
    clear S; intro a S
    refine wg_val (v := (.pointer (some ⟨p2, 0 + 0 + 11, none⟩))) (wan_yes (j := 2) (t := 17) (b := true) rfl (S.get 17 _ rfl) (by rw [S.sz]; decide)) (ex_field (S.get 20 _ rfl) (by kernel_rfl) _) ?_
    replace S := S.put (by decide : 21 < 38) (.pointer (some ⟨p2, 0 + 0 + 11, none⟩))
    refine env_gen (C := fun a => wpList Try.prog _ _ _ a _) S ?_
    clear S; intro a S
    refine wg_val (v := (.int .i64 cm)) (wan_yes (j := 2) (t := 17) (b := true) rfl (S.get 17 _ rfl) (by rw [S.sz]; decide)) (ex_load (S.get 21 _ rfl) ⟨by kernel_rfl, by kernel_rfl⟩ _ (box_at B1 hcm)) ?_
    replace S := S.put (by decide : 22 < 38) (.int .i64 cm)
    refine env_gen (C := fun a => wpList Try.prog _ _ _ a _) S ?_
    clear S; intro a S
    refine wg_val (v := (.bool false)) (wan_yes (j := 2) (t := 17) (b := true) rfl (S.get 17 _ rfl) (by rw [S.sz]; decide)) (ex_bin (u := (.int .i64 ap)) (v := (.int .i64 cm)) (S.get 19 _ rfl) (S.get 22 _ rfl) _ ((run_eqb _).trans (by rw [hne]))) ?_
    replace S := S.put (by decide : 23 < 38) (.bool false)
    refine wpl_val (v := (.bool false)) (ex_pickT (v := (.bool false)) (S.get 17 _ rfl) (S.get 23 _ rfl) _) ?_
    replace S := S.put (by decide : 24 < 38) (.bool false)
    refine wpl_val (v := (.bool false)) (ex_assign (S.get 24 _ rfl) _) ?_
    replace S := S.put (by decide : 5 < 38) (.bool false)
    refine wpl_nil ?_
    replace S := ((((((S.nil).add (S.get 0 _ rfl)).add (S.get 5 _ rfl)).add (S.get 4 _ rfl)).add (S.get 9 _ rfl)).add (S.get 10 _ rfl)).add (S.get 11 _ rfl)
    refine env_gen (C := fun a => Code.wp Try.prog _ _ a _) S ?_
    clear S; intro a S
    refine wp_seq ?_
    have hdr : Below U6.heap.size U6 U6.drew := (Below.refl _ U6).drew
    have B0 := B0.later hdr
    have B1 := B1.later hdr
    have M := M.trans (hdr.mono M.size)
    have z11 := hdr.size
    clear hdr
    refine wp_region_held_drew (S := fun V => Box V (p0) us ∧ Box V p2 vs) (by kernel_rfl) ⟨B0, B1⟩ (fun hS => ?_)
    refine dr_val 0 25 rfl (by kernel_rfl) (fun c a d v w hq => hpan c a d v w hq) (v := (.bool false)) (fun V hV => ex_move (S.get 5 _ rfl) V) hS ?_
    replace S := S.put (by decide : 25 < 38) (.bool false)
    refine dr_val 1 26 rfl (by kernel_rfl) (fun c a d v w hq => hpan c a d v w hq) (v := (.bool false)) (fun V hV => ex_move (S.get 25 _ rfl) V) hS ?_
    replace S := S.put (by decide : 26 < 38) (.bool false)
    refine env_gen (C := fun a => wpAnyH Try.prog _ _ _ _ _ _ a _) S ?_
    clear S; intro a S
    refine dg_val 2 27 rfl (by kernel_rfl) (fun c a d v w hq => hpan c a d v w hq) (wan_yes (j := 1) (t := 26) (b := false) rfl (S.get 26 _ rfl) (by rw [S.sz]; decide)) (v := (.pointer (some ⟨p2, 0 + 0, none⟩))) (fun V hV => ex_field (S.get 4 _ rfl) (by kernel_rfl) V) hS ?_
    replace S := S.put (by decide : 27 < 38) (.pointer (some ⟨p2, 0 + 0, none⟩))
    refine env_gen (C := fun a => wpAnyH Try.prog _ _ _ _ _ _ a _) S ?_
    clear S; intro a S
    refine dg_val 3 28 rfl (by kernel_rfl) (fun c a d v w hq => hpan c a d v w hq) (wan_yes (j := 1) (t := 26) (b := false) rfl (S.get 26 _ rfl) (by rw [S.sz]; decide)) (v := (.pointer (some ⟨p2, 0 + 0 + 11, none⟩))) (fun V hV => ex_field (S.get 27 _ rfl) (by kernel_rfl) V) hS ?_
    replace S := S.put (by decide : 28 < 38) (.pointer (some ⟨p2, 0 + 0 + 11, none⟩))
    refine env_gen (C := fun a => wpAnyH Try.prog _ _ _ _ _ _ a _) S ?_
    clear S; intro a S
    refine dg_val 4 29 rfl (by kernel_rfl) (fun c a d v w hq => hpan c a d v w hq) (wan_yes (j := 1) (t := 26) (b := false) rfl (S.get 26 _ rfl) (by rw [S.sz]; decide)) (v := (.int .i64 cm)) (fun V hV => ex_load (S.get 28 _ rfl) ⟨by kernel_rfl, by kernel_rfl⟩ V (box_at hV.2 hcm)) hS ?_
    replace S := S.put (by decide : 29 < 38) (.int .i64 cm)
    refine env_gen (C := fun a => wpAnyH Try.prog _ _ _ _ _ _ a _) S ?_
    clear S; intro a S
    refine dg_val 5 30 rfl (by kernel_rfl) (fun c a d v w hq => hpan c a d v w hq) (wan_yes (j := 1) (t := 26) (b := false) rfl (S.get 26 _ rfl) (by rw [S.sz]; decide)) (v := (.pointer (some ⟨p0, 0, none⟩))) (fun V hV => ex_move (S.get 0 _ rfl) V) hS ?_
    replace S := S.put (by decide : 30 < 38) (.pointer (some ⟨p0, 0, none⟩))
    refine env_gen (C := fun a => wpAnyH Try.prog _ _ _ _ _ _ a _) S ?_
    clear S; intro a S
    refine dg_val 6 31 rfl (by kernel_rfl) (fun c a d v w hq => hpan c a d v w hq) (wan_yes (j := 1) (t := 26) (b := false) rfl (S.get 26 _ rfl) (by rw [S.sz]; decide)) (v := (.pointer (some ⟨p0, 0, none⟩))) (fun V hV => ex_nil (S.get 30 _ rfl) V) hS ?_
    replace S := S.put (by decide : 31 < 38) (.pointer (some ⟨p0, 0, none⟩))
    refine env_gen (C := fun a => wpAnyH Try.prog _ _ _ _ _ _ a _) S ?_
    clear S; intro a S
    refine dg_val 7 32 rfl (by kernel_rfl) (fun c a d v w hq => hpan c a d v w hq) (wan_yes (j := 1) (t := 26) (b := false) rfl (S.get 26 _ rfl) (by rw [S.sz]; decide)) (v := (.pointer (some ⟨p0, 0 + 5, none⟩))) (fun V hV => ex_field (S.get 31 _ rfl) (by kernel_rfl) V) hS ?_
    replace S := S.put (by decide : 32 < 38) (.pointer (some ⟨p0, 0 + 5, none⟩))
    refine env_gen (C := fun a => wpAnyH Try.prog _ _ _ _ _ _ a _) S ?_
    clear S; intro a S
    refine dg_val 8 33 rfl (by kernel_rfl) (fun c a d v w hq => hpan c a d v w hq) (wan_yes (j := 1) (t := 26) (b := false) rfl (S.get 26 _ rfl) (by rw [S.sz]; decide)) (v := (.slice oD nD cD)) (fun V hV => ex_load (S.get 32 _ rfl) ⟨by kernel_rfl, by kernel_rfl⟩ V (box_at hV.1 k5)) hS ?_
    replace S := S.put (by decide : 33 < 38) (.slice oD nD cD)
    refine env_gen (C := fun a => wpAnyH Try.prog _ _ _ _ _ _ a _) S ?_
    clear S; intro a S
    refine dg_val 9 34 rfl (by kernel_rfl) (fun c a d v w hq => hpan c a d v w hq) (wan_yes (j := 1) (t := 26) (b := false) rfl (S.get 26 _ rfl) (by rw [S.sz]; decide)) (v := (.int .i64 nD)) (fun V hV => ex_len (by kernel_rfl) (S.get 33 _ rfl) V) hS ?_
    replace S := S.put (by decide : 34 < 38) (.int .i64 nD)
    refine env_gen (C := fun a => wpAnyH Try.prog _ _ _ _ _ _ a _) S ?_
    clear S; intro a S
    refine dg_val 10 35 rfl (by kernel_rfl) (fun c a d v w hq => hpan c a d v w hq) (wan_yes (j := 1) (t := 26) (b := false) rfl (S.get 26 _ rfl) (by rw [S.sz]; decide)) (v := (.bool (decide ((cm : Int) > (nD : Int))))) (fun V hV => ex_bin (u := (.int .i64 cm)) (v := (.int .i64 nD)) (S.get 29 _ rfl) (S.get 34 _ rfl) V (run_gtr V)) hS ?_
    replace S := S.put (by decide : 35 < 38) (.bool (decide ((cm : Int) > (nD : Int))))
    refine dr_val 11 36 rfl (by kernel_rfl) (fun c a d v w hq => hpan c a d v w hq) (v := (.bool (decide ((cm : Int) > (nD : Int))))) (fun V hV => ex_pickF (v := (.bool (decide ((cm : Int) > (nD : Int))))) (S.get 26 _ rfl) (S.get 35 _ rfl) V) hS ?_
    replace S := S.put (by decide : 36 < 38) (.bool (decide ((cm : Int) > (nD : Int))))
    refine ⟨by kernel_rfl, ?_⟩
    by_cases hc : ((cm : Int) > (nD : Int))
    case pos =>
      rw [decide_eq_true hc] at S ⊢
      refine wp_cond_true (S.get 36 _ rfl) ?_
      refine wp_seq (wp_region_list ?_)
      refine wpl_val (v := (.bool false)) (ex_assign (v := (.bool false)) rfl _) ?_
      replace S := S.put (by decide : 2 < 38) (.bool false)
      refine wpl_nil ?_
      refine wp_ret ?_
      have hgF : ahF R nD i = false := by rw [hg]; simp [*]
      exact ret_at (P := Try.prog) (fn := Try.f31) (R := fun e w' => e = .returned (.bool (allN (ahF R nD) R.length)) ∧ Below w.heap.size w w') S rfl rfl ⟨by rw [allN_bad hgF hlt], M⟩
    case neg =>
      rw [decide_eq_false hc] at S ⊢
      refine wp_cond_false (S.get 36 _ rfl) (wp_skip ?_)
      replace S := ((((S.nil).add (S.get 0 _ rfl)).add (S.get 9 _ rfl)).add (S.get 10 _ rfl)).add (S.get 11 _ rfl)
      refine env_gen (C := fun a => Code.wp Try.prog _ _ a _) S ?_
      clear S; intro a S
      refine wp_region_list ?_
      refine wpl_val (v := (.int .i64 (i + 1))) (ex_bin (u := (.int .i64 i)) (v := (.int .i64 1)) (S.get 11 _ rfl) rfl _ (run_inc _ (by omega) (by omega))) ?_
      replace S := S.put (by decide : 37 < 38) (.int .i64 (i + 1))
      refine wpl_val (v := (.int .i64 (i + 1))) (ex_move (S.get 37 _ rfl) _) ?_
      replace S := S.put (by decide : 11 < 38) (.int .i64 (i + 1))
      refine wpl_nil ?_
      have hgT : ahF R nD i = true := by rw [hg]; simp [*]
      exact ⟨⟨((((S.nil).add (S.get 0 _ rfl)).add (S.get 9 _ rfl)).add (S.get 10 _ rfl)).add (S.get 11 _ rfl), allN_step hall hgT, M, B0⟩, hlt⟩
  case neg =>
    have hne : (ap != cm) = true := by simp [hac]
    refine wp_seq (wp_region_list ?_)
    refine wpl_val (v := (.pointer (some ⟨p2, 0 + 42, none⟩))) (ex_field (S.get 4 _ rfl) (by kernel_rfl) _) ?_
    replace S := S.put (by decide : 15 < 38) (.pointer (some ⟨p2, 0 + 42, none⟩))
    refine wpl_val (v := (.bool true)) (ex_load (S.get 15 _ rfl) ⟨by kernel_rfl, by kernel_rfl⟩ _ (box_at B1 hup)) ?_
    replace S := S.put (by decide : 16 < 38) (.bool true)
    refine wpl_val (v := (.bool true)) (ex_move (S.get 16 _ rfl) _) ?_
    replace S := S.put (by decide : 17 < 38) (.bool true)
    refine env_gen (C := fun a => wpList Try.prog _ _ _ a _) S ?_
    clear S; intro a S
    refine wg_val (v := (.pointer (some ⟨p2, 0 + 39, none⟩))) (wan_yes (j := 2) (t := 17) (b := true) rfl (S.get 17 _ rfl) (by rw [S.sz]; decide)) (ex_field (S.get 4 _ rfl) (by kernel_rfl) _) ?_
    replace S := S.put (by decide : 18 < 38) (.pointer (some ⟨p2, 0 + 39, none⟩))
    refine env_gen (C := fun a => wpList Try.prog _ _ _ a _) S ?_
    clear S; intro a S
    refine wg_val (v := (.int .i64 ap)) (wan_yes (j := 2) (t := 17) (b := true) rfl (S.get 17 _ rfl) (by rw [S.sz]; decide)) (ex_load (S.get 18 _ rfl) ⟨by kernel_rfl, by kernel_rfl⟩ _ (box_at B1 hap)) ?_
    replace S := S.put (by decide : 19 < 38) (.int .i64 ap)
    refine env_gen (C := fun a => wpList Try.prog _ _ _ a _) S ?_
    clear S; intro a S
    refine wg_val (v := (.pointer (some ⟨p2, 0 + 0, none⟩))) (wan_yes (j := 2) (t := 17) (b := true) rfl (S.get 17 _ rfl) (by rw [S.sz]; decide)) (ex_field (S.get 4 _ rfl) (by kernel_rfl) _) ?_
    replace S := S.put (by decide : 20 < 38) (.pointer (some ⟨p2, 0 + 0, none⟩))
    refine env_gen (C := fun a => wpList Try.prog _ _ _ a _) S ?_
    clear S; intro a S
    refine wg_val (v := (.pointer (some ⟨p2, 0 + 0 + 11, none⟩))) (wan_yes (j := 2) (t := 17) (b := true) rfl (S.get 17 _ rfl) (by rw [S.sz]; decide)) (ex_field (S.get 20 _ rfl) (by kernel_rfl) _) ?_
    replace S := S.put (by decide : 21 < 38) (.pointer (some ⟨p2, 0 + 0 + 11, none⟩))
    refine env_gen (C := fun a => wpList Try.prog _ _ _ a _) S ?_
    clear S; intro a S
    refine wg_val (v := (.int .i64 cm)) (wan_yes (j := 2) (t := 17) (b := true) rfl (S.get 17 _ rfl) (by rw [S.sz]; decide)) (ex_load (S.get 21 _ rfl) ⟨by kernel_rfl, by kernel_rfl⟩ _ (box_at B1 hcm)) ?_
    replace S := S.put (by decide : 22 < 38) (.int .i64 cm)
    refine env_gen (C := fun a => wpList Try.prog _ _ _ a _) S ?_
    clear S; intro a S
    refine wg_val (v := (.bool true)) (wan_yes (j := 2) (t := 17) (b := true) rfl (S.get 17 _ rfl) (by rw [S.sz]; decide)) (ex_bin (u := (.int .i64 ap)) (v := (.int .i64 cm)) (S.get 19 _ rfl) (S.get 22 _ rfl) _ ((run_eqb _).trans (by rw [hne]))) ?_
    replace S := S.put (by decide : 23 < 38) (.bool true)
    refine wpl_val (v := (.bool true)) (ex_pickT (v := (.bool true)) (S.get 17 _ rfl) (S.get 23 _ rfl) _) ?_
    replace S := S.put (by decide : 24 < 38) (.bool true)
    refine wpl_val (v := (.bool true)) (ex_assign (S.get 24 _ rfl) _) ?_
    replace S := S.put (by decide : 5 < 38) (.bool true)
    refine wpl_nil ?_
    replace S := ((((((S.nil).add (S.get 0 _ rfl)).add (S.get 5 _ rfl)).add (S.get 4 _ rfl)).add (S.get 9 _ rfl)).add (S.get 10 _ rfl)).add (S.get 11 _ rfl)
    refine env_gen (C := fun a => Code.wp Try.prog _ _ a _) S ?_
    clear S; intro a S
    refine wp_seq ?_
    have hdr : Below U6.heap.size U6 U6.drew := (Below.refl _ U6).drew
    have B0 := B0.later hdr
    have B1 := B1.later hdr
    have M := M.trans (hdr.mono M.size)
    have z12 := hdr.size
    clear hdr
    refine wp_region_held_drew (S := fun V => Box V (p0) us ∧ Box V p2 vs) (by kernel_rfl) ⟨B0, B1⟩ (fun hS => ?_)
    refine dr_val 0 25 rfl (by kernel_rfl) (fun c a d v w hq => hpan c a d v w hq) (v := (.bool true)) (fun V hV => ex_move (S.get 5 _ rfl) V) hS ?_
    replace S := S.put (by decide : 25 < 38) (.bool true)
    refine dr_val 1 26 rfl (by kernel_rfl) (fun c a d v w hq => hpan c a d v w hq) (v := (.bool true)) (fun V hV => ex_move (S.get 25 _ rfl) V) hS ?_
    replace S := S.put (by decide : 26 < 38) (.bool true)
    refine env_gen (C := fun a => wpAnyH Try.prog _ _ _ _ _ _ a _) S ?_
    clear S; intro a S
    refine dg_skip 2 27 rfl (by kernel_rfl) (fun c a d v w hq => hpan c a d v w hq) (wan_no (j := 1) (t := 26) (b := false) (c := true) rfl (S.get 26 _ rfl) (by decide)) hS ?_
    replace S := S.put (by decide : 27 < 38) undef
    refine env_gen (C := fun a => wpAnyH Try.prog _ _ _ _ _ _ a _) S ?_
    clear S; intro a S
    refine dg_skip 3 28 rfl (by kernel_rfl) (fun c a d v w hq => hpan c a d v w hq) (wan_no (j := 1) (t := 26) (b := false) (c := true) rfl (S.get 26 _ rfl) (by decide)) hS ?_
    replace S := S.put (by decide : 28 < 38) undef
    refine env_gen (C := fun a => wpAnyH Try.prog _ _ _ _ _ _ a _) S ?_
    clear S; intro a S
    refine dg_skip 4 29 rfl (by kernel_rfl) (fun c a d v w hq => hpan c a d v w hq) (wan_no (j := 1) (t := 26) (b := false) (c := true) rfl (S.get 26 _ rfl) (by decide)) hS ?_
    replace S := S.put (by decide : 29 < 38) undef
    refine env_gen (C := fun a => wpAnyH Try.prog _ _ _ _ _ _ a _) S ?_
    clear S; intro a S
    refine dg_skip 5 30 rfl (by kernel_rfl) (fun c a d v w hq => hpan c a d v w hq) (wan_no (j := 1) (t := 26) (b := false) (c := true) rfl (S.get 26 _ rfl) (by decide)) hS ?_
    replace S := S.put (by decide : 30 < 38) undef
    refine env_gen (C := fun a => wpAnyH Try.prog _ _ _ _ _ _ a _) S ?_
    clear S; intro a S
    refine dg_skip 6 31 rfl (by kernel_rfl) (fun c a d v w hq => hpan c a d v w hq) (wan_no (j := 1) (t := 26) (b := false) (c := true) rfl (S.get 26 _ rfl) (by decide)) hS ?_
    replace S := S.put (by decide : 31 < 38) undef
    refine env_gen (C := fun a => wpAnyH Try.prog _ _ _ _ _ _ a _) S ?_
    clear S; intro a S
    refine dg_skip 7 32 rfl (by kernel_rfl) (fun c a d v w hq => hpan c a d v w hq) (wan_no (j := 1) (t := 26) (b := false) (c := true) rfl (S.get 26 _ rfl) (by decide)) hS ?_
    replace S := S.put (by decide : 32 < 38) undef
    refine env_gen (C := fun a => wpAnyH Try.prog _ _ _ _ _ _ a _) S ?_
    clear S; intro a S
    refine dg_skip 8 33 rfl (by kernel_rfl) (fun c a d v w hq => hpan c a d v w hq) (wan_no (j := 1) (t := 26) (b := false) (c := true) rfl (S.get 26 _ rfl) (by decide)) hS ?_
    replace S := S.put (by decide : 33 < 38) undef
    refine env_gen (C := fun a => wpAnyH Try.prog _ _ _ _ _ _ a _) S ?_
    clear S; intro a S
    refine dg_skip 9 34 rfl (by kernel_rfl) (fun c a d v w hq => hpan c a d v w hq) (wan_no (j := 1) (t := 26) (b := false) (c := true) rfl (S.get 26 _ rfl) (by decide)) hS ?_
    replace S := S.put (by decide : 34 < 38) undef
    refine env_gen (C := fun a => wpAnyH Try.prog _ _ _ _ _ _ a _) S ?_
    clear S; intro a S
    refine dg_skip 10 35 rfl (by kernel_rfl) (fun c a d v w hq => hpan c a d v w hq) (wan_no (j := 1) (t := 26) (b := false) (c := true) rfl (S.get 26 _ rfl) (by decide)) hS ?_
    replace S := S.put (by decide : 35 < 38) undef
    refine dr_val 11 36 rfl (by kernel_rfl) (fun c a d v w hq => hpan c a d v w hq) (v := (.bool true)) (fun V hV => ex_pickT (v := (.bool true)) (S.get 26 _ rfl) rfl V) hS ?_
    replace S := S.put (by decide : 36 < 38) (.bool true)
    refine ⟨by kernel_rfl, ?_⟩
    refine wp_cond_true (S.get 36 _ rfl) ?_
    refine wp_seq (wp_region_list ?_)
    refine wpl_val (v := (.bool false)) (ex_assign (v := (.bool false)) rfl _) ?_
    replace S := S.put (by decide : 2 < 38) (.bool false)
    refine wpl_nil ?_
    refine wp_ret ?_
    have hgF : ahF R nD i = false := by rw [hg]; simp [*]
    exact ret_at (P := Try.prog) (fn := Try.f31) (R := fun e w' => e = .returned (.bool (allN (ahF R nD) R.length)) ∧ Below w.heap.size w w') S rfl rfl ⟨by rw [allN_bad hgF hlt], M⟩

end Go.Proofs.Ytjiplphfpkhmpaa
