/-
  slices.Equal of four kinds.
-/
import Derived.Test.YtjiplphfpkhmpaaGreatJS
namespace Go.Proofs.YtjiplphfpkhmpaaGreat
open Go.RowKit

set_option maxRecDepth 20000 in
set_option maxHeartbeats 8000000 in
theorem slEqPool (o o' : Option Addr) (c c' : Nat) (xs ys : List PoolA) (w : World) (hn : xs.length ≤ 1048576) (hx : ∀ j z, xs[j]? = some z → At cPool w 0 o j z) (hy : ∀ j z, ys[j]? = some z → At cPool w 0 o' j z) :
    Calls Tryz.prog 83 #[.slice o xs.length c, .slice o' ys.length c'] w fun e w' => e = .returned (.bool (eqR eqPool_B xs ys)) ∧ Below w.heap.size w w' := by
  refine calls_of_wp Tryz.func83 rfl ?_
  have hpan := pan_body (P := Tryz.prog) (fn := Tryz.f83) (R := fun e w' => e = .returned (.bool (eqR eqPool_B xs ys)) ∧ Below w.heap.size w w')
  refine env2 (N := 26) rfl (by decide) ?_
  intro a S
  have M : Below w.heap.size w w := Below.refl _ _
  refine wp_seq (wp_region_list ?_)
  refine wpl_val (v := (.bool false)) (ex_assign (v := (.bool false)) rfl _) ?_
  replace S := S.put (by decide : 4 < 26) (.bool false)
  refine wpl_nil ?_
  replace S := ((S.nil).add (S.get 0 _ rfl)).add (S.get 1 _ rfl)
  refine env_gen (C := fun a => Code.wp Tryz.prog _ _ a _) S ?_
  clear S; intro a S
  by_cases hL : xs.length = ys.length
  case neg =>
    have e0 : ((xs.length : Int) != (ys.length : Int)) = true := bne_iff_ne.2 (by omega)
    refine wp_seq (wp_seq (wp_region_list ?_))
    refine wpl_val (v := (.slice o xs.length c)) (ex_move (S.get 0 _ rfl) _) ?_
    replace S := S.put (by decide : 6 < 26) (.slice o xs.length c)
    refine wpl_val (v := (.int .i64 xs.length)) (ex_len (by kernel_rfl) (S.get 6 _ rfl) _) ?_
    replace S := S.put (by decide : 7 < 26) (.int .i64 xs.length)
    refine wpl_val (v := (.slice o' ys.length c')) (ex_move (S.get 1 _ rfl) _) ?_
    replace S := S.put (by decide : 8 < 26) (.slice o' ys.length c')
    refine wpl_val (v := (.int .i64 ys.length)) (ex_len (by kernel_rfl) (S.get 8 _ rfl) _) ?_
    replace S := S.put (by decide : 9 < 26) (.int .i64 ys.length)
    refine wpl_val (v := (.bool true)) (ex_bin (u := (.int .i64 xs.length)) (v := (.int .i64 ys.length)) (S.get 7 _ rfl) (S.get 9 _ rfl) _ ((run_eqb _).trans (by rw [e0]))) ?_
    replace S := S.put (by decide : 10 < 26) (.bool true)
    refine wpl_nil ?_
    refine wp_cond_true (S.get 10 _ rfl) ?_
    refine wp_seq (wp_region_list ?_)
    refine wpl_val (v := (.bool false)) (ex_assign (v := (.bool false)) rfl _) ?_
    replace S := S.put (by decide : 4 < 26) (.bool false)
    refine wpl_nil ?_
    refine wp_ret ?_
    exact ret_at (P := Tryz.prog) (fn := Tryz.f83) (R := fun e w' => e = .returned (.bool (eqR eqPool_B xs ys)) ∧ Below w.heap.size w w') S rfl rfl ⟨by rw [eqR_len hL], M⟩
  have e0 : ((xs.length : Int) != (ys.length : Int)) = false := by simp [hL]
  refine wp_seq (wp_seq (wp_region_list ?_))
  refine wpl_val (v := (.slice o xs.length c)) (ex_move (S.get 0 _ rfl) _) ?_
  replace S := S.put (by decide : 6 < 26) (.slice o xs.length c)
  refine wpl_val (v := (.int .i64 xs.length)) (ex_len (by kernel_rfl) (S.get 6 _ rfl) _) ?_
  replace S := S.put (by decide : 7 < 26) (.int .i64 xs.length)
  refine wpl_val (v := (.slice o' ys.length c')) (ex_move (S.get 1 _ rfl) _) ?_
  replace S := S.put (by decide : 8 < 26) (.slice o' ys.length c')
  refine wpl_val (v := (.int .i64 ys.length)) (ex_len (by kernel_rfl) (S.get 8 _ rfl) _) ?_
  replace S := S.put (by decide : 9 < 26) (.int .i64 ys.length)
  refine wpl_val (v := (.bool false)) (ex_bin (u := (.int .i64 xs.length)) (v := (.int .i64 ys.length)) (S.get 7 _ rfl) (S.get 9 _ rfl) _ ((run_eqb _).trans (by rw [e0]))) ?_
  replace S := S.put (by decide : 10 < 26) (.bool false)
  refine wpl_nil ?_
  refine wp_cond_false (S.get 10 _ rfl) (wp_skip ?_)
  replace S := ((S.nil).add (S.get 0 _ rfl)).add (S.get 1 _ rfl)
  refine env_gen (C := fun a => Code.wp Tryz.prog _ _ a _) S ?_
  clear S; intro a S
  refine wp_seq (wp_seq (wp_region_list ?_))
  refine wpl_val (v := (.slice o xs.length c)) (ex_move (S.get 0 _ rfl) _) ?_
  replace S := S.put (by decide : 11 < 26) (.slice o xs.length c)
  refine wpl_val (v := (.int .i64 xs.length)) (ex_len (by kernel_rfl) (S.get 11 _ rfl) _) ?_
  replace S := S.put (by decide : 12 < 26) (.int .i64 xs.length)
  refine wpl_val (v := (.int .i64 0)) (ex_move (v := (.int .i64 0)) rfl _) ?_
  replace S := S.put (by decide : 13 < 26) (.int .i64 0)
  refine wpl_nil ?_
  replace S := ((((S.nil).add (S.get 0 _ rfl)).add (S.get 1 _ rfl)).add (S.get 12 _ rfl)).add (S.get 13 _ rfl)
  refine env_gen (C := fun a => Code.wp Tryz.prog _ _ a _) S ?_
  clear S; intro a S
  refine wp_block (wp_count xs.length (fun i a W => Env 26 (upd (upd (upd (upd ((fun _ => none)) 0 (.slice o xs.length c)) 1 (.slice o' ys.length c')) 12 (.int .i64 xs.length)) 13 (.int .i64 i)) a ∧ allN (eqK eqPool_B xs ys) i = true ∧ Below w.heap.size w W) ⟨S, rfl, M⟩ ?_)
  clear S M
  rintro i a W hin ⟨S, hall, M⟩
  refine wp_seq (wp_region_list ?_)
  refine wpl_val (v := (.bool (decide ((i : Int) < (xs.length : Int))))) (ex_bin (u := (.int .i64 i)) (v := (.int .i64 xs.length)) (S.get 13 _ rfl) (S.get 12 _ rfl) _ (run_lss _)) ?_
  replace S := S.put (by decide : 14 < 26) (.bool (decide ((i : Int) < (xs.length : Int))))
  refine wpl_nil ?_
  by_cases hlt : i < xs.length
  case neg =>
    rw [decide_eq_false (by omega : ¬ (i : Int) < (xs.length : Int))] at S ⊢
    have hiR : i = xs.length := by omega
    refine wp_seq (wp_cond_false (S.get 14 _ rfl) (wp_exit ?_))
    simp only [Exit.then, Exit.inBlock, if_true]
    refine wp_seq (wp_region_list ?_)
    refine wpl_val (v := (.bool true)) (ex_assign (v := (.bool true)) rfl _) ?_
    replace S := S.put (by decide : 4 < 26) (.bool true)
    refine wpl_nil ?_
    refine wp_ret ?_
    rw [hiR] at hall
    exact ret_at (P := Tryz.prog) (fn := Tryz.f83) (R := fun e w' => e = .returned (.bool (eqR eqPool_B xs ys)) ∧ Below w.heap.size w w') S rfl rfl ⟨by rw [eqR_good hL hall], M⟩
  rw [decide_eq_true (by omega : (i : Int) < (xs.length : Int))] at S ⊢
  refine wp_seq (wp_cond_true (S.get 14 _ rfl) (wp_skip ?_))
  replace S := ((((S.nil).add (S.get 0 _ rfl)).add (S.get 1 _ rfl)).add (S.get 12 _ rfl)).add (S.get 13 _ rfl)
  refine env_gen (C := fun a => Code.wp Tryz.prog _ _ a _) S ?_
  clear S; intro a S
  obtain ⟨x, hxi⟩ : ∃ z, xs[i]? = some z := ⟨_, List.getElem?_eq_getElem (by omega)⟩
  obtain ⟨p, q, rfl⟩ : ∃ p q, o = some ⟨p, q, none⟩ := by obtain ⟨p, q, _, e, _⟩ := hx i x hxi; exact ⟨p, q, e⟩
  obtain ⟨ux, hpx, hsx, hrx⟩ := (hx i x hxi).out2
  have hlx : ux.length = 5 := (cPool.len hrx).trans (by kernel_rfl)
  rw [show cPool.k = 5 by kernel_rfl] at hsx
  obtain ⟨y, hyi⟩ : ∃ z, ys[i]? = some z := ⟨_, List.getElem?_eq_getElem (by omega)⟩
  obtain ⟨p', q', rfl⟩ : ∃ p q, o' = some ⟨p, q, none⟩ := by obtain ⟨p, q, _, e, _⟩ := hy i y hyi; exact ⟨p, q, e⟩
  obtain ⟨uy, hpy, hsy, hry⟩ := (hy i y hyi).out2
  have hly : uy.length = 5 := (cPool.len hry).trans (by kernel_rfl)
  rw [show cPool.k = 5 by kernel_rfl] at hsy
  have hg := eqK_at (f := eqPool_B) hxi hyi
  refine wp_seq (wp_block ?_)
  refine wp_seq (wp_region_list ?_)
  refine wpl_val (v := (.int .i64 i)) (ex_move (S.get 13 _ rfl) _) ?_
  replace S := S.put (by decide : 15 < 26) (.int .i64 i)
  refine wpl_val (v := (.int .i64 i)) (ex_assign (S.get 15 _ rfl) _) ?_
  replace S := S.put (by decide : 5 < 26) (.int .i64 i)
  refine wpl_nil ?_
  replace S := (((((S.nil).add (S.get 0 _ rfl)).add (S.get 1 _ rfl)).add (S.get 5 _ rfl)).add (S.get 12 _ rfl)).add (S.get 13 _ rfl)
  refine env_gen (C := fun a => Code.wp Tryz.prog _ _ a _) S ?_
  clear S; intro a S
  cases hE : eqPool_B x y
  case false =>
    refine wp_seq ?_
    have hdr : Below W.heap.size W W.drew := (Below.refl _ W).drew
    have M := M.trans (hdr.mono M.size)
    have z1 := hdr.size
    clear hdr
    refine wp_region_held_drew (S := fun V => Below w.heap.size w V) (by kernel_rfl) M (fun hS => ?_)
    refine dr_val 0 16 rfl (by kernel_rfl) (fun c a d v w hq => hpan c a d v w hq) (v := (.slice (some ⟨p, q, none⟩) xs.length c)) (fun V hV => ex_move (S.get 0 _ rfl) V) hS ?_
    replace S := S.put (by decide : 16 < 26) (.slice (some ⟨p, q, none⟩) xs.length c)
    refine dr_val 1 17 rfl (by kernel_rfl) (fun c a d v w hq => hpan c a d v w hq) (v := (.int .i64 i)) (fun V hV => ex_move (S.get 5 _ rfl) V) hS ?_
    replace S := S.put (by decide : 17 < 26) (.int .i64 i)
    refine dr_val 2 18 rfl (by kernel_rfl) (fun c a d v w hq => hpan c a d v w hq) (v := (.pointer (some ⟨p, q + i * 5, none⟩))) (fun V hV => ex_index (e := 117) (i := i) (k := 5) (by kernel_rfl) (by kernel_rfl) (S.get 16 _ rfl) (S.get 17 _ rfl) (by omega) V) hS ?_
    replace S := S.put (by decide : 18 < 26) (.pointer (some ⟨p, q + i * 5, none⟩))
    refine dr_val 3 19 rfl (by kernel_rfl) (fun c a d v w hq => hpan c a d v w hq) (v := (.agg (List.toArray ux))) (fun V hV => ex_agg (us := ux) (S.get 18 _ rfl) ⟨by kernel_rfl, by kernel_rfl⟩ hlx V (hsx.frm (Fr.of hV) (Nat.zero_le _) hpx)) hS ?_
    replace S := S.put (by decide : 19 < 26) (.agg (List.toArray ux))
    refine dr_val 4 20 rfl (by kernel_rfl) (fun c a d v w hq => hpan c a d v w hq) (v := (.slice (some ⟨p', q', none⟩) ys.length c')) (fun V hV => ex_move (S.get 1 _ rfl) V) hS ?_
    replace S := S.put (by decide : 20 < 26) (.slice (some ⟨p', q', none⟩) ys.length c')
    refine dr_val 5 21 rfl (by kernel_rfl) (fun c a d v w hq => hpan c a d v w hq) (v := (.int .i64 i)) (fun V hV => ex_move (S.get 5 _ rfl) V) hS ?_
    replace S := S.put (by decide : 21 < 26) (.int .i64 i)
    refine dr_val 6 22 rfl (by kernel_rfl) (fun c a d v w hq => hpan c a d v w hq) (v := (.pointer (some ⟨p', q' + i * 5, none⟩))) (fun V hV => ex_index (e := 117) (i := i) (k := 5) (by kernel_rfl) (by kernel_rfl) (S.get 20 _ rfl) (S.get 21 _ rfl) (by omega) V) hS ?_
    replace S := S.put (by decide : 22 < 26) (.pointer (some ⟨p', q' + i * 5, none⟩))
    refine dr_val 7 23 rfl (by kernel_rfl) (fun c a d v w hq => hpan c a d v w hq) (v := (.agg (List.toArray uy))) (fun V hV => ex_agg (us := uy) (S.get 22 _ rfl) ⟨by kernel_rfl, by kernel_rfl⟩ hly V (hsy.frm (Fr.of hV) (Nat.zero_le _) hpy)) hS ?_
    replace S := S.put (by decide : 23 < 26) (.agg (List.toArray uy))
    refine dr_val 8 24 rfl (by kernel_rfl) (fun c a d v w hq => hpan c a d v w hq) (v := (.bool true)) (fun V hV => ex_bin (u := (.agg (List.toArray ux))) (v := (.agg (List.toArray uy))) (S.get 19 _ rfl) (S.get 23 _ rfl) V ((nqPool ux uy x y w w 0 0 hrx hry _ _ V).trans (by rw [hE]; rfl))) hS ?_
    replace S := S.put (by decide : 24 < 26) (.bool true)
    refine ⟨by kernel_rfl, ?_⟩
    refine wp_cond_true (S.get 24 _ rfl) ?_
    refine wp_seq (wp_region_list ?_)
    refine wpl_val (v := (.bool false)) (ex_assign (v := (.bool false)) rfl _) ?_
    replace S := S.put (by decide : 4 < 26) (.bool false)
    refine wpl_nil ?_
    refine wp_ret ?_
    exact ret_at (P := Tryz.prog) (fn := Tryz.f83) (R := fun e w' => e = .returned (.bool (eqR eqPool_B xs ys)) ∧ Below w.heap.size w w') S rfl rfl ⟨by rw [eqR_bad (hg.trans hE) hlt], M⟩
  case true =>
    refine wp_seq ?_
    have hdr : Below W.heap.size W W.drew := (Below.refl _ W).drew
    have M := M.trans (hdr.mono M.size)
    have z2 := hdr.size
    clear hdr
    refine wp_region_held_drew (S := fun V => Below w.heap.size w V) (by kernel_rfl) M (fun hS => ?_)
    refine dr_val 0 16 rfl (by kernel_rfl) (fun c a d v w hq => hpan c a d v w hq) (v := (.slice (some ⟨p, q, none⟩) xs.length c)) (fun V hV => ex_move (S.get 0 _ rfl) V) hS ?_
    replace S := S.put (by decide : 16 < 26) (.slice (some ⟨p, q, none⟩) xs.length c)
    refine dr_val 1 17 rfl (by kernel_rfl) (fun c a d v w hq => hpan c a d v w hq) (v := (.int .i64 i)) (fun V hV => ex_move (S.get 5 _ rfl) V) hS ?_
    replace S := S.put (by decide : 17 < 26) (.int .i64 i)
    refine dr_val 2 18 rfl (by kernel_rfl) (fun c a d v w hq => hpan c a d v w hq) (v := (.pointer (some ⟨p, q + i * 5, none⟩))) (fun V hV => ex_index (e := 117) (i := i) (k := 5) (by kernel_rfl) (by kernel_rfl) (S.get 16 _ rfl) (S.get 17 _ rfl) (by omega) V) hS ?_
    replace S := S.put (by decide : 18 < 26) (.pointer (some ⟨p, q + i * 5, none⟩))
    refine dr_val 3 19 rfl (by kernel_rfl) (fun c a d v w hq => hpan c a d v w hq) (v := (.agg (List.toArray ux))) (fun V hV => ex_agg (us := ux) (S.get 18 _ rfl) ⟨by kernel_rfl, by kernel_rfl⟩ hlx V (hsx.frm (Fr.of hV) (Nat.zero_le _) hpx)) hS ?_
    replace S := S.put (by decide : 19 < 26) (.agg (List.toArray ux))
    refine dr_val 4 20 rfl (by kernel_rfl) (fun c a d v w hq => hpan c a d v w hq) (v := (.slice (some ⟨p', q', none⟩) ys.length c')) (fun V hV => ex_move (S.get 1 _ rfl) V) hS ?_
    replace S := S.put (by decide : 20 < 26) (.slice (some ⟨p', q', none⟩) ys.length c')
    refine dr_val 5 21 rfl (by kernel_rfl) (fun c a d v w hq => hpan c a d v w hq) (v := (.int .i64 i)) (fun V hV => ex_move (S.get 5 _ rfl) V) hS ?_
    replace S := S.put (by decide : 21 < 26) (.int .i64 i)
    refine dr_val 6 22 rfl (by kernel_rfl) (fun c a d v w hq => hpan c a d v w hq) (v := (.pointer (some ⟨p', q' + i * 5, none⟩))) (fun V hV => ex_index (e := 117) (i := i) (k := 5) (by kernel_rfl) (by kernel_rfl) (S.get 20 _ rfl) (S.get 21 _ rfl) (by omega) V) hS ?_
    replace S := S.put (by decide : 22 < 26) (.pointer (some ⟨p', q' + i * 5, none⟩))
    refine dr_val 7 23 rfl (by kernel_rfl) (fun c a d v w hq => hpan c a d v w hq) (v := (.agg (List.toArray uy))) (fun V hV => ex_agg (us := uy) (S.get 22 _ rfl) ⟨by kernel_rfl, by kernel_rfl⟩ hly V (hsy.frm (Fr.of hV) (Nat.zero_le _) hpy)) hS ?_
    replace S := S.put (by decide : 23 < 26) (.agg (List.toArray uy))
    refine dr_val 8 24 rfl (by kernel_rfl) (fun c a d v w hq => hpan c a d v w hq) (v := (.bool false)) (fun V hV => ex_bin (u := (.agg (List.toArray ux))) (v := (.agg (List.toArray uy))) (S.get 19 _ rfl) (S.get 23 _ rfl) V ((nqPool ux uy x y w w 0 0 hrx hry _ _ V).trans (by rw [hE]; rfl))) hS ?_
    replace S := S.put (by decide : 24 < 26) (.bool false)
    refine ⟨by kernel_rfl, ?_⟩
    refine wp_cond_false (S.get 24 _ rfl) (wp_skip ?_)
    replace S := ((((S.nil).add (S.get 0 _ rfl)).add (S.get 1 _ rfl)).add (S.get 12 _ rfl)).add (S.get 13 _ rfl)
    refine env_gen (C := fun a => Code.wp Tryz.prog _ _ a _) S ?_
    clear S; intro a S
    refine wp_region_list ?_
    refine wpl_val (v := (.int .i64 (i + 1))) (ex_bin (u := (.int .i64 i)) (v := (.int .i64 1)) (S.get 13 _ rfl) rfl _ (run_inc _ (by omega) (by omega))) ?_
    replace S := S.put (by decide : 25 < 26) (.int .i64 (i + 1))
    refine wpl_val (v := (.int .i64 (i + 1))) (ex_move (S.get 25 _ rfl) _) ?_
    replace S := S.put (by decide : 13 < 26) (.int .i64 (i + 1))
    refine wpl_nil ?_
    exact ⟨⟨((((S.nil).add (S.get 0 _ rfl)).add (S.get 1 _ rfl)).add (S.get 12 _ rfl)).add (S.get 13 _ rfl), allN_step hall (hg.trans hE), M⟩, hlt⟩

set_option maxRecDepth 20000 in
set_option maxHeartbeats 8000000 in
theorem slEqBlock (o o' : Option Addr) (c c' : Nat) (xs ys : List BlockA) (w : World) (hn : xs.length ≤ 1048576) (hx : ∀ j z, xs[j]? = some z → At cBlock w 0 o j z) (hy : ∀ j z, ys[j]? = some z → At cBlock w 0 o' j z) :
    Calls Tryz.prog 84 #[.slice o xs.length c, .slice o' ys.length c'] w fun e w' => e = .returned (.bool (eqR eqBlock_B xs ys)) ∧ Below w.heap.size w w' := by
  refine calls_of_wp Tryz.func84 rfl ?_
  have hpan := pan_body (P := Tryz.prog) (fn := Tryz.f84) (R := fun e w' => e = .returned (.bool (eqR eqBlock_B xs ys)) ∧ Below w.heap.size w w')
  refine env2 (N := 26) rfl (by decide) ?_
  intro a S
  have M : Below w.heap.size w w := Below.refl _ _
  refine wp_seq (wp_region_list ?_)
  refine wpl_val (v := (.bool false)) (ex_assign (v := (.bool false)) rfl _) ?_
  replace S := S.put (by decide : 4 < 26) (.bool false)
  refine wpl_nil ?_
  replace S := ((S.nil).add (S.get 0 _ rfl)).add (S.get 1 _ rfl)
  refine env_gen (C := fun a => Code.wp Tryz.prog _ _ a _) S ?_
  clear S; intro a S
  by_cases hL : xs.length = ys.length
  case neg =>
    have e0 : ((xs.length : Int) != (ys.length : Int)) = true := bne_iff_ne.2 (by omega)
    refine wp_seq (wp_seq (wp_region_list ?_))
    refine wpl_val (v := (.slice o xs.length c)) (ex_move (S.get 0 _ rfl) _) ?_
    replace S := S.put (by decide : 6 < 26) (.slice o xs.length c)
    refine wpl_val (v := (.int .i64 xs.length)) (ex_len (by kernel_rfl) (S.get 6 _ rfl) _) ?_
    replace S := S.put (by decide : 7 < 26) (.int .i64 xs.length)
    refine wpl_val (v := (.slice o' ys.length c')) (ex_move (S.get 1 _ rfl) _) ?_
    replace S := S.put (by decide : 8 < 26) (.slice o' ys.length c')
    refine wpl_val (v := (.int .i64 ys.length)) (ex_len (by kernel_rfl) (S.get 8 _ rfl) _) ?_
    replace S := S.put (by decide : 9 < 26) (.int .i64 ys.length)
    refine wpl_val (v := (.bool true)) (ex_bin (u := (.int .i64 xs.length)) (v := (.int .i64 ys.length)) (S.get 7 _ rfl) (S.get 9 _ rfl) _ ((run_eqb _).trans (by rw [e0]))) ?_
    replace S := S.put (by decide : 10 < 26) (.bool true)
    refine wpl_nil ?_
    refine wp_cond_true (S.get 10 _ rfl) ?_
    refine wp_seq (wp_region_list ?_)
    refine wpl_val (v := (.bool false)) (ex_assign (v := (.bool false)) rfl _) ?_
    replace S := S.put (by decide : 4 < 26) (.bool false)
    refine wpl_nil ?_
    refine wp_ret ?_
    exact ret_at (P := Tryz.prog) (fn := Tryz.f84) (R := fun e w' => e = .returned (.bool (eqR eqBlock_B xs ys)) ∧ Below w.heap.size w w') S rfl rfl ⟨by rw [eqR_len hL], M⟩
  have e0 : ((xs.length : Int) != (ys.length : Int)) = false := by simp [hL]
  refine wp_seq (wp_seq (wp_region_list ?_))
  refine wpl_val (v := (.slice o xs.length c)) (ex_move (S.get 0 _ rfl) _) ?_
  replace S := S.put (by decide : 6 < 26) (.slice o xs.length c)
  refine wpl_val (v := (.int .i64 xs.length)) (ex_len (by kernel_rfl) (S.get 6 _ rfl) _) ?_
  replace S := S.put (by decide : 7 < 26) (.int .i64 xs.length)
  refine wpl_val (v := (.slice o' ys.length c')) (ex_move (S.get 1 _ rfl) _) ?_
  replace S := S.put (by decide : 8 < 26) (.slice o' ys.length c')
  refine wpl_val (v := (.int .i64 ys.length)) (ex_len (by kernel_rfl) (S.get 8 _ rfl) _) ?_
  replace S := S.put (by decide : 9 < 26) (.int .i64 ys.length)
  refine wpl_val (v := (.bool false)) (ex_bin (u := (.int .i64 xs.length)) (v := (.int .i64 ys.length)) (S.get 7 _ rfl) (S.get 9 _ rfl) _ ((run_eqb _).trans (by rw [e0]))) ?_
  replace S := S.put (by decide : 10 < 26) (.bool false)
  refine wpl_nil ?_
  refine wp_cond_false (S.get 10 _ rfl) (wp_skip ?_)
  replace S := ((S.nil).add (S.get 0 _ rfl)).add (S.get 1 _ rfl)
  refine env_gen (C := fun a => Code.wp Tryz.prog _ _ a _) S ?_
  clear S; intro a S
  refine wp_seq (wp_seq (wp_region_list ?_))
  refine wpl_val (v := (.slice o xs.length c)) (ex_move (S.get 0 _ rfl) _) ?_
  replace S := S.put (by decide : 11 < 26) (.slice o xs.length c)
  refine wpl_val (v := (.int .i64 xs.length)) (ex_len (by kernel_rfl) (S.get 11 _ rfl) _) ?_
  replace S := S.put (by decide : 12 < 26) (.int .i64 xs.length)
  refine wpl_val (v := (.int .i64 0)) (ex_move (v := (.int .i64 0)) rfl _) ?_
  replace S := S.put (by decide : 13 < 26) (.int .i64 0)
  refine wpl_nil ?_
  replace S := ((((S.nil).add (S.get 0 _ rfl)).add (S.get 1 _ rfl)).add (S.get 12 _ rfl)).add (S.get 13 _ rfl)
  refine env_gen (C := fun a => Code.wp Tryz.prog _ _ a _) S ?_
  clear S; intro a S
  refine wp_block (wp_count xs.length (fun i a W => Env 26 (upd (upd (upd (upd ((fun _ => none)) 0 (.slice o xs.length c)) 1 (.slice o' ys.length c')) 12 (.int .i64 xs.length)) 13 (.int .i64 i)) a ∧ allN (eqK eqBlock_B xs ys) i = true ∧ Below w.heap.size w W) ⟨S, rfl, M⟩ ?_)
  clear S M
  rintro i a W hin ⟨S, hall, M⟩
  refine wp_seq (wp_region_list ?_)
  refine wpl_val (v := (.bool (decide ((i : Int) < (xs.length : Int))))) (ex_bin (u := (.int .i64 i)) (v := (.int .i64 xs.length)) (S.get 13 _ rfl) (S.get 12 _ rfl) _ (run_lss _)) ?_
  replace S := S.put (by decide : 14 < 26) (.bool (decide ((i : Int) < (xs.length : Int))))
  refine wpl_nil ?_
  by_cases hlt : i < xs.length
  case neg =>
    rw [decide_eq_false (by omega : ¬ (i : Int) < (xs.length : Int))] at S ⊢
    have hiR : i = xs.length := by omega
    refine wp_seq (wp_cond_false (S.get 14 _ rfl) (wp_exit ?_))
    simp only [Exit.then, Exit.inBlock, if_true]
    refine wp_seq (wp_region_list ?_)
    refine wpl_val (v := (.bool true)) (ex_assign (v := (.bool true)) rfl _) ?_
    replace S := S.put (by decide : 4 < 26) (.bool true)
    refine wpl_nil ?_
    refine wp_ret ?_
    rw [hiR] at hall
    exact ret_at (P := Tryz.prog) (fn := Tryz.f84) (R := fun e w' => e = .returned (.bool (eqR eqBlock_B xs ys)) ∧ Below w.heap.size w w') S rfl rfl ⟨by rw [eqR_good hL hall], M⟩
  rw [decide_eq_true (by omega : (i : Int) < (xs.length : Int))] at S ⊢
  refine wp_seq (wp_cond_true (S.get 14 _ rfl) (wp_skip ?_))
  replace S := ((((S.nil).add (S.get 0 _ rfl)).add (S.get 1 _ rfl)).add (S.get 12 _ rfl)).add (S.get 13 _ rfl)
  refine env_gen (C := fun a => Code.wp Tryz.prog _ _ a _) S ?_
  clear S; intro a S
  obtain ⟨x, hxi⟩ : ∃ z, xs[i]? = some z := ⟨_, List.getElem?_eq_getElem (by omega)⟩
  obtain ⟨p, q, rfl⟩ : ∃ p q, o = some ⟨p, q, none⟩ := by obtain ⟨p, q, _, e, _⟩ := hx i x hxi; exact ⟨p, q, e⟩
  obtain ⟨ux, hpx, hsx, hrx⟩ := (hx i x hxi).out2
  have hlx : ux.length = 5 := (cBlock.len hrx).trans (by kernel_rfl)
  rw [show cBlock.k = 5 by kernel_rfl] at hsx
  obtain ⟨y, hyi⟩ : ∃ z, ys[i]? = some z := ⟨_, List.getElem?_eq_getElem (by omega)⟩
  obtain ⟨p', q', rfl⟩ : ∃ p q, o' = some ⟨p, q, none⟩ := by obtain ⟨p, q, _, e, _⟩ := hy i y hyi; exact ⟨p, q, e⟩
  obtain ⟨uy, hpy, hsy, hry⟩ := (hy i y hyi).out2
  have hly : uy.length = 5 := (cBlock.len hry).trans (by kernel_rfl)
  rw [show cBlock.k = 5 by kernel_rfl] at hsy
  have hg := eqK_at (f := eqBlock_B) hxi hyi
  refine wp_seq (wp_block ?_)
  refine wp_seq (wp_region_list ?_)
  refine wpl_val (v := (.int .i64 i)) (ex_move (S.get 13 _ rfl) _) ?_
  replace S := S.put (by decide : 15 < 26) (.int .i64 i)
  refine wpl_val (v := (.int .i64 i)) (ex_assign (S.get 15 _ rfl) _) ?_
  replace S := S.put (by decide : 5 < 26) (.int .i64 i)
  refine wpl_nil ?_
  replace S := (((((S.nil).add (S.get 0 _ rfl)).add (S.get 1 _ rfl)).add (S.get 5 _ rfl)).add (S.get 12 _ rfl)).add (S.get 13 _ rfl)
  refine env_gen (C := fun a => Code.wp Tryz.prog _ _ a _) S ?_
  clear S; intro a S
  cases hE : eqBlock_B x y
  case false =>
    refine wp_seq ?_
    have hdr : Below W.heap.size W W.drew := (Below.refl _ W).drew
    have M := M.trans (hdr.mono M.size)
    have z1 := hdr.size
    clear hdr
    refine wp_region_held_drew (S := fun V => Below w.heap.size w V) (by kernel_rfl) M (fun hS => ?_)
    refine dr_val 0 16 rfl (by kernel_rfl) (fun c a d v w hq => hpan c a d v w hq) (v := (.slice (some ⟨p, q, none⟩) xs.length c)) (fun V hV => ex_move (S.get 0 _ rfl) V) hS ?_
    replace S := S.put (by decide : 16 < 26) (.slice (some ⟨p, q, none⟩) xs.length c)
    refine dr_val 1 17 rfl (by kernel_rfl) (fun c a d v w hq => hpan c a d v w hq) (v := (.int .i64 i)) (fun V hV => ex_move (S.get 5 _ rfl) V) hS ?_
    replace S := S.put (by decide : 17 < 26) (.int .i64 i)
    refine dr_val 2 18 rfl (by kernel_rfl) (fun c a d v w hq => hpan c a d v w hq) (v := (.pointer (some ⟨p, q + i * 5, none⟩))) (fun V hV => ex_index (e := 119) (i := i) (k := 5) (by kernel_rfl) (by kernel_rfl) (S.get 16 _ rfl) (S.get 17 _ rfl) (by omega) V) hS ?_
    replace S := S.put (by decide : 18 < 26) (.pointer (some ⟨p, q + i * 5, none⟩))
    refine dr_val 3 19 rfl (by kernel_rfl) (fun c a d v w hq => hpan c a d v w hq) (v := (.agg (List.toArray ux))) (fun V hV => ex_agg (us := ux) (S.get 18 _ rfl) ⟨by kernel_rfl, by kernel_rfl⟩ hlx V (hsx.frm (Fr.of hV) (Nat.zero_le _) hpx)) hS ?_
    replace S := S.put (by decide : 19 < 26) (.agg (List.toArray ux))
    refine dr_val 4 20 rfl (by kernel_rfl) (fun c a d v w hq => hpan c a d v w hq) (v := (.slice (some ⟨p', q', none⟩) ys.length c')) (fun V hV => ex_move (S.get 1 _ rfl) V) hS ?_
    replace S := S.put (by decide : 20 < 26) (.slice (some ⟨p', q', none⟩) ys.length c')
    refine dr_val 5 21 rfl (by kernel_rfl) (fun c a d v w hq => hpan c a d v w hq) (v := (.int .i64 i)) (fun V hV => ex_move (S.get 5 _ rfl) V) hS ?_
    replace S := S.put (by decide : 21 < 26) (.int .i64 i)
    refine dr_val 6 22 rfl (by kernel_rfl) (fun c a d v w hq => hpan c a d v w hq) (v := (.pointer (some ⟨p', q' + i * 5, none⟩))) (fun V hV => ex_index (e := 119) (i := i) (k := 5) (by kernel_rfl) (by kernel_rfl) (S.get 20 _ rfl) (S.get 21 _ rfl) (by omega) V) hS ?_
    replace S := S.put (by decide : 22 < 26) (.pointer (some ⟨p', q' + i * 5, none⟩))
    refine dr_val 7 23 rfl (by kernel_rfl) (fun c a d v w hq => hpan c a d v w hq) (v := (.agg (List.toArray uy))) (fun V hV => ex_agg (us := uy) (S.get 22 _ rfl) ⟨by kernel_rfl, by kernel_rfl⟩ hly V (hsy.frm (Fr.of hV) (Nat.zero_le _) hpy)) hS ?_
    replace S := S.put (by decide : 23 < 26) (.agg (List.toArray uy))
    refine dr_val 8 24 rfl (by kernel_rfl) (fun c a d v w hq => hpan c a d v w hq) (v := (.bool true)) (fun V hV => ex_bin (u := (.agg (List.toArray ux))) (v := (.agg (List.toArray uy))) (S.get 19 _ rfl) (S.get 23 _ rfl) V ((nqBlock ux uy x y w w 0 0 hrx hry _ _ V).trans (by rw [hE]; rfl))) hS ?_
    replace S := S.put (by decide : 24 < 26) (.bool true)
    refine ⟨by kernel_rfl, ?_⟩
    refine wp_cond_true (S.get 24 _ rfl) ?_
    refine wp_seq (wp_region_list ?_)
    refine wpl_val (v := (.bool false)) (ex_assign (v := (.bool false)) rfl _) ?_
    replace S := S.put (by decide : 4 < 26) (.bool false)
    refine wpl_nil ?_
    refine wp_ret ?_
    exact ret_at (P := Tryz.prog) (fn := Tryz.f84) (R := fun e w' => e = .returned (.bool (eqR eqBlock_B xs ys)) ∧ Below w.heap.size w w') S rfl rfl ⟨by rw [eqR_bad (hg.trans hE) hlt], M⟩
  case true =>
    refine wp_seq ?_
    have hdr : Below W.heap.size W W.drew := (Below.refl _ W).drew
    have M := M.trans (hdr.mono M.size)
    have z2 := hdr.size
    clear hdr
    refine wp_region_held_drew (S := fun V => Below w.heap.size w V) (by kernel_rfl) M (fun hS => ?_)
    refine dr_val 0 16 rfl (by kernel_rfl) (fun c a d v w hq => hpan c a d v w hq) (v := (.slice (some ⟨p, q, none⟩) xs.length c)) (fun V hV => ex_move (S.get 0 _ rfl) V) hS ?_
    replace S := S.put (by decide : 16 < 26) (.slice (some ⟨p, q, none⟩) xs.length c)
    refine dr_val 1 17 rfl (by kernel_rfl) (fun c a d v w hq => hpan c a d v w hq) (v := (.int .i64 i)) (fun V hV => ex_move (S.get 5 _ rfl) V) hS ?_
    replace S := S.put (by decide : 17 < 26) (.int .i64 i)
    refine dr_val 2 18 rfl (by kernel_rfl) (fun c a d v w hq => hpan c a d v w hq) (v := (.pointer (some ⟨p, q + i * 5, none⟩))) (fun V hV => ex_index (e := 119) (i := i) (k := 5) (by kernel_rfl) (by kernel_rfl) (S.get 16 _ rfl) (S.get 17 _ rfl) (by omega) V) hS ?_
    replace S := S.put (by decide : 18 < 26) (.pointer (some ⟨p, q + i * 5, none⟩))
    refine dr_val 3 19 rfl (by kernel_rfl) (fun c a d v w hq => hpan c a d v w hq) (v := (.agg (List.toArray ux))) (fun V hV => ex_agg (us := ux) (S.get 18 _ rfl) ⟨by kernel_rfl, by kernel_rfl⟩ hlx V (hsx.frm (Fr.of hV) (Nat.zero_le _) hpx)) hS ?_
    replace S := S.put (by decide : 19 < 26) (.agg (List.toArray ux))
    refine dr_val 4 20 rfl (by kernel_rfl) (fun c a d v w hq => hpan c a d v w hq) (v := (.slice (some ⟨p', q', none⟩) ys.length c')) (fun V hV => ex_move (S.get 1 _ rfl) V) hS ?_
    replace S := S.put (by decide : 20 < 26) (.slice (some ⟨p', q', none⟩) ys.length c')
    refine dr_val 5 21 rfl (by kernel_rfl) (fun c a d v w hq => hpan c a d v w hq) (v := (.int .i64 i)) (fun V hV => ex_move (S.get 5 _ rfl) V) hS ?_
    replace S := S.put (by decide : 21 < 26) (.int .i64 i)
    refine dr_val 6 22 rfl (by kernel_rfl) (fun c a d v w hq => hpan c a d v w hq) (v := (.pointer (some ⟨p', q' + i * 5, none⟩))) (fun V hV => ex_index (e := 119) (i := i) (k := 5) (by kernel_rfl) (by kernel_rfl) (S.get 20 _ rfl) (S.get 21 _ rfl) (by omega) V) hS ?_
    replace S := S.put (by decide : 22 < 26) (.pointer (some ⟨p', q' + i * 5, none⟩))
    refine dr_val 7 23 rfl (by kernel_rfl) (fun c a d v w hq => hpan c a d v w hq) (v := (.agg (List.toArray uy))) (fun V hV => ex_agg (us := uy) (S.get 22 _ rfl) ⟨by kernel_rfl, by kernel_rfl⟩ hly V (hsy.frm (Fr.of hV) (Nat.zero_le _) hpy)) hS ?_
    replace S := S.put (by decide : 23 < 26) (.agg (List.toArray uy))
    refine dr_val 8 24 rfl (by kernel_rfl) (fun c a d v w hq => hpan c a d v w hq) (v := (.bool false)) (fun V hV => ex_bin (u := (.agg (List.toArray ux))) (v := (.agg (List.toArray uy))) (S.get 19 _ rfl) (S.get 23 _ rfl) V ((nqBlock ux uy x y w w 0 0 hrx hry _ _ V).trans (by rw [hE]; rfl))) hS ?_
    replace S := S.put (by decide : 24 < 26) (.bool false)
    refine ⟨by kernel_rfl, ?_⟩
    refine wp_cond_false (S.get 24 _ rfl) (wp_skip ?_)
    replace S := ((((S.nil).add (S.get 0 _ rfl)).add (S.get 1 _ rfl)).add (S.get 12 _ rfl)).add (S.get 13 _ rfl)
    refine env_gen (C := fun a => Code.wp Tryz.prog _ _ a _) S ?_
    clear S; intro a S
    refine wp_region_list ?_
    refine wpl_val (v := (.int .i64 (i + 1))) (ex_bin (u := (.int .i64 i)) (v := (.int .i64 1)) (S.get 13 _ rfl) rfl _ (run_inc _ (by omega) (by omega))) ?_
    replace S := S.put (by decide : 25 < 26) (.int .i64 (i + 1))
    refine wpl_val (v := (.int .i64 (i + 1))) (ex_move (S.get 25 _ rfl) _) ?_
    replace S := S.put (by decide : 13 < 26) (.int .i64 (i + 1))
    refine wpl_nil ?_
    exact ⟨⟨((((S.nil).add (S.get 0 _ rfl)).add (S.get 1 _ rfl)).add (S.get 12 _ rfl)).add (S.get 13 _ rfl), allN_step hall (hg.trans hE), M⟩, hlt⟩

set_option maxRecDepth 20000 in
set_option maxHeartbeats 8000000 in
theorem slEqLease (o o' : Option Addr) (c c' : Nat) (xs ys : List LeaseA) (w : World) (hn : xs.length ≤ 1048576) (hx : ∀ j z, xs[j]? = some z → At cLease w 0 o j z) (hy : ∀ j z, ys[j]? = some z → At cLease w 0 o' j z) :
    Calls Tryz.prog 85 #[.slice o xs.length c, .slice o' ys.length c'] w fun e w' => e = .returned (.bool (eqR eqLease_B xs ys)) ∧ Below w.heap.size w w' := by
  refine calls_of_wp Tryz.func85 rfl ?_
  have hpan := pan_body (P := Tryz.prog) (fn := Tryz.f85) (R := fun e w' => e = .returned (.bool (eqR eqLease_B xs ys)) ∧ Below w.heap.size w w')
  refine env2 (N := 26) rfl (by decide) ?_
  intro a S
  have M : Below w.heap.size w w := Below.refl _ _
  refine wp_seq (wp_region_list ?_)
  refine wpl_val (v := (.bool false)) (ex_assign (v := (.bool false)) rfl _) ?_
  replace S := S.put (by decide : 4 < 26) (.bool false)
  refine wpl_nil ?_
  replace S := ((S.nil).add (S.get 0 _ rfl)).add (S.get 1 _ rfl)
  refine env_gen (C := fun a => Code.wp Tryz.prog _ _ a _) S ?_
  clear S; intro a S
  by_cases hL : xs.length = ys.length
  case neg =>
    have e0 : ((xs.length : Int) != (ys.length : Int)) = true := bne_iff_ne.2 (by omega)
    refine wp_seq (wp_seq (wp_region_list ?_))
    refine wpl_val (v := (.slice o xs.length c)) (ex_move (S.get 0 _ rfl) _) ?_
    replace S := S.put (by decide : 6 < 26) (.slice o xs.length c)
    refine wpl_val (v := (.int .i64 xs.length)) (ex_len (by kernel_rfl) (S.get 6 _ rfl) _) ?_
    replace S := S.put (by decide : 7 < 26) (.int .i64 xs.length)
    refine wpl_val (v := (.slice o' ys.length c')) (ex_move (S.get 1 _ rfl) _) ?_
    replace S := S.put (by decide : 8 < 26) (.slice o' ys.length c')
    refine wpl_val (v := (.int .i64 ys.length)) (ex_len (by kernel_rfl) (S.get 8 _ rfl) _) ?_
    replace S := S.put (by decide : 9 < 26) (.int .i64 ys.length)
    refine wpl_val (v := (.bool true)) (ex_bin (u := (.int .i64 xs.length)) (v := (.int .i64 ys.length)) (S.get 7 _ rfl) (S.get 9 _ rfl) _ ((run_eqb _).trans (by rw [e0]))) ?_
    replace S := S.put (by decide : 10 < 26) (.bool true)
    refine wpl_nil ?_
    refine wp_cond_true (S.get 10 _ rfl) ?_
    refine wp_seq (wp_region_list ?_)
    refine wpl_val (v := (.bool false)) (ex_assign (v := (.bool false)) rfl _) ?_
    replace S := S.put (by decide : 4 < 26) (.bool false)
    refine wpl_nil ?_
    refine wp_ret ?_
    exact ret_at (P := Tryz.prog) (fn := Tryz.f85) (R := fun e w' => e = .returned (.bool (eqR eqLease_B xs ys)) ∧ Below w.heap.size w w') S rfl rfl ⟨by rw [eqR_len hL], M⟩
  have e0 : ((xs.length : Int) != (ys.length : Int)) = false := by simp [hL]
  refine wp_seq (wp_seq (wp_region_list ?_))
  refine wpl_val (v := (.slice o xs.length c)) (ex_move (S.get 0 _ rfl) _) ?_
  replace S := S.put (by decide : 6 < 26) (.slice o xs.length c)
  refine wpl_val (v := (.int .i64 xs.length)) (ex_len (by kernel_rfl) (S.get 6 _ rfl) _) ?_
  replace S := S.put (by decide : 7 < 26) (.int .i64 xs.length)
  refine wpl_val (v := (.slice o' ys.length c')) (ex_move (S.get 1 _ rfl) _) ?_
  replace S := S.put (by decide : 8 < 26) (.slice o' ys.length c')
  refine wpl_val (v := (.int .i64 ys.length)) (ex_len (by kernel_rfl) (S.get 8 _ rfl) _) ?_
  replace S := S.put (by decide : 9 < 26) (.int .i64 ys.length)
  refine wpl_val (v := (.bool false)) (ex_bin (u := (.int .i64 xs.length)) (v := (.int .i64 ys.length)) (S.get 7 _ rfl) (S.get 9 _ rfl) _ ((run_eqb _).trans (by rw [e0]))) ?_
  replace S := S.put (by decide : 10 < 26) (.bool false)
  refine wpl_nil ?_
  refine wp_cond_false (S.get 10 _ rfl) (wp_skip ?_)
  replace S := ((S.nil).add (S.get 0 _ rfl)).add (S.get 1 _ rfl)
  refine env_gen (C := fun a => Code.wp Tryz.prog _ _ a _) S ?_
  clear S; intro a S
  refine wp_seq (wp_seq (wp_region_list ?_))
  refine wpl_val (v := (.slice o xs.length c)) (ex_move (S.get 0 _ rfl) _) ?_
  replace S := S.put (by decide : 11 < 26) (.slice o xs.length c)
  refine wpl_val (v := (.int .i64 xs.length)) (ex_len (by kernel_rfl) (S.get 11 _ rfl) _) ?_
  replace S := S.put (by decide : 12 < 26) (.int .i64 xs.length)
  refine wpl_val (v := (.int .i64 0)) (ex_move (v := (.int .i64 0)) rfl _) ?_
  replace S := S.put (by decide : 13 < 26) (.int .i64 0)
  refine wpl_nil ?_
  replace S := ((((S.nil).add (S.get 0 _ rfl)).add (S.get 1 _ rfl)).add (S.get 12 _ rfl)).add (S.get 13 _ rfl)
  refine env_gen (C := fun a => Code.wp Tryz.prog _ _ a _) S ?_
  clear S; intro a S
  refine wp_block (wp_count xs.length (fun i a W => Env 26 (upd (upd (upd (upd ((fun _ => none)) 0 (.slice o xs.length c)) 1 (.slice o' ys.length c')) 12 (.int .i64 xs.length)) 13 (.int .i64 i)) a ∧ allN (eqK eqLease_B xs ys) i = true ∧ Below w.heap.size w W) ⟨S, rfl, M⟩ ?_)
  clear S M
  rintro i a W hin ⟨S, hall, M⟩
  refine wp_seq (wp_region_list ?_)
  refine wpl_val (v := (.bool (decide ((i : Int) < (xs.length : Int))))) (ex_bin (u := (.int .i64 i)) (v := (.int .i64 xs.length)) (S.get 13 _ rfl) (S.get 12 _ rfl) _ (run_lss _)) ?_
  replace S := S.put (by decide : 14 < 26) (.bool (decide ((i : Int) < (xs.length : Int))))
  refine wpl_nil ?_
  by_cases hlt : i < xs.length
  case neg =>
    rw [decide_eq_false (by omega : ¬ (i : Int) < (xs.length : Int))] at S ⊢
    have hiR : i = xs.length := by omega
    refine wp_seq (wp_cond_false (S.get 14 _ rfl) (wp_exit ?_))
    simp only [Exit.then, Exit.inBlock, if_true]
    refine wp_seq (wp_region_list ?_)
    refine wpl_val (v := (.bool true)) (ex_assign (v := (.bool true)) rfl _) ?_
    replace S := S.put (by decide : 4 < 26) (.bool true)
    refine wpl_nil ?_
    refine wp_ret ?_
    rw [hiR] at hall
    exact ret_at (P := Tryz.prog) (fn := Tryz.f85) (R := fun e w' => e = .returned (.bool (eqR eqLease_B xs ys)) ∧ Below w.heap.size w w') S rfl rfl ⟨by rw [eqR_good hL hall], M⟩
  rw [decide_eq_true (by omega : (i : Int) < (xs.length : Int))] at S ⊢
  refine wp_seq (wp_cond_true (S.get 14 _ rfl) (wp_skip ?_))
  replace S := ((((S.nil).add (S.get 0 _ rfl)).add (S.get 1 _ rfl)).add (S.get 12 _ rfl)).add (S.get 13 _ rfl)
  refine env_gen (C := fun a => Code.wp Tryz.prog _ _ a _) S ?_
  clear S; intro a S
  obtain ⟨x, hxi⟩ : ∃ z, xs[i]? = some z := ⟨_, List.getElem?_eq_getElem (by omega)⟩
  obtain ⟨p, q, rfl⟩ : ∃ p q, o = some ⟨p, q, none⟩ := by obtain ⟨p, q, _, e, _⟩ := hx i x hxi; exact ⟨p, q, e⟩
  obtain ⟨ux, hpx, hsx, hrx⟩ := (hx i x hxi).out2
  have hlx : ux.length = 6 := (cLease.len hrx).trans (by kernel_rfl)
  rw [show cLease.k = 6 by kernel_rfl] at hsx
  obtain ⟨y, hyi⟩ : ∃ z, ys[i]? = some z := ⟨_, List.getElem?_eq_getElem (by omega)⟩
  obtain ⟨p', q', rfl⟩ : ∃ p q, o' = some ⟨p, q, none⟩ := by obtain ⟨p, q, _, e, _⟩ := hy i y hyi; exact ⟨p, q, e⟩
  obtain ⟨uy, hpy, hsy, hry⟩ := (hy i y hyi).out2
  have hly : uy.length = 6 := (cLease.len hry).trans (by kernel_rfl)
  rw [show cLease.k = 6 by kernel_rfl] at hsy
  have hg := eqK_at (f := eqLease_B) hxi hyi
  refine wp_seq (wp_block ?_)
  refine wp_seq (wp_region_list ?_)
  refine wpl_val (v := (.int .i64 i)) (ex_move (S.get 13 _ rfl) _) ?_
  replace S := S.put (by decide : 15 < 26) (.int .i64 i)
  refine wpl_val (v := (.int .i64 i)) (ex_assign (S.get 15 _ rfl) _) ?_
  replace S := S.put (by decide : 5 < 26) (.int .i64 i)
  refine wpl_nil ?_
  replace S := (((((S.nil).add (S.get 0 _ rfl)).add (S.get 1 _ rfl)).add (S.get 5 _ rfl)).add (S.get 12 _ rfl)).add (S.get 13 _ rfl)
  refine env_gen (C := fun a => Code.wp Tryz.prog _ _ a _) S ?_
  clear S; intro a S
  cases hE : eqLease_B x y
  case false =>
    refine wp_seq ?_
    have hdr : Below W.heap.size W W.drew := (Below.refl _ W).drew
    have M := M.trans (hdr.mono M.size)
    have z1 := hdr.size
    clear hdr
    refine wp_region_held_drew (S := fun V => Below w.heap.size w V) (by kernel_rfl) M (fun hS => ?_)
    refine dr_val 0 16 rfl (by kernel_rfl) (fun c a d v w hq => hpan c a d v w hq) (v := (.slice (some ⟨p, q, none⟩) xs.length c)) (fun V hV => ex_move (S.get 0 _ rfl) V) hS ?_
    replace S := S.put (by decide : 16 < 26) (.slice (some ⟨p, q, none⟩) xs.length c)
    refine dr_val 1 17 rfl (by kernel_rfl) (fun c a d v w hq => hpan c a d v w hq) (v := (.int .i64 i)) (fun V hV => ex_move (S.get 5 _ rfl) V) hS ?_
    replace S := S.put (by decide : 17 < 26) (.int .i64 i)
    refine dr_val 2 18 rfl (by kernel_rfl) (fun c a d v w hq => hpan c a d v w hq) (v := (.pointer (some ⟨p, q + i * 6, none⟩))) (fun V hV => ex_index (e := 121) (i := i) (k := 6) (by kernel_rfl) (by kernel_rfl) (S.get 16 _ rfl) (S.get 17 _ rfl) (by omega) V) hS ?_
    replace S := S.put (by decide : 18 < 26) (.pointer (some ⟨p, q + i * 6, none⟩))
    refine dr_val 3 19 rfl (by kernel_rfl) (fun c a d v w hq => hpan c a d v w hq) (v := (.agg (List.toArray ux))) (fun V hV => ex_agg (us := ux) (S.get 18 _ rfl) ⟨by kernel_rfl, by kernel_rfl⟩ hlx V (hsx.frm (Fr.of hV) (Nat.zero_le _) hpx)) hS ?_
    replace S := S.put (by decide : 19 < 26) (.agg (List.toArray ux))
    refine dr_val 4 20 rfl (by kernel_rfl) (fun c a d v w hq => hpan c a d v w hq) (v := (.slice (some ⟨p', q', none⟩) ys.length c')) (fun V hV => ex_move (S.get 1 _ rfl) V) hS ?_
    replace S := S.put (by decide : 20 < 26) (.slice (some ⟨p', q', none⟩) ys.length c')
    refine dr_val 5 21 rfl (by kernel_rfl) (fun c a d v w hq => hpan c a d v w hq) (v := (.int .i64 i)) (fun V hV => ex_move (S.get 5 _ rfl) V) hS ?_
    replace S := S.put (by decide : 21 < 26) (.int .i64 i)
    refine dr_val 6 22 rfl (by kernel_rfl) (fun c a d v w hq => hpan c a d v w hq) (v := (.pointer (some ⟨p', q' + i * 6, none⟩))) (fun V hV => ex_index (e := 121) (i := i) (k := 6) (by kernel_rfl) (by kernel_rfl) (S.get 20 _ rfl) (S.get 21 _ rfl) (by omega) V) hS ?_
    replace S := S.put (by decide : 22 < 26) (.pointer (some ⟨p', q' + i * 6, none⟩))
    refine dr_val 7 23 rfl (by kernel_rfl) (fun c a d v w hq => hpan c a d v w hq) (v := (.agg (List.toArray uy))) (fun V hV => ex_agg (us := uy) (S.get 22 _ rfl) ⟨by kernel_rfl, by kernel_rfl⟩ hly V (hsy.frm (Fr.of hV) (Nat.zero_le _) hpy)) hS ?_
    replace S := S.put (by decide : 23 < 26) (.agg (List.toArray uy))
    refine dr_val 8 24 rfl (by kernel_rfl) (fun c a d v w hq => hpan c a d v w hq) (v := (.bool true)) (fun V hV => ex_bin (u := (.agg (List.toArray ux))) (v := (.agg (List.toArray uy))) (S.get 19 _ rfl) (S.get 23 _ rfl) V ((nqLease ux uy x y w w 0 0 hrx hry _ _ V).trans (by rw [hE]; rfl))) hS ?_
    replace S := S.put (by decide : 24 < 26) (.bool true)
    refine ⟨by kernel_rfl, ?_⟩
    refine wp_cond_true (S.get 24 _ rfl) ?_
    refine wp_seq (wp_region_list ?_)
    refine wpl_val (v := (.bool false)) (ex_assign (v := (.bool false)) rfl _) ?_
    replace S := S.put (by decide : 4 < 26) (.bool false)
    refine wpl_nil ?_
    refine wp_ret ?_
    exact ret_at (P := Tryz.prog) (fn := Tryz.f85) (R := fun e w' => e = .returned (.bool (eqR eqLease_B xs ys)) ∧ Below w.heap.size w w') S rfl rfl ⟨by rw [eqR_bad (hg.trans hE) hlt], M⟩
  case true =>
    refine wp_seq ?_
    have hdr : Below W.heap.size W W.drew := (Below.refl _ W).drew
    have M := M.trans (hdr.mono M.size)
    have z2 := hdr.size
    clear hdr
    refine wp_region_held_drew (S := fun V => Below w.heap.size w V) (by kernel_rfl) M (fun hS => ?_)
    refine dr_val 0 16 rfl (by kernel_rfl) (fun c a d v w hq => hpan c a d v w hq) (v := (.slice (some ⟨p, q, none⟩) xs.length c)) (fun V hV => ex_move (S.get 0 _ rfl) V) hS ?_
    replace S := S.put (by decide : 16 < 26) (.slice (some ⟨p, q, none⟩) xs.length c)
    refine dr_val 1 17 rfl (by kernel_rfl) (fun c a d v w hq => hpan c a d v w hq) (v := (.int .i64 i)) (fun V hV => ex_move (S.get 5 _ rfl) V) hS ?_
    replace S := S.put (by decide : 17 < 26) (.int .i64 i)
    refine dr_val 2 18 rfl (by kernel_rfl) (fun c a d v w hq => hpan c a d v w hq) (v := (.pointer (some ⟨p, q + i * 6, none⟩))) (fun V hV => ex_index (e := 121) (i := i) (k := 6) (by kernel_rfl) (by kernel_rfl) (S.get 16 _ rfl) (S.get 17 _ rfl) (by omega) V) hS ?_
    replace S := S.put (by decide : 18 < 26) (.pointer (some ⟨p, q + i * 6, none⟩))
    refine dr_val 3 19 rfl (by kernel_rfl) (fun c a d v w hq => hpan c a d v w hq) (v := (.agg (List.toArray ux))) (fun V hV => ex_agg (us := ux) (S.get 18 _ rfl) ⟨by kernel_rfl, by kernel_rfl⟩ hlx V (hsx.frm (Fr.of hV) (Nat.zero_le _) hpx)) hS ?_
    replace S := S.put (by decide : 19 < 26) (.agg (List.toArray ux))
    refine dr_val 4 20 rfl (by kernel_rfl) (fun c a d v w hq => hpan c a d v w hq) (v := (.slice (some ⟨p', q', none⟩) ys.length c')) (fun V hV => ex_move (S.get 1 _ rfl) V) hS ?_
    replace S := S.put (by decide : 20 < 26) (.slice (some ⟨p', q', none⟩) ys.length c')
    refine dr_val 5 21 rfl (by kernel_rfl) (fun c a d v w hq => hpan c a d v w hq) (v := (.int .i64 i)) (fun V hV => ex_move (S.get 5 _ rfl) V) hS ?_
    replace S := S.put (by decide : 21 < 26) (.int .i64 i)
    refine dr_val 6 22 rfl (by kernel_rfl) (fun c a d v w hq => hpan c a d v w hq) (v := (.pointer (some ⟨p', q' + i * 6, none⟩))) (fun V hV => ex_index (e := 121) (i := i) (k := 6) (by kernel_rfl) (by kernel_rfl) (S.get 20 _ rfl) (S.get 21 _ rfl) (by omega) V) hS ?_
    replace S := S.put (by decide : 22 < 26) (.pointer (some ⟨p', q' + i * 6, none⟩))
    refine dr_val 7 23 rfl (by kernel_rfl) (fun c a d v w hq => hpan c a d v w hq) (v := (.agg (List.toArray uy))) (fun V hV => ex_agg (us := uy) (S.get 22 _ rfl) ⟨by kernel_rfl, by kernel_rfl⟩ hly V (hsy.frm (Fr.of hV) (Nat.zero_le _) hpy)) hS ?_
    replace S := S.put (by decide : 23 < 26) (.agg (List.toArray uy))
    refine dr_val 8 24 rfl (by kernel_rfl) (fun c a d v w hq => hpan c a d v w hq) (v := (.bool false)) (fun V hV => ex_bin (u := (.agg (List.toArray ux))) (v := (.agg (List.toArray uy))) (S.get 19 _ rfl) (S.get 23 _ rfl) V ((nqLease ux uy x y w w 0 0 hrx hry _ _ V).trans (by rw [hE]; rfl))) hS ?_
    replace S := S.put (by decide : 24 < 26) (.bool false)
    refine ⟨by kernel_rfl, ?_⟩
    refine wp_cond_false (S.get 24 _ rfl) (wp_skip ?_)
    replace S := ((((S.nil).add (S.get 0 _ rfl)).add (S.get 1 _ rfl)).add (S.get 12 _ rfl)).add (S.get 13 _ rfl)
    refine env_gen (C := fun a => Code.wp Tryz.prog _ _ a _) S ?_
    clear S; intro a S
    refine wp_region_list ?_
    refine wpl_val (v := (.int .i64 (i + 1))) (ex_bin (u := (.int .i64 i)) (v := (.int .i64 1)) (S.get 13 _ rfl) rfl _ (run_inc _ (by omega) (by omega))) ?_
    replace S := S.put (by decide : 25 < 26) (.int .i64 (i + 1))
    refine wpl_val (v := (.int .i64 (i + 1))) (ex_move (S.get 25 _ rfl) _) ?_
    replace S := S.put (by decide : 13 < 26) (.int .i64 (i + 1))
    refine wpl_nil ?_
    exact ⟨⟨((((S.nil).add (S.get 0 _ rfl)).add (S.get 1 _ rfl)).add (S.get 12 _ rfl)).add (S.get 13 _ rfl), allN_step hall (hg.trans hE), M⟩, hlt⟩

set_option maxRecDepth 20000 in
set_option maxHeartbeats 8000000 in
theorem slEqSession (o o' : Option Addr) (c c' : Nat) (xs ys : List SessA) (w : World) (hn : xs.length ≤ 1048576) (hx : ∀ j z, xs[j]? = some z → At cSession w 0 o j z) (hy : ∀ j z, ys[j]? = some z → At cSession w 0 o' j z) :
    Calls Tryz.prog 86 #[.slice o xs.length c, .slice o' ys.length c'] w fun e w' => e = .returned (.bool (eqR eqSess_B xs ys)) ∧ Below w.heap.size w w' := by
  refine calls_of_wp Tryz.func86 rfl ?_
  have hpan := pan_body (P := Tryz.prog) (fn := Tryz.f86) (R := fun e w' => e = .returned (.bool (eqR eqSess_B xs ys)) ∧ Below w.heap.size w w')
  refine env2 (N := 26) rfl (by decide) ?_
  intro a S
  have M : Below w.heap.size w w := Below.refl _ _
  refine wp_seq (wp_region_list ?_)
  refine wpl_val (v := (.bool false)) (ex_assign (v := (.bool false)) rfl _) ?_
  replace S := S.put (by decide : 4 < 26) (.bool false)
  refine wpl_nil ?_
  replace S := ((S.nil).add (S.get 0 _ rfl)).add (S.get 1 _ rfl)
  refine env_gen (C := fun a => Code.wp Tryz.prog _ _ a _) S ?_
  clear S; intro a S
  by_cases hL : xs.length = ys.length
  case neg =>
    have e0 : ((xs.length : Int) != (ys.length : Int)) = true := bne_iff_ne.2 (by omega)
    refine wp_seq (wp_seq (wp_region_list ?_))
    refine wpl_val (v := (.slice o xs.length c)) (ex_move (S.get 0 _ rfl) _) ?_
    replace S := S.put (by decide : 6 < 26) (.slice o xs.length c)
    refine wpl_val (v := (.int .i64 xs.length)) (ex_len (by kernel_rfl) (S.get 6 _ rfl) _) ?_
    replace S := S.put (by decide : 7 < 26) (.int .i64 xs.length)
    refine wpl_val (v := (.slice o' ys.length c')) (ex_move (S.get 1 _ rfl) _) ?_
    replace S := S.put (by decide : 8 < 26) (.slice o' ys.length c')
    refine wpl_val (v := (.int .i64 ys.length)) (ex_len (by kernel_rfl) (S.get 8 _ rfl) _) ?_
    replace S := S.put (by decide : 9 < 26) (.int .i64 ys.length)
    refine wpl_val (v := (.bool true)) (ex_bin (u := (.int .i64 xs.length)) (v := (.int .i64 ys.length)) (S.get 7 _ rfl) (S.get 9 _ rfl) _ ((run_eqb _).trans (by rw [e0]))) ?_
    replace S := S.put (by decide : 10 < 26) (.bool true)
    refine wpl_nil ?_
    refine wp_cond_true (S.get 10 _ rfl) ?_
    refine wp_seq (wp_region_list ?_)
    refine wpl_val (v := (.bool false)) (ex_assign (v := (.bool false)) rfl _) ?_
    replace S := S.put (by decide : 4 < 26) (.bool false)
    refine wpl_nil ?_
    refine wp_ret ?_
    exact ret_at (P := Tryz.prog) (fn := Tryz.f86) (R := fun e w' => e = .returned (.bool (eqR eqSess_B xs ys)) ∧ Below w.heap.size w w') S rfl rfl ⟨by rw [eqR_len hL], M⟩
  have e0 : ((xs.length : Int) != (ys.length : Int)) = false := by simp [hL]
  refine wp_seq (wp_seq (wp_region_list ?_))
  refine wpl_val (v := (.slice o xs.length c)) (ex_move (S.get 0 _ rfl) _) ?_
  replace S := S.put (by decide : 6 < 26) (.slice o xs.length c)
  refine wpl_val (v := (.int .i64 xs.length)) (ex_len (by kernel_rfl) (S.get 6 _ rfl) _) ?_
  replace S := S.put (by decide : 7 < 26) (.int .i64 xs.length)
  refine wpl_val (v := (.slice o' ys.length c')) (ex_move (S.get 1 _ rfl) _) ?_
  replace S := S.put (by decide : 8 < 26) (.slice o' ys.length c')
  refine wpl_val (v := (.int .i64 ys.length)) (ex_len (by kernel_rfl) (S.get 8 _ rfl) _) ?_
  replace S := S.put (by decide : 9 < 26) (.int .i64 ys.length)
  refine wpl_val (v := (.bool false)) (ex_bin (u := (.int .i64 xs.length)) (v := (.int .i64 ys.length)) (S.get 7 _ rfl) (S.get 9 _ rfl) _ ((run_eqb _).trans (by rw [e0]))) ?_
  replace S := S.put (by decide : 10 < 26) (.bool false)
  refine wpl_nil ?_
  refine wp_cond_false (S.get 10 _ rfl) (wp_skip ?_)
  replace S := ((S.nil).add (S.get 0 _ rfl)).add (S.get 1 _ rfl)
  refine env_gen (C := fun a => Code.wp Tryz.prog _ _ a _) S ?_
  clear S; intro a S
  refine wp_seq (wp_seq (wp_region_list ?_))
  refine wpl_val (v := (.slice o xs.length c)) (ex_move (S.get 0 _ rfl) _) ?_
  replace S := S.put (by decide : 11 < 26) (.slice o xs.length c)
  refine wpl_val (v := (.int .i64 xs.length)) (ex_len (by kernel_rfl) (S.get 11 _ rfl) _) ?_
  replace S := S.put (by decide : 12 < 26) (.int .i64 xs.length)
  refine wpl_val (v := (.int .i64 0)) (ex_move (v := (.int .i64 0)) rfl _) ?_
  replace S := S.put (by decide : 13 < 26) (.int .i64 0)
  refine wpl_nil ?_
  replace S := ((((S.nil).add (S.get 0 _ rfl)).add (S.get 1 _ rfl)).add (S.get 12 _ rfl)).add (S.get 13 _ rfl)
  refine env_gen (C := fun a => Code.wp Tryz.prog _ _ a _) S ?_
  clear S; intro a S
  refine wp_block (wp_count xs.length (fun i a W => Env 26 (upd (upd (upd (upd ((fun _ => none)) 0 (.slice o xs.length c)) 1 (.slice o' ys.length c')) 12 (.int .i64 xs.length)) 13 (.int .i64 i)) a ∧ allN (eqK eqSess_B xs ys) i = true ∧ Below w.heap.size w W) ⟨S, rfl, M⟩ ?_)
  clear S M
  rintro i a W hin ⟨S, hall, M⟩
  refine wp_seq (wp_region_list ?_)
  refine wpl_val (v := (.bool (decide ((i : Int) < (xs.length : Int))))) (ex_bin (u := (.int .i64 i)) (v := (.int .i64 xs.length)) (S.get 13 _ rfl) (S.get 12 _ rfl) _ (run_lss _)) ?_
  replace S := S.put (by decide : 14 < 26) (.bool (decide ((i : Int) < (xs.length : Int))))
  refine wpl_nil ?_
  by_cases hlt : i < xs.length
  case neg =>
    rw [decide_eq_false (by omega : ¬ (i : Int) < (xs.length : Int))] at S ⊢
    have hiR : i = xs.length := by omega
    refine wp_seq (wp_cond_false (S.get 14 _ rfl) (wp_exit ?_))
    simp only [Exit.then, Exit.inBlock, if_true]
    refine wp_seq (wp_region_list ?_)
    refine wpl_val (v := (.bool true)) (ex_assign (v := (.bool true)) rfl _) ?_
    replace S := S.put (by decide : 4 < 26) (.bool true)
    refine wpl_nil ?_
    refine wp_ret ?_
    rw [hiR] at hall
    exact ret_at (P := Tryz.prog) (fn := Tryz.f86) (R := fun e w' => e = .returned (.bool (eqR eqSess_B xs ys)) ∧ Below w.heap.size w w') S rfl rfl ⟨by rw [eqR_good hL hall], M⟩
  rw [decide_eq_true (by omega : (i : Int) < (xs.length : Int))] at S ⊢
  refine wp_seq (wp_cond_true (S.get 14 _ rfl) (wp_skip ?_))
  replace S := ((((S.nil).add (S.get 0 _ rfl)).add (S.get 1 _ rfl)).add (S.get 12 _ rfl)).add (S.get 13 _ rfl)
  refine env_gen (C := fun a => Code.wp Tryz.prog _ _ a _) S ?_
  clear S; intro a S
  obtain ⟨x, hxi⟩ : ∃ z, xs[i]? = some z := ⟨_, List.getElem?_eq_getElem (by omega)⟩
  obtain ⟨p, q, rfl⟩ : ∃ p q, o = some ⟨p, q, none⟩ := by obtain ⟨p, q, _, e, _⟩ := hx i x hxi; exact ⟨p, q, e⟩
  obtain ⟨ux, hpx, hsx, hrx⟩ := (hx i x hxi).out2
  have hlx : ux.length = 4 := (cSession.len hrx).trans (by kernel_rfl)
  rw [show cSession.k = 4 by kernel_rfl] at hsx
  obtain ⟨y, hyi⟩ : ∃ z, ys[i]? = some z := ⟨_, List.getElem?_eq_getElem (by omega)⟩
  obtain ⟨p', q', rfl⟩ : ∃ p q, o' = some ⟨p, q, none⟩ := by obtain ⟨p, q, _, e, _⟩ := hy i y hyi; exact ⟨p, q, e⟩
  obtain ⟨uy, hpy, hsy, hry⟩ := (hy i y hyi).out2
  have hly : uy.length = 4 := (cSession.len hry).trans (by kernel_rfl)
  rw [show cSession.k = 4 by kernel_rfl] at hsy
  have hg := eqK_at (f := eqSess_B) hxi hyi
  refine wp_seq (wp_block ?_)
  refine wp_seq (wp_region_list ?_)
  refine wpl_val (v := (.int .i64 i)) (ex_move (S.get 13 _ rfl) _) ?_
  replace S := S.put (by decide : 15 < 26) (.int .i64 i)
  refine wpl_val (v := (.int .i64 i)) (ex_assign (S.get 15 _ rfl) _) ?_
  replace S := S.put (by decide : 5 < 26) (.int .i64 i)
  refine wpl_nil ?_
  replace S := (((((S.nil).add (S.get 0 _ rfl)).add (S.get 1 _ rfl)).add (S.get 5 _ rfl)).add (S.get 12 _ rfl)).add (S.get 13 _ rfl)
  refine env_gen (C := fun a => Code.wp Tryz.prog _ _ a _) S ?_
  clear S; intro a S
  cases hE : eqSess_B x y
  case false =>
    refine wp_seq ?_
    have hdr : Below W.heap.size W W.drew := (Below.refl _ W).drew
    have M := M.trans (hdr.mono M.size)
    have z1 := hdr.size
    clear hdr
    refine wp_region_held_drew (S := fun V => Below w.heap.size w V) (by kernel_rfl) M (fun hS => ?_)
    refine dr_val 0 16 rfl (by kernel_rfl) (fun c a d v w hq => hpan c a d v w hq) (v := (.slice (some ⟨p, q, none⟩) xs.length c)) (fun V hV => ex_move (S.get 0 _ rfl) V) hS ?_
    replace S := S.put (by decide : 16 < 26) (.slice (some ⟨p, q, none⟩) xs.length c)
    refine dr_val 1 17 rfl (by kernel_rfl) (fun c a d v w hq => hpan c a d v w hq) (v := (.int .i64 i)) (fun V hV => ex_move (S.get 5 _ rfl) V) hS ?_
    replace S := S.put (by decide : 17 < 26) (.int .i64 i)
    refine dr_val 2 18 rfl (by kernel_rfl) (fun c a d v w hq => hpan c a d v w hq) (v := (.pointer (some ⟨p, q + i * 4, none⟩))) (fun V hV => ex_index (e := 123) (i := i) (k := 4) (by kernel_rfl) (by kernel_rfl) (S.get 16 _ rfl) (S.get 17 _ rfl) (by omega) V) hS ?_
    replace S := S.put (by decide : 18 < 26) (.pointer (some ⟨p, q + i * 4, none⟩))
    refine dr_val 3 19 rfl (by kernel_rfl) (fun c a d v w hq => hpan c a d v w hq) (v := (.agg (List.toArray ux))) (fun V hV => ex_agg (us := ux) (S.get 18 _ rfl) ⟨by kernel_rfl, by kernel_rfl⟩ hlx V (hsx.frm (Fr.of hV) (Nat.zero_le _) hpx)) hS ?_
    replace S := S.put (by decide : 19 < 26) (.agg (List.toArray ux))
    refine dr_val 4 20 rfl (by kernel_rfl) (fun c a d v w hq => hpan c a d v w hq) (v := (.slice (some ⟨p', q', none⟩) ys.length c')) (fun V hV => ex_move (S.get 1 _ rfl) V) hS ?_
    replace S := S.put (by decide : 20 < 26) (.slice (some ⟨p', q', none⟩) ys.length c')
    refine dr_val 5 21 rfl (by kernel_rfl) (fun c a d v w hq => hpan c a d v w hq) (v := (.int .i64 i)) (fun V hV => ex_move (S.get 5 _ rfl) V) hS ?_
    replace S := S.put (by decide : 21 < 26) (.int .i64 i)
    refine dr_val 6 22 rfl (by kernel_rfl) (fun c a d v w hq => hpan c a d v w hq) (v := (.pointer (some ⟨p', q' + i * 4, none⟩))) (fun V hV => ex_index (e := 123) (i := i) (k := 4) (by kernel_rfl) (by kernel_rfl) (S.get 20 _ rfl) (S.get 21 _ rfl) (by omega) V) hS ?_
    replace S := S.put (by decide : 22 < 26) (.pointer (some ⟨p', q' + i * 4, none⟩))
    refine dr_val 7 23 rfl (by kernel_rfl) (fun c a d v w hq => hpan c a d v w hq) (v := (.agg (List.toArray uy))) (fun V hV => ex_agg (us := uy) (S.get 22 _ rfl) ⟨by kernel_rfl, by kernel_rfl⟩ hly V (hsy.frm (Fr.of hV) (Nat.zero_le _) hpy)) hS ?_
    replace S := S.put (by decide : 23 < 26) (.agg (List.toArray uy))
    refine dr_val 8 24 rfl (by kernel_rfl) (fun c a d v w hq => hpan c a d v w hq) (v := (.bool true)) (fun V hV => ex_bin (u := (.agg (List.toArray ux))) (v := (.agg (List.toArray uy))) (S.get 19 _ rfl) (S.get 23 _ rfl) V ((nqSess ux uy x y w w 0 0 hrx hry _ _ V).trans (by rw [hE]; rfl))) hS ?_
    replace S := S.put (by decide : 24 < 26) (.bool true)
    refine ⟨by kernel_rfl, ?_⟩
    refine wp_cond_true (S.get 24 _ rfl) ?_
    refine wp_seq (wp_region_list ?_)
    refine wpl_val (v := (.bool false)) (ex_assign (v := (.bool false)) rfl _) ?_
    replace S := S.put (by decide : 4 < 26) (.bool false)
    refine wpl_nil ?_
    refine wp_ret ?_
    exact ret_at (P := Tryz.prog) (fn := Tryz.f86) (R := fun e w' => e = .returned (.bool (eqR eqSess_B xs ys)) ∧ Below w.heap.size w w') S rfl rfl ⟨by rw [eqR_bad (hg.trans hE) hlt], M⟩
  case true =>
    refine wp_seq ?_
    have hdr : Below W.heap.size W W.drew := (Below.refl _ W).drew
    have M := M.trans (hdr.mono M.size)
    have z2 := hdr.size
    clear hdr
    refine wp_region_held_drew (S := fun V => Below w.heap.size w V) (by kernel_rfl) M (fun hS => ?_)
    refine dr_val 0 16 rfl (by kernel_rfl) (fun c a d v w hq => hpan c a d v w hq) (v := (.slice (some ⟨p, q, none⟩) xs.length c)) (fun V hV => ex_move (S.get 0 _ rfl) V) hS ?_
    replace S := S.put (by decide : 16 < 26) (.slice (some ⟨p, q, none⟩) xs.length c)
    refine dr_val 1 17 rfl (by kernel_rfl) (fun c a d v w hq => hpan c a d v w hq) (v := (.int .i64 i)) (fun V hV => ex_move (S.get 5 _ rfl) V) hS ?_
    replace S := S.put (by decide : 17 < 26) (.int .i64 i)
    refine dr_val 2 18 rfl (by kernel_rfl) (fun c a d v w hq => hpan c a d v w hq) (v := (.pointer (some ⟨p, q + i * 4, none⟩))) (fun V hV => ex_index (e := 123) (i := i) (k := 4) (by kernel_rfl) (by kernel_rfl) (S.get 16 _ rfl) (S.get 17 _ rfl) (by omega) V) hS ?_
    replace S := S.put (by decide : 18 < 26) (.pointer (some ⟨p, q + i * 4, none⟩))
    refine dr_val 3 19 rfl (by kernel_rfl) (fun c a d v w hq => hpan c a d v w hq) (v := (.agg (List.toArray ux))) (fun V hV => ex_agg (us := ux) (S.get 18 _ rfl) ⟨by kernel_rfl, by kernel_rfl⟩ hlx V (hsx.frm (Fr.of hV) (Nat.zero_le _) hpx)) hS ?_
    replace S := S.put (by decide : 19 < 26) (.agg (List.toArray ux))
    refine dr_val 4 20 rfl (by kernel_rfl) (fun c a d v w hq => hpan c a d v w hq) (v := (.slice (some ⟨p', q', none⟩) ys.length c')) (fun V hV => ex_move (S.get 1 _ rfl) V) hS ?_
    replace S := S.put (by decide : 20 < 26) (.slice (some ⟨p', q', none⟩) ys.length c')
    refine dr_val 5 21 rfl (by kernel_rfl) (fun c a d v w hq => hpan c a d v w hq) (v := (.int .i64 i)) (fun V hV => ex_move (S.get 5 _ rfl) V) hS ?_
    replace S := S.put (by decide : 21 < 26) (.int .i64 i)
    refine dr_val 6 22 rfl (by kernel_rfl) (fun c a d v w hq => hpan c a d v w hq) (v := (.pointer (some ⟨p', q' + i * 4, none⟩))) (fun V hV => ex_index (e := 123) (i := i) (k := 4) (by kernel_rfl) (by kernel_rfl) (S.get 20 _ rfl) (S.get 21 _ rfl) (by omega) V) hS ?_
    replace S := S.put (by decide : 22 < 26) (.pointer (some ⟨p', q' + i * 4, none⟩))
    refine dr_val 7 23 rfl (by kernel_rfl) (fun c a d v w hq => hpan c a d v w hq) (v := (.agg (List.toArray uy))) (fun V hV => ex_agg (us := uy) (S.get 22 _ rfl) ⟨by kernel_rfl, by kernel_rfl⟩ hly V (hsy.frm (Fr.of hV) (Nat.zero_le _) hpy)) hS ?_
    replace S := S.put (by decide : 23 < 26) (.agg (List.toArray uy))
    refine dr_val 8 24 rfl (by kernel_rfl) (fun c a d v w hq => hpan c a d v w hq) (v := (.bool false)) (fun V hV => ex_bin (u := (.agg (List.toArray ux))) (v := (.agg (List.toArray uy))) (S.get 19 _ rfl) (S.get 23 _ rfl) V ((nqSess ux uy x y w w 0 0 hrx hry _ _ V).trans (by rw [hE]; rfl))) hS ?_
    replace S := S.put (by decide : 24 < 26) (.bool false)
    refine ⟨by kernel_rfl, ?_⟩
    refine wp_cond_false (S.get 24 _ rfl) (wp_skip ?_)
    replace S := ((((S.nil).add (S.get 0 _ rfl)).add (S.get 1 _ rfl)).add (S.get 12 _ rfl)).add (S.get 13 _ rfl)
    refine env_gen (C := fun a => Code.wp Tryz.prog _ _ a _) S ?_
    clear S; intro a S
    refine wp_region_list ?_
    refine wpl_val (v := (.int .i64 (i + 1))) (ex_bin (u := (.int .i64 i)) (v := (.int .i64 1)) (S.get 13 _ rfl) rfl _ (run_inc _ (by omega) (by omega))) ?_
    replace S := S.put (by decide : 25 < 26) (.int .i64 (i + 1))
    refine wpl_val (v := (.int .i64 (i + 1))) (ex_move (S.get 25 _ rfl) _) ?_
    replace S := S.put (by decide : 13 < 26) (.int .i64 (i + 1))
    refine wpl_nil ?_
    exact ⟨⟨((((S.nil).add (S.get 0 _ rfl)).add (S.get 1 _ rfl)).add (S.get 12 _ rfl)).add (S.get 13 _ rfl), allN_step hall (hg.trans hE), M⟩, hlt⟩

end Go.Proofs.YtjiplphfpkhmpaaGreat
