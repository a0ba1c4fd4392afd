/-
  The program's StatesMatch.
-/
import Derived.Test.YtjiplphfpkhmpaaGreatJX
namespace Go.Proofs.YtjiplphfpkhmpaaGreat
open Go.RowKit

set_option maxRecDepth 20000 in
set_option maxHeartbeats 8000000 in
theorem iTwo (us : List Value) (R : List RepA) (o : Option Addr) (c : Nat) (p0 : Nat) (w : World) (k0 : us[0]? = some (.slice o R.length c)) (hn : R.length ≤ 1048576) (hat : ∀ j y, R[j]? = some y → At cReplica w 0 o j y) (htt : ∀ (j : Nat) (y : RepA), R[j]? = some y → cState.tot (rState y) ≤ 1048576) (B0 : Box w p0 us) :
    Calls Tryz.prog 38 #[.pointer (some ⟨p0, 0, none⟩), (fnV 39)] w fun e w' => e = .returned (.bool (allN (stG R) R.length)) ∧ Below w.heap.size w w' := by
  refine calls_of_wp Tryz.func38 rfl ?_
  have hpan := pan_body (P := Tryz.prog) (fn := Tryz.f38) (R := fun e w' => e = .returned (.bool (allN (stG R) R.length)) ∧ Below w.heap.size w w')
  refine env2 (N := 36) rfl (by decide) ?_
  intro a S
  have M : Below w.heap.size w w := Below.refl _ _
  refine wp_seq (wp_region_list ?_)
  refine wpl_val (v := (.bool false)) (ex_assign (v := (.bool false)) rfl _) ?_
  replace S := S.put (by decide : 4 < 36) (.bool false)
  refine wpl_nil ?_
  replace S := ((S.nil).add (S.get 0 _ rfl)).add (S.get 1 _ rfl)
  refine env_gen (C := fun a => Code.wp Tryz.prog _ _ a _) S ?_
  clear S; intro a S
  refine wp_seq (wp_seq (wp_region_list ?_))
  refine wpl_val (v := (.pointer (some ⟨p0, 0, none⟩))) (ex_move (S.get 0 _ rfl) _) ?_
  replace S := S.put (by decide : 7 < 36) (.pointer (some ⟨p0, 0, none⟩))
  refine env_gen (C := fun a => wpList Tryz.prog _ _ _ a _) S ?_
  clear S; intro a S
  refine wpl_val (v := (.pointer (some ⟨p0, 0, none⟩))) (ex_nil (S.get 7 _ rfl) _) ?_
  replace S := S.put (by decide : 8 < 36) (.pointer (some ⟨p0, 0, none⟩))
  refine wpl_val (v := (.pointer (some ⟨p0, 0 + 0, none⟩))) (ex_field (S.get 8 _ rfl) (by kernel_rfl) _) ?_
  replace S := S.put (by decide : 9 < 36) (.pointer (some ⟨p0, 0 + 0, none⟩))
  refine wpl_val (v := (.slice o R.length c)) (ex_load (S.get 9 _ rfl) ⟨by kernel_rfl, by kernel_rfl⟩ _ (box_at B0 k0)) ?_
  replace S := S.put (by decide : 10 < 36) (.slice o R.length c)
  refine env_gen (C := fun a => wpList Tryz.prog _ _ _ a _) S ?_
  clear S; intro a S
  refine wpl_val (v := (.int .i64 R.length)) (ex_len (by kernel_rfl) (S.get 10 _ rfl) _) ?_
  replace S := S.put (by decide : 11 < 36) (.int .i64 R.length)
  refine wpl_val (v := (.int .i64 0)) (ex_move (v := (.int .i64 0)) rfl _) ?_
  replace S := S.put (by decide : 12 < 36) (.int .i64 0)
  refine wpl_nil ?_
  replace S := ((((S.nil).add (S.get 0 _ rfl)).add (S.get 1 _ rfl)).add (S.get 11 _ rfl)).add (S.get 12 _ rfl)
  refine env_gen (C := fun a => Code.wp Tryz.prog _ _ a _) S ?_
  clear S; intro a S
  refine wp_block (wp_count R.length (fun i a W => Env 36 (upd (upd (upd (upd ((fun _ => none)) 0 (.pointer (some ⟨p0, 0, none⟩))) 1 (fnV 39)) 11 (.int .i64 R.length)) 12 (.int .i64 i)) a ∧ allN (stG R) i = true ∧ Below w.heap.size w W ∧ Box W p0 us) ⟨S, rfl, M, B0⟩ ?_)
  clear S M B0
  rintro i a W hin ⟨S, hall, M, B0⟩
  refine wp_seq (wp_region_list ?_)
  refine wpl_val (v := (.bool (decide ((i : Int) < (R.length : Int))))) (ex_bin (u := (.int .i64 i)) (v := (.int .i64 R.length)) (S.get 12 _ rfl) (S.get 11 _ rfl) _ (run_lss _)) ?_
  replace S := S.put (by decide : 13 < 36) (.bool (decide ((i : Int) < (R.length : Int))))
  refine wpl_nil ?_
  by_cases hlt : i < R.length
  case neg =>
    rw [decide_eq_false (by omega : ¬ (i : Int) < (R.length : Int))] at S ⊢
    have hiR : i = R.length := by omega
    refine wp_seq (wp_cond_false (S.get 13 _ rfl) (wp_exit ?_))
    simp only [Exit.then, Exit.inBlock, if_true]
    refine wp_seq (wp_region_list ?_)
    refine wpl_val (v := (.bool true)) (ex_assign (v := (.bool true)) rfl _) ?_
    replace S := S.put (by decide : 4 < 36) (.bool true)
    refine wpl_nil ?_
    refine wp_ret ?_
    rw [hiR] at hall
    exact ret_at (P := Tryz.prog) (fn := Tryz.f38) (R := fun e w' => e = .returned (.bool (allN (stG R) R.length)) ∧ Below w.heap.size w w') S rfl rfl ⟨by rw [hall], M⟩
  rw [decide_eq_true (by omega : (i : Int) < (R.length : Int))] at S ⊢
  refine wp_seq (wp_cond_true (S.get 13 _ rfl) (wp_skip ?_))
  replace S := ((((S.nil).add (S.get 0 _ rfl)).add (S.get 1 _ rfl)).add (S.get 11 _ rfl)).add (S.get 12 _ rfl)
  refine env_gen (C := fun a => Code.wp Tryz.prog _ _ a _) S ?_
  clear S; intro a S
  obtain ⟨r, hri⟩ : ∃ r, R[i]? = some r := ⟨_, List.getElem?_eq_getElem (by omega)⟩
  obtain ⟨p, q, rfl⟩ : ∃ p q, o = some ⟨p, q, none⟩ := by obtain ⟨p, q, _, e, _⟩ := hat i r hri; exact ⟨p, q, e⟩
  obtain ⟨ur, hp, hs, hrr⟩ := (hat i r hri).out2
  rw [show cReplica.k = 43 by kernel_rfl] at hs
  refine wp_seq (wp_block ?_)
  refine wp_seq (wp_region_list ?_)
  refine wpl_val (v := (.int .i64 i)) (ex_move (S.get 12 _ rfl) _) ?_
  replace S := S.put (by decide : 14 < 36) (.int .i64 i)
  refine wpl_val (v := (.int .i64 i)) (ex_assign (S.get 14 _ rfl) _) ?_
  replace S := S.put (by decide : 5 < 36) (.int .i64 i)
  refine wpl_nil ?_
  replace S := (((((S.nil).add (S.get 0 _ rfl)).add (S.get 1 _ rfl)).add (S.get 5 _ rfl)).add (S.get 11 _ rfl)).add (S.get 12 _ rfl)
  refine env_gen (C := fun a => Code.wp Tryz.prog _ _ a _) S ?_
  clear S; intro a S
  refine wp_seq (wp_region_list ?_)
  refine wpl_val (v := (.int .i64 i)) (ex_move (S.get 5 _ rfl) _) ?_
  replace S := S.put (by decide : 15 < 36) (.int .i64 i)
  refine wpl_val (v := (.int .i64 0)) (ex_move (v := (.int .i64 0)) rfl _) ?_
  replace S := S.put (by decide : 16 < 36) (.int .i64 0)
  refine wpl_nil ?_
  replace S := (((((((S.nil).add (S.get 0 _ rfl)).add (S.get 1 _ rfl)).add (S.get 5 _ rfl)).add (S.get 11 _ rfl)).add (S.get 12 _ rfl)).add (S.get 15 _ rfl)).add (S.get 16 _ rfl)
  refine env_gen (C := fun a => Code.wp Tryz.prog _ _ a _) S ?_
  clear S; intro a S
  refine wp_block (wp_count i (fun k a W => Env 36 (upd (upd (upd (upd (upd (upd (upd ((fun _ => none)) 0 (.pointer (some ⟨p0, 0, none⟩))) 1 (fnV 39)) 5 (.int .i64 i)) 11 (.int .i64 R.length)) 12 (.int .i64 i)) 15 (.int .i64 i)) 16 (.int .i64 k)) a ∧ allN (stF R i) k = true ∧ Below w.heap.size w W ∧ Box W p0 us) ⟨S, rfl, M, B0⟩ ?_)
  clear S M B0
  rintro k a W hik ⟨S, hak, M, B0⟩
  refine wp_seq (wp_region_list ?_)
  refine wpl_val (v := (.bool (decide ((k : Int) < (i : Int))))) (ex_bin (u := (.int .i64 k)) (v := (.int .i64 i)) (S.get 16 _ rfl) (S.get 15 _ rfl) _ (run_lss _)) ?_
  replace S := S.put (by decide : 17 < 36) (.bool (decide ((k : Int) < (i : Int))))
  refine wpl_nil ?_
  by_cases hkl : k < i
  case neg =>
    rw [decide_eq_false (by omega : ¬ (k : Int) < (i : Int))] at S ⊢
    have hki : k = i := by omega
    rw [hki] at hak
    refine wp_seq (wp_cond_false (S.get 17 _ rfl) (wp_exit ?_))
    simp only [Exit.then, Exit.inBlock, if_true]
    replace S := ((((S.nil).add (S.get 0 _ rfl)).add (S.get 1 _ rfl)).add (S.get 11 _ rfl)).add (S.get 12 _ rfl)
    refine env_gen (C := fun a => Code.wp Tryz.prog _ _ a _) S ?_
    clear S; intro a S
    refine wp_region_list ?_
    refine wpl_val (v := (.int .i64 (i + 1))) (ex_bin (u := (.int .i64 i)) (v := (.int .i64 1)) (S.get 12 _ rfl) rfl _ (run_inc _ (by omega) (by omega))) ?_
    replace S := S.put (by decide : 35 < 36) (.int .i64 (i + 1))
    refine wpl_val (v := (.int .i64 (i + 1))) (ex_move (S.get 35 _ rfl) _) ?_
    replace S := S.put (by decide : 12 < 36) (.int .i64 (i + 1))
    refine wpl_nil ?_
    exact ⟨⟨((((S.nil).add (S.get 0 _ rfl)).add (S.get 1 _ rfl)).add (S.get 11 _ rfl)).add (S.get 12 _ rfl), allN_step hall hak, M, B0⟩, hlt⟩
  rw [decide_eq_true (by omega : (k : Int) < (i : Int))] at S ⊢
  refine wp_seq (wp_cond_true (S.get 17 _ rfl) (wp_skip ?_))
  replace S := (((((((S.nil).add (S.get 0 _ rfl)).add (S.get 1 _ rfl)).add (S.get 5 _ rfl)).add (S.get 11 _ rfl)).add (S.get 12 _ rfl)).add (S.get 15 _ rfl)).add (S.get 16 _ rfl)
  refine env_gen (C := fun a => Code.wp Tryz.prog _ _ a _) S ?_
  clear S; intro a S
  obtain ⟨z, hzk⟩ : ∃ z, R[k]? = some z := ⟨_, List.getElem?_eq_getElem (by omega)⟩
  obtain ⟨uz, _, hz, hrz⟩ := (hat k z hzk).out2
  rw [show cReplica.k = 43 by kernel_rfl] at hz
  have hg := stF_at hri hzk
  rw [stP_comm] at hg
  refine wp_seq (wp_block ?_)
  refine wp_seq (wp_region_list ?_)
  refine wpl_val (v := (.int .i64 k)) (ex_move (S.get 16 _ rfl) _) ?_
  replace S := S.put (by decide : 18 < 36) (.int .i64 k)
  refine env_gen (C := fun a => wpList Tryz.prog _ _ _ a _) S ?_
  clear S; intro a S
  refine wpl_val (v := (.int .i64 k)) (ex_assign (S.get 18 _ rfl) _) ?_
  replace S := S.put (by decide : 6 < 36) (.int .i64 k)
  refine wpl_nil ?_
  replace S := ((((((((S.nil).add (S.get 0 _ rfl)).add (S.get 1 _ rfl)).add (S.get 5 _ rfl)).add (S.get 6 _ rfl)).add (S.get 11 _ rfl)).add (S.get 12 _ rfl)).add (S.get 15 _ rfl)).add (S.get 16 _ rfl)
  refine env_gen (C := fun a => Code.wp Tryz.prog _ _ a _) S ?_
  clear S; intro a S
  cases hE : stP z r
  case false =>
    refine wp_seq ?_
    have hdr : Below W.heap.size W W.drew := (Below.refl _ W).drew
    have B0 := B0.later hdr
    have M := M.trans (hdr.mono M.size)
    have z1 := hdr.size
    clear hdr
    refine wp_region_held_drew (S := fun V => Box V p0 us ∧ Below w.heap.size w V) (by kernel_rfl) ⟨B0, M⟩ (fun hS => ?_)
    refine dr_val 0 19 rfl (by kernel_rfl) (fun c a d v w hq => hpan c a d v w hq) (v := (fnV 39)) (fun V hV => ex_move (S.get 1 _ rfl) V) hS ?_
    replace S := S.put (by decide : 19 < 36) (fnV 39)
    refine dr_val 1 20 rfl (by kernel_rfl) (fun c a d v w hq => hpan c a d v w hq) (v := (.pointer (some ⟨p0, 0, none⟩))) (fun V hV => ex_move (S.get 0 _ rfl) V) hS ?_
    replace S := S.put (by decide : 20 < 36) (.pointer (some ⟨p0, 0, none⟩))
    refine dr_val 2 21 rfl (by kernel_rfl) (fun c a d v w hq => hpan c a d v w hq) (v := (.pointer (some ⟨p0, 0, none⟩))) (fun V hV => ex_nil (S.get 20 _ rfl) V) hS ?_
    replace S := S.put (by decide : 21 < 36) (.pointer (some ⟨p0, 0, none⟩))
    refine dr_val 3 22 rfl (by kernel_rfl) (fun c a d v w hq => hpan c a d v w hq) (v := (.pointer (some ⟨p0, 0 + 0, none⟩))) (fun V hV => ex_field (S.get 21 _ rfl) (by kernel_rfl) V) hS ?_
    replace S := S.put (by decide : 22 < 36) (.pointer (some ⟨p0, 0 + 0, none⟩))
    refine dr_val 4 23 rfl (by kernel_rfl) (fun c a d v w hq => hpan c a d v w hq) (v := (.slice (some ⟨p, q, none⟩) R.length c)) (fun V hV => ex_load (S.get 22 _ rfl) ⟨by kernel_rfl, by kernel_rfl⟩ V (box_at hV.1 k0)) hS ?_
    replace S := S.put (by decide : 23 < 36) (.slice (some ⟨p, q, none⟩) R.length c)
    refine dr_val 5 24 rfl (by kernel_rfl) (fun c a d v w hq => hpan c a d v w hq) (v := (.int .i64 k)) (fun V hV => ex_move (S.get 6 _ rfl) V) hS ?_
    replace S := S.put (by decide : 24 < 36) (.int .i64 k)
    refine dr_val 6 25 rfl (by kernel_rfl) (fun c a d v w hq => hpan c a d v w hq) (v := (.pointer (some ⟨p, q + k * 43, none⟩))) (fun V hV => ex_index (e := 70) (i := k) (k := 43) (by kernel_rfl) (by kernel_rfl) (S.get 23 _ rfl) (S.get 24 _ rfl) (by omega) V) hS ?_
    replace S := S.put (by decide : 25 < 36) (.pointer (some ⟨p, q + k * 43, none⟩))
    refine dr_val 7 26 rfl (by kernel_rfl) (fun c a d v w hq => hpan c a d v w hq) (v := (.pointer (some ⟨p0, 0, none⟩))) (fun V hV => ex_move (S.get 0 _ rfl) V) hS ?_
    replace S := S.put (by decide : 26 < 36) (.pointer (some ⟨p0, 0, none⟩))
    refine dr_val 8 27 rfl (by kernel_rfl) (fun c a d v w hq => hpan c a d v w hq) (v := (.pointer (some ⟨p0, 0, none⟩))) (fun V hV => ex_nil (S.get 26 _ rfl) V) hS ?_
    replace S := S.put (by decide : 27 < 36) (.pointer (some ⟨p0, 0, none⟩))
    refine dr_val 9 28 rfl (by kernel_rfl) (fun c a d v w hq => hpan c a d v w hq) (v := (.pointer (some ⟨p0, 0 + 0, none⟩))) (fun V hV => ex_field (S.get 27 _ rfl) (by kernel_rfl) V) hS ?_
    replace S := S.put (by decide : 28 < 36) (.pointer (some ⟨p0, 0 + 0, none⟩))
    refine dr_val 10 29 rfl (by kernel_rfl) (fun c a d v w hq => hpan c a d v w hq) (v := (.slice (some ⟨p, q, none⟩) R.length c)) (fun V hV => ex_load (S.get 28 _ rfl) ⟨by kernel_rfl, by kernel_rfl⟩ V (box_at hV.1 k0)) hS ?_
    replace S := S.put (by decide : 29 < 36) (.slice (some ⟨p, q, none⟩) R.length c)
    refine dr_val 11 30 rfl (by kernel_rfl) (fun c a d v w hq => hpan c a d v w hq) (v := (.int .i64 i)) (fun V hV => ex_move (S.get 5 _ rfl) V) hS ?_
    replace S := S.put (by decide : 30 < 36) (.int .i64 i)
    refine dr_val 12 31 rfl (by kernel_rfl) (fun c a d v w hq => hpan c a d v w hq) (v := (.pointer (some ⟨p, q + i * 43, none⟩))) (fun V hV => ex_index (e := 70) (i := i) (k := 43) (by kernel_rfl) (by kernel_rfl) (S.get 29 _ rfl) (S.get 30 _ rfl) hlt V) hS ?_
    replace S := S.put (by decide : 31 < 36) (.pointer (some ⟨p, q + i * 43, none⟩))
    refine env_gen (C := fun a => wpAnyH Tryz.prog _ _ _ _ _ _ a _) S ?_
    clear S; intro a S
    have zq0 : Act.eval _ (.tmp 25) = (.pointer (some ⟨p, q + k * 43, none⟩)) := S.get 25 _ rfl
    have zq1 : Act.eval _ (.tmp 31) = (.pointer (some ⟨p, q + i * 43, none⟩)) := S.get 31 _ rfl
    refine dr_callV 13 32 (f := 39) (R := fun e V => e = .returned (.bool false) ∧ Below W.drew.heap.size W.drew V) rfl (by kernel_rfl) ((S.get 19 _ rfl).trans fnV_eval) ⟨_, Tryz.func39, by kernel_rfl, by kernel_rfl⟩ ?_ ?_
    · have hc := iLike p (q + k * 43) p (q + i * 43) uz ur z r W.drew (hz.frm (Fr.of M) (Nat.zero_le _) hp) (hs.frm (Fr.of M) (Nat.zero_le _) hp) (Nat.lt_of_lt_of_le hp M.size) (Nat.lt_of_lt_of_le hp M.size) (rep_partS (cReplica.lat hrz M)) (rep_partS (cReplica.lat hrr M)) (htt k z hzk) (htt i r hri)
      rw [hE] at hc
      simp only [List.map_toArray, List.map_cons, List.map_nil, zq0, zq1]; exact hc
    rintro e V2 ⟨rfl, hb3⟩
    have B0 := B0.later hb3
    have M := M.trans (hb3.mono M.size)
    have z4 := hb3.size
    replace hS : Box _ p0 us ∧ Below w.heap.size w _ := ⟨B0, M⟩
    refine ⟨_, rfl, hS, ?_⟩
    replace S := S.put (by decide : 32 < 36) (.bool false)
    refine env_gen (C := fun a => wpAnyH Tryz.prog _ _ _ _ _ _ a _) S ?_
    clear S; intro a S
    refine dr_val 14 33 rfl (by kernel_rfl) (fun c a d v w hq => hpan c a d v w hq) (v := (.bool true)) (fun V hV => ex_not (b := false) (S.get 32 _ rfl) V) hS ?_
    replace S := S.put (by decide : 33 < 36) (.bool true)
    refine ⟨by kernel_rfl, ?_⟩
    refine wp_cond_true (S.get 33 _ rfl) ?_
    refine wp_seq (wp_region_list ?_)
    refine wpl_val (v := (.bool false)) (ex_assign (v := (.bool false)) rfl _) ?_
    replace S := S.put (by decide : 4 < 36) (.bool false)
    refine wpl_nil ?_
    refine wp_ret ?_
    have hgF : stG R i = false := allN_bad (i := k) (hg.trans hE) hkl
    exact ret_at (P := Tryz.prog) (fn := Tryz.f38) (R := fun e w' => e = .returned (.bool (allN (stG R) R.length)) ∧ Below w.heap.size w w') S rfl rfl ⟨by rw [allN_bad hgF hlt], M⟩
  case true =>
    refine wp_seq ?_
    have hdr : Below W.heap.size W W.drew := (Below.refl _ W).drew
    have B0 := B0.later hdr
    have M := M.trans (hdr.mono M.size)
    have z5 := hdr.size
    clear hdr
    refine wp_region_held_drew (S := fun V => Box V p0 us ∧ Below w.heap.size w V) (by kernel_rfl) ⟨B0, M⟩ (fun hS => ?_)
    refine dr_val 0 19 rfl (by kernel_rfl) (fun c a d v w hq => hpan c a d v w hq) (v := (fnV 39)) (fun V hV => ex_move (S.get 1 _ rfl) V) hS ?_
    replace S := S.put (by decide : 19 < 36) (fnV 39)
    refine dr_val 1 20 rfl (by kernel_rfl) (fun c a d v w hq => hpan c a d v w hq) (v := (.pointer (some ⟨p0, 0, none⟩))) (fun V hV => ex_move (S.get 0 _ rfl) V) hS ?_
    replace S := S.put (by decide : 20 < 36) (.pointer (some ⟨p0, 0, none⟩))
    refine dr_val 2 21 rfl (by kernel_rfl) (fun c a d v w hq => hpan c a d v w hq) (v := (.pointer (some ⟨p0, 0, none⟩))) (fun V hV => ex_nil (S.get 20 _ rfl) V) hS ?_
    replace S := S.put (by decide : 21 < 36) (.pointer (some ⟨p0, 0, none⟩))
    refine dr_val 3 22 rfl (by kernel_rfl) (fun c a d v w hq => hpan c a d v w hq) (v := (.pointer (some ⟨p0, 0 + 0, none⟩))) (fun V hV => ex_field (S.get 21 _ rfl) (by kernel_rfl) V) hS ?_
    replace S := S.put (by decide : 22 < 36) (.pointer (some ⟨p0, 0 + 0, none⟩))
    refine dr_val 4 23 rfl (by kernel_rfl) (fun c a d v w hq => hpan c a d v w hq) (v := (.slice (some ⟨p, q, none⟩) R.length c)) (fun V hV => ex_load (S.get 22 _ rfl) ⟨by kernel_rfl, by kernel_rfl⟩ V (box_at hV.1 k0)) hS ?_
    replace S := S.put (by decide : 23 < 36) (.slice (some ⟨p, q, none⟩) R.length c)
    refine dr_val 5 24 rfl (by kernel_rfl) (fun c a d v w hq => hpan c a d v w hq) (v := (.int .i64 k)) (fun V hV => ex_move (S.get 6 _ rfl) V) hS ?_
    replace S := S.put (by decide : 24 < 36) (.int .i64 k)
    refine dr_val 6 25 rfl (by kernel_rfl) (fun c a d v w hq => hpan c a d v w hq) (v := (.pointer (some ⟨p, q + k * 43, none⟩))) (fun V hV => ex_index (e := 70) (i := k) (k := 43) (by kernel_rfl) (by kernel_rfl) (S.get 23 _ rfl) (S.get 24 _ rfl) (by omega) V) hS ?_
    replace S := S.put (by decide : 25 < 36) (.pointer (some ⟨p, q + k * 43, none⟩))
    refine dr_val 7 26 rfl (by kernel_rfl) (fun c a d v w hq => hpan c a d v w hq) (v := (.pointer (some ⟨p0, 0, none⟩))) (fun V hV => ex_move (S.get 0 _ rfl) V) hS ?_
    replace S := S.put (by decide : 26 < 36) (.pointer (some ⟨p0, 0, none⟩))
    refine dr_val 8 27 rfl (by kernel_rfl) (fun c a d v w hq => hpan c a d v w hq) (v := (.pointer (some ⟨p0, 0, none⟩))) (fun V hV => ex_nil (S.get 26 _ rfl) V) hS ?_
    replace S := S.put (by decide : 27 < 36) (.pointer (some ⟨p0, 0, none⟩))
    refine dr_val 9 28 rfl (by kernel_rfl) (fun c a d v w hq => hpan c a d v w hq) (v := (.pointer (some ⟨p0, 0 + 0, none⟩))) (fun V hV => ex_field (S.get 27 _ rfl) (by kernel_rfl) V) hS ?_
    replace S := S.put (by decide : 28 < 36) (.pointer (some ⟨p0, 0 + 0, none⟩))
    refine dr_val 10 29 rfl (by kernel_rfl) (fun c a d v w hq => hpan c a d v w hq) (v := (.slice (some ⟨p, q, none⟩) R.length c)) (fun V hV => ex_load (S.get 28 _ rfl) ⟨by kernel_rfl, by kernel_rfl⟩ V (box_at hV.1 k0)) hS ?_
    replace S := S.put (by decide : 29 < 36) (.slice (some ⟨p, q, none⟩) R.length c)
    refine dr_val 11 30 rfl (by kernel_rfl) (fun c a d v w hq => hpan c a d v w hq) (v := (.int .i64 i)) (fun V hV => ex_move (S.get 5 _ rfl) V) hS ?_
    replace S := S.put (by decide : 30 < 36) (.int .i64 i)
    refine dr_val 12 31 rfl (by kernel_rfl) (fun c a d v w hq => hpan c a d v w hq) (v := (.pointer (some ⟨p, q + i * 43, none⟩))) (fun V hV => ex_index (e := 70) (i := i) (k := 43) (by kernel_rfl) (by kernel_rfl) (S.get 29 _ rfl) (S.get 30 _ rfl) hlt V) hS ?_
    replace S := S.put (by decide : 31 < 36) (.pointer (some ⟨p, q + i * 43, none⟩))
    refine env_gen (C := fun a => wpAnyH Tryz.prog _ _ _ _ _ _ a _) S ?_
    clear S; intro a S
    have zq0 : Act.eval _ (.tmp 25) = (.pointer (some ⟨p, q + k * 43, none⟩)) := S.get 25 _ rfl
    have zq1 : Act.eval _ (.tmp 31) = (.pointer (some ⟨p, q + i * 43, none⟩)) := S.get 31 _ rfl
    refine dr_callV 13 32 (f := 39) (R := fun e V => e = .returned (.bool true) ∧ Below W.drew.heap.size W.drew V) rfl (by kernel_rfl) ((S.get 19 _ rfl).trans fnV_eval) ⟨_, Tryz.func39, by kernel_rfl, by kernel_rfl⟩ ?_ ?_
    · have hc := iLike p (q + k * 43) p (q + i * 43) uz ur z r W.drew (hz.frm (Fr.of M) (Nat.zero_le _) hp) (hs.frm (Fr.of M) (Nat.zero_le _) hp) (Nat.lt_of_lt_of_le hp M.size) (Nat.lt_of_lt_of_le hp M.size) (rep_partS (cReplica.lat hrz M)) (rep_partS (cReplica.lat hrr M)) (htt k z hzk) (htt i r hri)
      rw [hE] at hc
      simp only [List.map_toArray, List.map_cons, List.map_nil, zq0, zq1]; exact hc
    rintro e V6 ⟨rfl, hb7⟩
    have B0 := B0.later hb7
    have M := M.trans (hb7.mono M.size)
    have z8 := hb7.size
    replace hS : Box _ p0 us ∧ Below w.heap.size w _ := ⟨B0, M⟩
    refine ⟨_, rfl, hS, ?_⟩
    replace S := S.put (by decide : 32 < 36) (.bool true)
    refine env_gen (C := fun a => wpAnyH Tryz.prog _ _ _ _ _ _ a _) S ?_
    clear S; intro a S
    refine dr_val 14 33 rfl (by kernel_rfl) (fun c a d v w hq => hpan c a d v w hq) (v := (.bool false)) (fun V hV => ex_not (b := true) (S.get 32 _ rfl) V) hS ?_
    replace S := S.put (by decide : 33 < 36) (.bool false)
    refine ⟨by kernel_rfl, ?_⟩
    refine wp_cond_false (S.get 33 _ rfl) (wp_skip ?_)
    replace S := (((((((S.nil).add (S.get 0 _ rfl)).add (S.get 1 _ rfl)).add (S.get 5 _ rfl)).add (S.get 11 _ rfl)).add (S.get 12 _ rfl)).add (S.get 15 _ rfl)).add (S.get 16 _ rfl)
    refine env_gen (C := fun a => Code.wp Tryz.prog _ _ a _) S ?_
    clear S; intro a S
    refine wp_region_list ?_
    refine wpl_val (v := (.int .i64 (k + 1))) (ex_bin (u := (.int .i64 k)) (v := (.int .i64 1)) (S.get 16 _ rfl) rfl _ (run_inc _ (by omega) (by omega))) ?_
    replace S := S.put (by decide : 34 < 36) (.int .i64 (k + 1))
    refine env_gen (C := fun a => wpList Tryz.prog _ _ _ a _) S ?_
    clear S; intro a S
    refine wpl_val (v := (.int .i64 (k + 1))) (ex_move (S.get 34 _ rfl) _) ?_
    replace S := S.put (by decide : 16 < 36) (.int .i64 (k + 1))
    refine wpl_nil ?_
    exact ⟨⟨(((((((S.nil).add (S.get 0 _ rfl)).add (S.get 1 _ rfl)).add (S.get 5 _ rfl)).add (S.get 11 _ rfl)).add (S.get 12 _ rfl)).add (S.get 15 _ rfl)).add (S.get 16 _ rfl), allN_step hak (hg.trans hE), M, B0⟩, hkl⟩

set_option maxRecDepth 20000 in
set_option maxHeartbeats 8000000 in
theorem iSts_m (us : List Value) (R : List RepA) (o : Option Addr) (c : Nat) (p0 : Nat) (w : World) (k0 : us[0]? = some (.slice o R.length c)) (hn : R.length ≤ 1048576) (hat : ∀ j y, R[j]? = some y → At cReplica w 0 o j y) (htt : ∀ (j : Nat) (y : RepA), R[j]? = some y → cState.tot (rState y) ≤ 1048576) (B0 : Box w p0 us) :
    Calls Tryz.prog 22 #[.pointer (some ⟨p0, 0, none⟩)] w fun e w' => e = .returned (.bool (allN (stG R) R.length)) ∧ Below w.heap.size w w' := by
  refine calls_of_wp Tryz.func22 rfl ?_
  have hpan := pan_body (P := Tryz.prog) (fn := Tryz.f22) (R := fun e w' => e = .returned (.bool (allN (stG R) R.length)) ∧ Below w.heap.size w w')
  refine env1 (N := 5) rfl (by decide) ?_
  intro a S
  have M : Below w.heap.size w w := Below.refl _ _
  refine wp_seq (wp_region_list ?_)
  refine wpl_val (v := (.bool false)) (ex_assign (v := (.bool false)) rfl _) ?_
  replace S := S.put (by decide : 2 < 5) (.bool false)
  refine wpl_nil ?_
  replace S := (S.nil).add (S.get 0 _ rfl)
  refine env_gen (C := fun a => Code.wp Tryz.prog _ _ a _) S ?_
  clear S; intro a S
  refine wp_seq (wp_region_list ?_)
  refine wpl_val (v := (.pointer (some ⟨p0, 0, none⟩))) (ex_move (S.get 0 _ rfl) _) ?_
  replace S := S.put (by decide : 3 < 5) (.pointer (some ⟨p0, 0, none⟩))
  have zq0 : Act.eval _ (.tmp 3) = (.pointer (some ⟨p0, 0, none⟩)) := S.get 3 _ rfl
  refine wpl_call (R := fun e V => e = .returned (.bool (allN (stG R) R.length)) ∧ Below w.heap.size w V) ⟨_, Tryz.func38, by kernel_rfl, by kernel_rfl⟩ ?_ ?_
  · have hc := iTwo us R o c p0 w k0 hn hat htt B0
    simp only [List.map_toArray, List.map_cons, List.map_nil, zq0]; exact hc
  rintro e V1 ⟨rfl, hb2⟩
  refine ⟨_, rfl, ?_⟩
  have M := M.trans (hb2.mono M.size)
  have z3 := hb2.size
  replace S := S.put (by decide : 4 < 5) (.bool (allN (stG R) R.length))
  refine env_gen (C := fun a => wpList Tryz.prog _ _ _ a _) S ?_
  clear S; intro a S
  refine env_gen (C := fun a => wpList Tryz.prog _ _ _ a _) S ?_
  clear S; intro a S
  refine wpl_val (v := (.bool (allN (stG R) R.length))) (ex_assign (S.get 4 _ rfl) _) ?_
  replace S := S.put (by decide : 2 < 5) (.bool (allN (stG R) R.length))
  refine wpl_nil ?_
  refine wp_ret ?_
  exact ret_at (P := Tryz.prog) (fn := Tryz.f22) (R := fun e w' => e = .returned (.bool (allN (stG R) R.length)) ∧ Below w.heap.size w w') S rfl rfl ⟨rfl, M⟩

end Go.Proofs.YtjiplphfpkhmpaaGreat
