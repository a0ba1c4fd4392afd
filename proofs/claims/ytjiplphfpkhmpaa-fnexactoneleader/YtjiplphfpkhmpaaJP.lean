/-
  The specification's OneLeader.
-/
import Derived.Test.YtjiplphfpkhmpaaJO
namespace Go.Proofs.Ytjiplphfpkhmpaa
open Go.RowKit Go.Maps

set_option maxRecDepth 20000 in
set_option maxHeartbeats 8000000 in
theorem sOne_m (us : List Value) (L : List (List Int)) (o : Option Addr) (c : Nat) (w : World) (k4 : us[4]? = some (.slice o L.length c)) (hn : L.length ≤ 1048576) (hat : ∀ j y, L[j]? = some y → At cIntA2 w 0 o j y) :
    Calls Try.prog 6 #[.agg us.toArray] w fun e w' => e = .returned (.bool (allN (oneF L) L.length)) ∧ Below w.heap.size w w' := by
  refine calls_of_wp Try.func6 rfl ?_
  have hpan := pan_body (P := Try.prog) (fn := Try.f6) (R := fun e w' => e = .returned (.bool (allN (oneF L) L.length)) ∧ Below w.heap.size w w')
  refine env1 (N := 45) rfl (by decide) ?_
  intro a S
  have M : Below w.heap.size w w := Below.refl _ _
  refine wp_seq (wp_region_list ?_)
  refine wpl_box (us := us) (by rw [S.get 0 _ rfl]; rfl) ?_
  intro X1 B2 l3 _
  have M := M.trans (l3.mono M.size)
  replace S := S.put (by decide : 1 < 45) (.pointer (some ⟨w.heap.size, 0, none⟩))
  refine wpl_val (v := (.bool false)) (ex_assign (v := (.bool false)) rfl _) ?_
  replace S := S.put (by decide : 2 < 45) (.bool false)
  refine wpl_nil ?_
  replace S := (S.nil).add (S.get 1 _ rfl)
  refine env_gen (C := fun a => Code.wp Try.prog _ _ a _) S ?_
  clear S; intro a S
  refine wp_seq (wp_seq (wp_region_list ?_))
  refine wpl_val (v := (.int .i64 0)) (ex_assign (v := (.int .i64 0)) rfl _) ?_
  replace S := S.put (by decide : 3 < 45) (.int .i64 0)
  refine wpl_nil ?_
  replace S := ((S.nil).add (S.get 1 _ rfl)).add (S.get 3 _ rfl)
  refine env_gen (C := fun a => Code.wp Try.prog _ _ a _) S ?_
  clear S; intro a S
  refine wp_block (wp_count L.length (fun i a W => Env 45 (upd (upd ((fun _ => none)) 1 (.pointer (some ⟨w.heap.size, 0, none⟩))) 3 (.int .i64 i)) a ∧ allN (oneF L) i = true ∧ Below w.heap.size w W ∧ Box W (w.heap.size) us) ⟨S, rfl, M, B2⟩ ?_)
  clear S M B2
  rintro i a W hin ⟨S, hall, M, B2⟩
  refine wp_seq (wp_seq (wp_region_list ?_))
  refine wpl_val (v := (.int .i64 i)) (ex_move (S.get 3 _ rfl) _) ?_
  replace S := S.put (by decide : 5 < 45) (.int .i64 i)
  refine wpl_val (v := (.pointer (some ⟨w.heap.size, 0 + 4, none⟩))) (ex_field (S.get 1 _ rfl) (by kernel_rfl) _) ?_
  replace S := S.put (by decide : 6 < 45) (.pointer (some ⟨w.heap.size, 0 + 4, none⟩))
  refine wpl_val (v := (.slice o L.length c)) (ex_load (S.get 6 _ rfl) ⟨by kernel_rfl, by kernel_rfl⟩ _ (box_at B2 k4)) ?_
  replace S := S.put (by decide : 7 < 45) (.slice o L.length c)
  refine wpl_val (v := (.int .i64 L.length)) (ex_len (by kernel_rfl) (S.get 7 _ rfl) _) ?_
  replace S := S.put (by decide : 8 < 45) (.int .i64 L.length)
  refine wpl_val (v := (.bool (decide ((i : Int) < (L.length : Int))))) (ex_bin (u := (.int .i64 i)) (v := (.int .i64 L.length)) (S.get 5 _ rfl) (S.get 8 _ rfl) _ (run_lss _)) ?_
  replace S := S.put (by decide : 9 < 45) (.bool (decide ((i : Int) < (L.length : Int))))
  refine wpl_nil ?_
  by_cases hlt : i < L.length
  case neg =>
    rw [decide_eq_false (by omega : ¬ (i : Int) < (L.length : Int))] at S ⊢
    have hiR : i = L.length := by omega
    refine wp_cond_false (S.get 9 _ rfl) (wp_exit ?_)
    simp only [Exit.then, Exit.inBlock, if_true]
    refine wp_seq (wp_region_list ?_)
    refine wpl_val (v := (.bool true)) (ex_assign (v := (.bool true)) rfl _) ?_
    replace S := S.put (by decide : 2 < 45) (.bool true)
    refine wpl_nil ?_
    refine wp_ret ?_
    rw [hiR] at hall
    exact ret_at (P := Try.prog) (fn := Try.f6) (R := fun e w' => e = .returned (.bool (allN (oneF L) L.length)) ∧ Below w.heap.size w w') S rfl rfl ⟨by rw [hall], M⟩
  rw [decide_eq_true (by omega : (i : Int) < (L.length : Int))] at S ⊢
  refine wp_cond_true (S.get 9 _ rfl) (wp_skip ?_)
  replace S := ((S.nil).add (S.get 1 _ rfl)).add (S.get 3 _ rfl)
  refine env_gen (C := fun a => Code.wp Try.prog _ _ a _) S ?_
  clear S; intro a S
  obtain ⟨x, hxi⟩ : ∃ x, L[i]? = some x := ⟨_, List.getElem?_eq_getElem (by omega)⟩
  obtain ⟨p, q, rfl⟩ : ∃ p q, o = some ⟨p, q, none⟩ := by obtain ⟨p, q, _, e, _⟩ := hat i x hxi; exact ⟨p, q, e⟩
  obtain ⟨vi, hp, hi⟩ := led_at (hat i x hxi)
  refine wp_seq (wp_block ?_)
  refine wp_seq (wp_region_list ?_)
  refine wpl_val (v := (.int .i64 0)) (ex_assign (v := (.int .i64 0)) rfl _) ?_
  replace S := S.put (by decide : 4 < 45) (.int .i64 0)
  refine wpl_nil ?_
  replace S := (((S.nil).add (S.get 1 _ rfl)).add (S.get 3 _ rfl)).add (S.get 4 _ rfl)
  refine env_gen (C := fun a => Code.wp Try.prog _ _ a _) S ?_
  clear S; intro a S
  refine wp_block (wp_count i (fun k a W => Env 45 (upd (upd (upd ((fun _ => none)) 1 (.pointer (some ⟨w.heap.size, 0, none⟩))) 3 (.int .i64 i)) 4 (.int .i64 k)) a ∧ allN (prF L i) k = true ∧ Below w.heap.size w W ∧ Box W (w.heap.size) us) ⟨S, rfl, M, B2⟩ ?_)
  clear S M B2
  rintro k a W hik ⟨S, hak, M, B2⟩
  refine wp_seq (wp_seq (wp_region_list ?_))
  refine wpl_val (v := (.int .i64 k)) (ex_move (S.get 4 _ rfl) _) ?_
  replace S := S.put (by decide : 12 < 45) (.int .i64 k)
  refine wpl_val (v := (.int .i64 i)) (ex_move (S.get 3 _ rfl) _) ?_
  replace S := S.put (by decide : 13 < 45) (.int .i64 i)
  refine wpl_val (v := (.bool (decide ((k : Int) < (i : Int))))) (ex_bin (u := (.int .i64 k)) (v := (.int .i64 i)) (S.get 12 _ rfl) (S.get 13 _ rfl) _ (run_lss _)) ?_
  replace S := S.put (by decide : 14 < 45) (.bool (decide ((k : Int) < (i : Int))))
  refine wpl_nil ?_
  by_cases hkl : k < i
  case neg =>
    rw [decide_eq_false (by omega : ¬ (k : Int) < (i : Int))] at S ⊢
    have hki : k = i := by omega
    rw [hki] at hak
    refine wp_cond_false (S.get 14 _ rfl) (wp_exit ?_)
    simp only [Exit.then, Exit.inBlock, if_true]
    replace S := ((S.nil).add (S.get 1 _ rfl)).add (S.get 3 _ rfl)
    refine env_gen (C := fun a => Code.wp Try.prog _ _ a _) S ?_
    clear S; intro a S
    refine wp_region_list ?_
    refine wpl_val (v := (.int .i64 i)) (ex_move (S.get 3 _ rfl) _) ?_
    replace S := S.put (by decide : 10 < 45) (.int .i64 i)
    refine wpl_val (v := (.int .i64 (i + 1))) (ex_bin (u := (.int .i64 i)) (v := (.int .i64 1)) (S.get 10 _ rfl) rfl _ (run_inc _ (by omega) (by omega))) ?_
    replace S := S.put (by decide : 11 < 45) (.int .i64 (i + 1))
    refine wpl_val (v := (.int .i64 (i + 1))) (ex_assign (S.get 11 _ rfl) _) ?_
    replace S := S.put (by decide : 3 < 45) (.int .i64 (i + 1))
    refine wpl_nil ?_
    exact ⟨⟨((S.nil).add (S.get 1 _ rfl)).add (S.get 3 _ rfl), allN_step hall hak, M, B2⟩, hlt⟩
  rw [decide_eq_true (by omega : (k : Int) < (i : Int))] at S ⊢
  refine wp_cond_true (S.get 14 _ rfl) (wp_skip ?_)
  replace S := (((S.nil).add (S.get 1 _ rfl)).add (S.get 3 _ rfl)).add (S.get 4 _ rfl)
  refine env_gen (C := fun a => Code.wp Try.prog _ _ a _) S ?_
  clear S; intro a S
  obtain ⟨y, hyk⟩ : ∃ y, L[k]? = some y := ⟨_, List.getElem?_eq_getElem (by omega)⟩
  obtain ⟨vk, _, hk⟩ := led_at (hat k y hyk)
  have hg := prF_at hxi hyk
  have hkn : k < L.length := by omega
  refine wp_seq (wp_block ?_)
  by_cases h0 : l0 x = l0 y
  case pos =>
    have e0 : (l0 x == l0 y) = true := by simp [h0]
    by_cases h1 : l1 x = l1 y
    case pos =>
      have e1 : (l1 x != l1 y) = false := by simp [h1]
      refine wp_seq ?_
      have hdr : Below W.heap.size W W.drew := (Below.refl _ W).drew
      have B2 := B2.later hdr
      have M := M.trans (hdr.mono M.size)
      have z4 := hdr.size
      clear hdr
      refine wp_region_held_drew (S := fun V => Box V (w.heap.size) us ∧ Below w.heap.size w V) (by kernel_rfl) ⟨B2, M⟩ (fun hS => ?_)
      refine dr_val 0 17 rfl (by kernel_rfl) (fun c a d v w hq => hpan c a d v w hq) (v := (.pointer (some ⟨w.heap.size, 0 + 4, none⟩))) (fun V hV => ex_field (S.get 1 _ rfl) (by kernel_rfl) V) hS ?_
      replace S := S.put (by decide : 17 < 45) (.pointer (some ⟨w.heap.size, 0 + 4, none⟩))
      refine dr_val 1 18 rfl (by kernel_rfl) (fun c a d v w hq => hpan c a d v w hq) (v := (.slice (some ⟨p, q, none⟩) L.length c)) (fun V hV => ex_load (S.get 17 _ rfl) ⟨by kernel_rfl, by kernel_rfl⟩ V (box_at hV.1 k4)) hS ?_
      replace S := S.put (by decide : 18 < 45) (.slice (some ⟨p, q, none⟩) L.length c)
      refine dr_val 2 19 rfl (by kernel_rfl) (fun c a d v w hq => hpan c a d v w hq) (v := (.int .i64 i)) (fun V hV => ex_move (S.get 3 _ rfl) V) hS ?_
      replace S := S.put (by decide : 19 < 45) (.int .i64 i)
      refine dr_val 3 20 rfl (by kernel_rfl) (fun c a d v w hq => hpan c a d v w hq) (v := (.pointer (some ⟨p, q + i * 2, none⟩))) (fun V hV => ex_index (e := 49) (i := i) (k := 2) (by kernel_rfl) (by kernel_rfl) (S.get 18 _ rfl) (S.get 19 _ rfl) hlt V) hS ?_
      replace S := S.put (by decide : 20 < 45) (.pointer (some ⟨p, q + i * 2, none⟩))
      refine dr_val 4 21 rfl (by kernel_rfl) (fun c a d v w hq => hpan c a d v w hq) (v := (.pointer (some ⟨p, q + i * 2 + 0 * 1, none⟩))) (fun V hV => ex_aidx (m := 2) (e := 3) (i := 0) (k := 1) (by kernel_rfl) (by kernel_rfl) (S.get 20 _ rfl) rfl (by decide) V) hS ?_
      replace S := S.put (by decide : 21 < 45) (.pointer (some ⟨p, q + i * 2 + 0 * 1, none⟩))
      refine dr_val 5 22 rfl (by kernel_rfl) (fun c a d v w hq => hpan c a d v w hq) (v := (.int .i64 (l0 x))) (fun V hV => ex_load (S.get 21 _ rfl) ⟨by kernel_rfl, by kernel_rfl⟩ V ((hi.seg.frm (Fr.of hV.2) (Nat.zero_le _) hp) 0 _ hi.c0)) hS ?_
      replace S := S.put (by decide : 22 < 45) (.int .i64 (l0 x))
      refine dr_val 6 23 rfl (by kernel_rfl) (fun c a d v w hq => hpan c a d v w hq) (v := (.pointer (some ⟨w.heap.size, 0 + 4, none⟩))) (fun V hV => ex_field (S.get 1 _ rfl) (by kernel_rfl) V) hS ?_
      replace S := S.put (by decide : 23 < 45) (.pointer (some ⟨w.heap.size, 0 + 4, none⟩))
      refine dr_val 7 24 rfl (by kernel_rfl) (fun c a d v w hq => hpan c a d v w hq) (v := (.slice (some ⟨p, q, none⟩) L.length c)) (fun V hV => ex_load (S.get 23 _ rfl) ⟨by kernel_rfl, by kernel_rfl⟩ V (box_at hV.1 k4)) hS ?_
      replace S := S.put (by decide : 24 < 45) (.slice (some ⟨p, q, none⟩) L.length c)
      refine dr_val 8 25 rfl (by kernel_rfl) (fun c a d v w hq => hpan c a d v w hq) (v := (.int .i64 k)) (fun V hV => ex_move (S.get 4 _ rfl) V) hS ?_
      replace S := S.put (by decide : 25 < 45) (.int .i64 k)
      refine dr_val 9 26 rfl (by kernel_rfl) (fun c a d v w hq => hpan c a d v w hq) (v := (.pointer (some ⟨p, q + k * 2, none⟩))) (fun V hV => ex_index (e := 49) (i := k) (k := 2) (by kernel_rfl) (by kernel_rfl) (S.get 24 _ rfl) (S.get 25 _ rfl) hkn V) hS ?_
      replace S := S.put (by decide : 26 < 45) (.pointer (some ⟨p, q + k * 2, none⟩))
      refine dr_val 10 27 rfl (by kernel_rfl) (fun c a d v w hq => hpan c a d v w hq) (v := (.pointer (some ⟨p, q + k * 2 + 0 * 1, none⟩))) (fun V hV => ex_aidx (m := 2) (e := 3) (i := 0) (k := 1) (by kernel_rfl) (by kernel_rfl) (S.get 26 _ rfl) rfl (by decide) V) hS ?_
      replace S := S.put (by decide : 27 < 45) (.pointer (some ⟨p, q + k * 2 + 0 * 1, none⟩))
      refine dr_val 11 28 rfl (by kernel_rfl) (fun c a d v w hq => hpan c a d v w hq) (v := (.int .i64 (l0 y))) (fun V hV => ex_load (S.get 27 _ rfl) ⟨by kernel_rfl, by kernel_rfl⟩ V ((hk.seg.frm (Fr.of hV.2) (Nat.zero_le _) hp) 0 _ hk.c0)) hS ?_
      replace S := S.put (by decide : 28 < 45) (.int .i64 (l0 y))
      refine dr_val 12 29 rfl (by kernel_rfl) (fun c a d v w hq => hpan c a d v w hq) (v := (.bool true)) (fun V hV => ex_bin (u := (.int .i64 (l0 x))) (v := (.int .i64 (l0 y))) (S.get 22 _ rfl) (S.get 28 _ rfl) V ((run_eqi V).trans (by rw [e0]))) hS ?_
      replace S := S.put (by decide : 29 < 45) (.bool true)
      refine dr_val 13 30 rfl (by kernel_rfl) (fun c a d v w hq => hpan c a d v w hq) (v := (.bool true)) (fun V hV => ex_move (S.get 29 _ rfl) V) hS ?_
      replace S := S.put (by decide : 30 < 45) (.bool true)
      refine env_gen (C := fun a => wpAnyH Try.prog _ _ _ _ _ _ a _) S ?_
      clear S; intro a S
      refine dg_val 14 31 rfl (by kernel_rfl) (fun c a d v w hq => hpan c a d v w hq) (wan_yes (j := 13) (t := 30) (b := true) rfl (S.get 30 _ rfl) (by rw [S.sz]; decide)) (v := (.pointer (some ⟨w.heap.size, 0 + 4, none⟩))) (fun V hV => ex_field (S.get 1 _ rfl) (by kernel_rfl) V) hS ?_
      replace S := S.put (by decide : 31 < 45) (.pointer (some ⟨w.heap.size, 0 + 4, none⟩))
      refine env_gen (C := fun a => wpAnyH Try.prog _ _ _ _ _ _ a _) S ?_
      clear S; intro a S
      refine dg_val 15 32 rfl (by kernel_rfl) (fun c a d v w hq => hpan c a d v w hq) (wan_yes (j := 13) (t := 30) (b := true) rfl (S.get 30 _ rfl) (by rw [S.sz]; decide)) (v := (.slice (some ⟨p, q, none⟩) L.length c)) (fun V hV => ex_load (S.get 31 _ rfl) ⟨by kernel_rfl, by kernel_rfl⟩ V (box_at hV.1 k4)) hS ?_
      replace S := S.put (by decide : 32 < 45) (.slice (some ⟨p, q, none⟩) L.length c)
      refine env_gen (C := fun a => wpAnyH Try.prog _ _ _ _ _ _ a _) S ?_
      clear S; intro a S
      refine dg_val 16 33 rfl (by kernel_rfl) (fun c a d v w hq => hpan c a d v w hq) (wan_yes (j := 13) (t := 30) (b := true) rfl (S.get 30 _ rfl) (by rw [S.sz]; decide)) (v := (.int .i64 i)) (fun V hV => ex_move (S.get 3 _ rfl) V) hS ?_
      replace S := S.put (by decide : 33 < 45) (.int .i64 i)
      refine env_gen (C := fun a => wpAnyH Try.prog _ _ _ _ _ _ a _) S ?_
      clear S; intro a S
      refine dg_val 17 34 rfl (by kernel_rfl) (fun c a d v w hq => hpan c a d v w hq) (wan_yes (j := 13) (t := 30) (b := true) rfl (S.get 30 _ rfl) (by rw [S.sz]; decide)) (v := (.pointer (some ⟨p, q + i * 2, none⟩))) (fun V hV => ex_index (e := 49) (i := i) (k := 2) (by kernel_rfl) (by kernel_rfl) (S.get 32 _ rfl) (S.get 33 _ rfl) hlt V) hS ?_
      replace S := S.put (by decide : 34 < 45) (.pointer (some ⟨p, q + i * 2, none⟩))
      refine env_gen (C := fun a => wpAnyH Try.prog _ _ _ _ _ _ a _) S ?_
      clear S; intro a S
      refine dg_val 18 35 rfl (by kernel_rfl) (fun c a d v w hq => hpan c a d v w hq) (wan_yes (j := 13) (t := 30) (b := true) rfl (S.get 30 _ rfl) (by rw [S.sz]; decide)) (v := (.pointer (some ⟨p, q + i * 2 + 1 * 1, none⟩))) (fun V hV => ex_aidx (m := 2) (e := 3) (i := 1) (k := 1) (by kernel_rfl) (by kernel_rfl) (S.get 34 _ rfl) rfl (by decide) V) hS ?_
      replace S := S.put (by decide : 35 < 45) (.pointer (some ⟨p, q + i * 2 + 1 * 1, none⟩))
      refine env_gen (C := fun a => wpAnyH Try.prog _ _ _ _ _ _ a _) S ?_
      clear S; intro a S
      refine dg_val 19 36 rfl (by kernel_rfl) (fun c a d v w hq => hpan c a d v w hq) (wan_yes (j := 13) (t := 30) (b := true) rfl (S.get 30 _ rfl) (by rw [S.sz]; decide)) (v := (.int .i64 (l1 x))) (fun V hV => ex_load (S.get 35 _ rfl) ⟨by kernel_rfl, by kernel_rfl⟩ V ((hi.seg.frm (Fr.of hV.2) (Nat.zero_le _) hp) 1 _ hi.c1)) hS ?_
      replace S := S.put (by decide : 36 < 45) (.int .i64 (l1 x))
      refine env_gen (C := fun a => wpAnyH Try.prog _ _ _ _ _ _ a _) S ?_
      clear S; intro a S
      refine dg_val 20 37 rfl (by kernel_rfl) (fun c a d v w hq => hpan c a d v w hq) (wan_yes (j := 13) (t := 30) (b := true) rfl (S.get 30 _ rfl) (by rw [S.sz]; decide)) (v := (.pointer (some ⟨w.heap.size, 0 + 4, none⟩))) (fun V hV => ex_field (S.get 1 _ rfl) (by kernel_rfl) V) hS ?_
      replace S := S.put (by decide : 37 < 45) (.pointer (some ⟨w.heap.size, 0 + 4, none⟩))
      refine env_gen (C := fun a => wpAnyH Try.prog _ _ _ _ _ _ a _) S ?_
      clear S; intro a S
      refine dg_val 21 38 rfl (by kernel_rfl) (fun c a d v w hq => hpan c a d v w hq) (wan_yes (j := 13) (t := 30) (b := true) rfl (S.get 30 _ rfl) (by rw [S.sz]; decide)) (v := (.slice (some ⟨p, q, none⟩) L.length c)) (fun V hV => ex_load (S.get 37 _ rfl) ⟨by kernel_rfl, by kernel_rfl⟩ V (box_at hV.1 k4)) hS ?_
      replace S := S.put (by decide : 38 < 45) (.slice (some ⟨p, q, none⟩) L.length c)
      refine env_gen (C := fun a => wpAnyH Try.prog _ _ _ _ _ _ a _) S ?_
      clear S; intro a S
      refine dg_val 22 39 rfl (by kernel_rfl) (fun c a d v w hq => hpan c a d v w hq) (wan_yes (j := 13) (t := 30) (b := true) rfl (S.get 30 _ rfl) (by rw [S.sz]; decide)) (v := (.int .i64 k)) (fun V hV => ex_move (S.get 4 _ rfl) V) hS ?_
      replace S := S.put (by decide : 39 < 45) (.int .i64 k)
      refine env_gen (C := fun a => wpAnyH Try.prog _ _ _ _ _ _ a _) S ?_
      clear S; intro a S
      refine dg_val 23 40 rfl (by kernel_rfl) (fun c a d v w hq => hpan c a d v w hq) (wan_yes (j := 13) (t := 30) (b := true) rfl (S.get 30 _ rfl) (by rw [S.sz]; decide)) (v := (.pointer (some ⟨p, q + k * 2, none⟩))) (fun V hV => ex_index (e := 49) (i := k) (k := 2) (by kernel_rfl) (by kernel_rfl) (S.get 38 _ rfl) (S.get 39 _ rfl) hkn V) hS ?_
      replace S := S.put (by decide : 40 < 45) (.pointer (some ⟨p, q + k * 2, none⟩))
      refine env_gen (C := fun a => wpAnyH Try.prog _ _ _ _ _ _ a _) S ?_
      clear S; intro a S
      refine dg_val 24 41 rfl (by kernel_rfl) (fun c a d v w hq => hpan c a d v w hq) (wan_yes (j := 13) (t := 30) (b := true) rfl (S.get 30 _ rfl) (by rw [S.sz]; decide)) (v := (.pointer (some ⟨p, q + k * 2 + 1 * 1, none⟩))) (fun V hV => ex_aidx (m := 2) (e := 3) (i := 1) (k := 1) (by kernel_rfl) (by kernel_rfl) (S.get 40 _ rfl) rfl (by decide) V) hS ?_
      replace S := S.put (by decide : 41 < 45) (.pointer (some ⟨p, q + k * 2 + 1 * 1, none⟩))
      refine env_gen (C := fun a => wpAnyH Try.prog _ _ _ _ _ _ a _) S ?_
      clear S; intro a S
      refine dg_val 25 42 rfl (by kernel_rfl) (fun c a d v w hq => hpan c a d v w hq) (wan_yes (j := 13) (t := 30) (b := true) rfl (S.get 30 _ rfl) (by rw [S.sz]; decide)) (v := (.int .i64 (l1 y))) (fun V hV => ex_load (S.get 41 _ rfl) ⟨by kernel_rfl, by kernel_rfl⟩ V ((hk.seg.frm (Fr.of hV.2) (Nat.zero_le _) hp) 1 _ hk.c1)) hS ?_
      replace S := S.put (by decide : 42 < 45) (.int .i64 (l1 y))
      refine env_gen (C := fun a => wpAnyH Try.prog _ _ _ _ _ _ a _) S ?_
      clear S; intro a S
      refine dg_val 26 43 rfl (by kernel_rfl) (fun c a d v w hq => hpan c a d v w hq) (wan_yes (j := 13) (t := 30) (b := true) rfl (S.get 30 _ rfl) (by rw [S.sz]; decide)) (v := (.bool false)) (fun V hV => ex_bin (u := (.int .i64 (l1 x))) (v := (.int .i64 (l1 y))) (S.get 36 _ rfl) (S.get 42 _ rfl) V ((run_eqb V).trans (by rw [e1]))) hS ?_
      replace S := S.put (by decide : 43 < 45) (.bool false)
      refine dr_val 27 44 rfl (by kernel_rfl) (fun c a d v w hq => hpan c a d v w hq) (v := (.bool false)) (fun V hV => ex_pickT (v := (.bool false)) (S.get 30 _ rfl) (S.get 43 _ rfl) V) hS ?_
      replace S := S.put (by decide : 44 < 45) (.bool false)
      refine ⟨by kernel_rfl, ?_⟩
      refine wp_cond_false (S.get 44 _ rfl) (wp_skip ?_)
      replace S := (((S.nil).add (S.get 1 _ rfl)).add (S.get 3 _ rfl)).add (S.get 4 _ rfl)
      refine env_gen (C := fun a => Code.wp Try.prog _ _ a _) S ?_
      clear S; intro a S
      refine wp_region_list ?_
      refine wpl_val (v := (.int .i64 k)) (ex_move (S.get 4 _ rfl) _) ?_
      replace S := S.put (by decide : 15 < 45) (.int .i64 k)
      refine wpl_val (v := (.int .i64 (k + 1))) (ex_bin (u := (.int .i64 k)) (v := (.int .i64 1)) (S.get 15 _ rfl) rfl _ (run_inc _ (by omega) (by omega))) ?_
      replace S := S.put (by decide : 16 < 45) (.int .i64 (k + 1))
      refine wpl_val (v := (.int .i64 (k + 1))) (ex_assign (S.get 16 _ rfl) _) ?_
      replace S := S.put (by decide : 4 < 45) (.int .i64 (k + 1))
      refine wpl_nil ?_
      have hgT : prF L i k = true := by rw [hg, e0, e1]; rfl
      exact ⟨⟨(((S.nil).add (S.get 1 _ rfl)).add (S.get 3 _ rfl)).add (S.get 4 _ rfl), allN_step hak hgT, M, B2⟩, hkl⟩
    case neg =>
      have e1 : (l1 x != l1 y) = true := by simp [h1]
      refine wp_seq ?_
      have hdr : Below W.heap.size W W.drew := (Below.refl _ W).drew
      have B2 := B2.later hdr
      have M := M.trans (hdr.mono M.size)
      have z5 := hdr.size
      clear hdr
      refine wp_region_held_drew (S := fun V => Box V (w.heap.size) us ∧ Below w.heap.size w V) (by kernel_rfl) ⟨B2, M⟩ (fun hS => ?_)
      refine dr_val 0 17 rfl (by kernel_rfl) (fun c a d v w hq => hpan c a d v w hq) (v := (.pointer (some ⟨w.heap.size, 0 + 4, none⟩))) (fun V hV => ex_field (S.get 1 _ rfl) (by kernel_rfl) V) hS ?_
      replace S := S.put (by decide : 17 < 45) (.pointer (some ⟨w.heap.size, 0 + 4, none⟩))
      refine dr_val 1 18 rfl (by kernel_rfl) (fun c a d v w hq => hpan c a d v w hq) (v := (.slice (some ⟨p, q, none⟩) L.length c)) (fun V hV => ex_load (S.get 17 _ rfl) ⟨by kernel_rfl, by kernel_rfl⟩ V (box_at hV.1 k4)) hS ?_
      replace S := S.put (by decide : 18 < 45) (.slice (some ⟨p, q, none⟩) L.length c)
      refine dr_val 2 19 rfl (by kernel_rfl) (fun c a d v w hq => hpan c a d v w hq) (v := (.int .i64 i)) (fun V hV => ex_move (S.get 3 _ rfl) V) hS ?_
      replace S := S.put (by decide : 19 < 45) (.int .i64 i)
      refine dr_val 3 20 rfl (by kernel_rfl) (fun c a d v w hq => hpan c a d v w hq) (v := (.pointer (some ⟨p, q + i * 2, none⟩))) (fun V hV => ex_index (e := 49) (i := i) (k := 2) (by kernel_rfl) (by kernel_rfl) (S.get 18 _ rfl) (S.get 19 _ rfl) hlt V) hS ?_
      replace S := S.put (by decide : 20 < 45) (.pointer (some ⟨p, q + i * 2, none⟩))
      refine dr_val 4 21 rfl (by kernel_rfl) (fun c a d v w hq => hpan c a d v w hq) (v := (.pointer (some ⟨p, q + i * 2 + 0 * 1, none⟩))) (fun V hV => ex_aidx (m := 2) (e := 3) (i := 0) (k := 1) (by kernel_rfl) (by kernel_rfl) (S.get 20 _ rfl) rfl (by decide) V) hS ?_
      replace S := S.put (by decide : 21 < 45) (.pointer (some ⟨p, q + i * 2 + 0 * 1, none⟩))
      refine dr_val 5 22 rfl (by kernel_rfl) (fun c a d v w hq => hpan c a d v w hq) (v := (.int .i64 (l0 x))) (fun V hV => ex_load (S.get 21 _ rfl) ⟨by kernel_rfl, by kernel_rfl⟩ V ((hi.seg.frm (Fr.of hV.2) (Nat.zero_le _) hp) 0 _ hi.c0)) hS ?_
      replace S := S.put (by decide : 22 < 45) (.int .i64 (l0 x))
      refine dr_val 6 23 rfl (by kernel_rfl) (fun c a d v w hq => hpan c a d v w hq) (v := (.pointer (some ⟨w.heap.size, 0 + 4, none⟩))) (fun V hV => ex_field (S.get 1 _ rfl) (by kernel_rfl) V) hS ?_
      replace S := S.put (by decide : 23 < 45) (.pointer (some ⟨w.heap.size, 0 + 4, none⟩))
      refine dr_val 7 24 rfl (by kernel_rfl) (fun c a d v w hq => hpan c a d v w hq) (v := (.slice (some ⟨p, q, none⟩) L.length c)) (fun V hV => ex_load (S.get 23 _ rfl) ⟨by kernel_rfl, by kernel_rfl⟩ V (box_at hV.1 k4)) hS ?_
      replace S := S.put (by decide : 24 < 45) (.slice (some ⟨p, q, none⟩) L.length c)
      refine dr_val 8 25 rfl (by kernel_rfl) (fun c a d v w hq => hpan c a d v w hq) (v := (.int .i64 k)) (fun V hV => ex_move (S.get 4 _ rfl) V) hS ?_
      replace S := S.put (by decide : 25 < 45) (.int .i64 k)
      refine dr_val 9 26 rfl (by kernel_rfl) (fun c a d v w hq => hpan c a d v w hq) (v := (.pointer (some ⟨p, q + k * 2, none⟩))) (fun V hV => ex_index (e := 49) (i := k) (k := 2) (by kernel_rfl) (by kernel_rfl) (S.get 24 _ rfl) (S.get 25 _ rfl) hkn V) hS ?_
      replace S := S.put (by decide : 26 < 45) (.pointer (some ⟨p, q + k * 2, none⟩))
      refine dr_val 10 27 rfl (by kernel_rfl) (fun c a d v w hq => hpan c a d v w hq) (v := (.pointer (some ⟨p, q + k * 2 + 0 * 1, none⟩))) (fun V hV => ex_aidx (m := 2) (e := 3) (i := 0) (k := 1) (by kernel_rfl) (by kernel_rfl) (S.get 26 _ rfl) rfl (by decide) V) hS ?_
      replace S := S.put (by decide : 27 < 45) (.pointer (some ⟨p, q + k * 2 + 0 * 1, none⟩))
      refine dr_val 11 28 rfl (by kernel_rfl) (fun c a d v w hq => hpan c a d v w hq) (v := (.int .i64 (l0 y))) (fun V hV => ex_load (S.get 27 _ rfl) ⟨by kernel_rfl, by kernel_rfl⟩ V ((hk.seg.frm (Fr.of hV.2) (Nat.zero_le _) hp) 0 _ hk.c0)) hS ?_
      replace S := S.put (by decide : 28 < 45) (.int .i64 (l0 y))
      refine dr_val 12 29 rfl (by kernel_rfl) (fun c a d v w hq => hpan c a d v w hq) (v := (.bool true)) (fun V hV => ex_bin (u := (.int .i64 (l0 x))) (v := (.int .i64 (l0 y))) (S.get 22 _ rfl) (S.get 28 _ rfl) V ((run_eqi V).trans (by rw [e0]))) hS ?_
      replace S := S.put (by decide : 29 < 45) (.bool true)
      refine dr_val 13 30 rfl (by kernel_rfl) (fun c a d v w hq => hpan c a d v w hq) (v := (.bool true)) (fun V hV => ex_move (S.get 29 _ rfl) V) hS ?_
      replace S := S.put (by decide : 30 < 45) (.bool true)
      refine env_gen (C := fun a => wpAnyH Try.prog _ _ _ _ _ _ a _) S ?_
      clear S; intro a S
      refine dg_val 14 31 rfl (by kernel_rfl) (fun c a d v w hq => hpan c a d v w hq) (wan_yes (j := 13) (t := 30) (b := true) rfl (S.get 30 _ rfl) (by rw [S.sz]; decide)) (v := (.pointer (some ⟨w.heap.size, 0 + 4, none⟩))) (fun V hV => ex_field (S.get 1 _ rfl) (by kernel_rfl) V) hS ?_
      replace S := S.put (by decide : 31 < 45) (.pointer (some ⟨w.heap.size, 0 + 4, none⟩))
      refine env_gen (C := fun a => wpAnyH Try.prog _ _ _ _ _ _ a _) S ?_
      clear S; intro a S
      refine dg_val 15 32 rfl (by kernel_rfl) (fun c a d v w hq => hpan c a d v w hq) (wan_yes (j := 13) (t := 30) (b := true) rfl (S.get 30 _ rfl) (by rw [S.sz]; decide)) (v := (.slice (some ⟨p, q, none⟩) L.length c)) (fun V hV => ex_load (S.get 31 _ rfl) ⟨by kernel_rfl, by kernel_rfl⟩ V (box_at hV.1 k4)) hS ?_
      replace S := S.put (by decide : 32 < 45) (.slice (some ⟨p, q, none⟩) L.length c)
      refine env_gen (C := fun a => wpAnyH Try.prog _ _ _ _ _ _ a _) S ?_
      clear S; intro a S
      refine dg_val 16 33 rfl (by kernel_rfl) (fun c a d v w hq => hpan c a d v w hq) (wan_yes (j := 13) (t := 30) (b := true) rfl (S.get 30 _ rfl) (by rw [S.sz]; decide)) (v := (.int .i64 i)) (fun V hV => ex_move (S.get 3 _ rfl) V) hS ?_
      replace S := S.put (by decide : 33 < 45) (.int .i64 i)
      refine env_gen (C := fun a => wpAnyH Try.prog _ _ _ _ _ _ a _) S ?_
      clear S; intro a S
      refine dg_val 17 34 rfl (by kernel_rfl) (fun c a d v w hq => hpan c a d v w hq) (wan_yes (j := 13) (t := 30) (b := true) rfl (S.get 30 _ rfl) (by rw [S.sz]; decide)) (v := (.pointer (some ⟨p, q + i * 2, none⟩))) (fun V hV => ex_index (e := 49) (i := i) (k := 2) (by kernel_rfl) (by kernel_rfl) (S.get 32 _ rfl) (S.get 33 _ rfl) hlt V) hS ?_
      replace S := S.put (by decide : 34 < 45) (.pointer (some ⟨p, q + i * 2, none⟩))
      refine env_gen (C := fun a => wpAnyH Try.prog _ _ _ _ _ _ a _) S ?_
      clear S; intro a S
      refine dg_val 18 35 rfl (by kernel_rfl) (fun c a d v w hq => hpan c a d v w hq) (wan_yes (j := 13) (t := 30) (b := true) rfl (S.get 30 _ rfl) (by rw [S.sz]; decide)) (v := (.pointer (some ⟨p, q + i * 2 + 1 * 1, none⟩))) (fun V hV => ex_aidx (m := 2) (e := 3) (i := 1) (k := 1) (by kernel_rfl) (by kernel_rfl) (S.get 34 _ rfl) rfl (by decide) V) hS ?_
      replace S := S.put (by decide : 35 < 45) (.pointer (some ⟨p, q + i * 2 + 1 * 1, none⟩))
      refine env_gen (C := fun a => wpAnyH Try.prog _ _ _ _ _ _ a _) S ?_
      clear S; intro a S
      refine dg_val 19 36 rfl (by kernel_rfl) (fun c a d v w hq => hpan c a d v w hq) (wan_yes (j := 13) (t := 30) (b := true) rfl (S.get 30 _ rfl) (by rw [S.sz]; decide)) (v := (.int .i64 (l1 x))) (fun V hV => ex_load (S.get 35 _ rfl) ⟨by kernel_rfl, by kernel_rfl⟩ V ((hi.seg.frm (Fr.of hV.2) (Nat.zero_le _) hp) 1 _ hi.c1)) hS ?_
      replace S := S.put (by decide : 36 < 45) (.int .i64 (l1 x))
      refine env_gen (C := fun a => wpAnyH Try.prog _ _ _ _ _ _ a _) S ?_
      clear S; intro a S
      refine dg_val 20 37 rfl (by kernel_rfl) (fun c a d v w hq => hpan c a d v w hq) (wan_yes (j := 13) (t := 30) (b := true) rfl (S.get 30 _ rfl) (by rw [S.sz]; decide)) (v := (.pointer (some ⟨w.heap.size, 0 + 4, none⟩))) (fun V hV => ex_field (S.get 1 _ rfl) (by kernel_rfl) V) hS ?_
      replace S := S.put (by decide : 37 < 45) (.pointer (some ⟨w.heap.size, 0 + 4, none⟩))
      refine env_gen (C := fun a => wpAnyH Try.prog _ _ _ _ _ _ a _) S ?_
      clear S; intro a S
      refine dg_val 21 38 rfl (by kernel_rfl) (fun c a d v w hq => hpan c a d v w hq) (wan_yes (j := 13) (t := 30) (b := true) rfl (S.get 30 _ rfl) (by rw [S.sz]; decide)) (v := (.slice (some ⟨p, q, none⟩) L.length c)) (fun V hV => ex_load (S.get 37 _ rfl) ⟨by kernel_rfl, by kernel_rfl⟩ V (box_at hV.1 k4)) hS ?_
      replace S := S.put (by decide : 38 < 45) (.slice (some ⟨p, q, none⟩) L.length c)
      refine env_gen (C := fun a => wpAnyH Try.prog _ _ _ _ _ _ a _) S ?_
      clear S; intro a S
      refine dg_val 22 39 rfl (by kernel_rfl) (fun c a d v w hq => hpan c a d v w hq) (wan_yes (j := 13) (t := 30) (b := true) rfl (S.get 30 _ rfl) (by rw [S.sz]; decide)) (v := (.int .i64 k)) (fun V hV => ex_move (S.get 4 _ rfl) V) hS ?_
      replace S := S.put (by decide : 39 < 45) (.int .i64 k)
      refine env_gen (C := fun a => wpAnyH Try.prog _ _ _ _ _ _ a _) S ?_
      clear S; intro a S
      refine dg_val 23 40 rfl (by kernel_rfl) (fun c a d v w hq => hpan c a d v w hq) (wan_yes (j := 13) (t := 30) (b := true) rfl (S.get 30 _ rfl) (by rw [S.sz]; decide)) (v := (.pointer (some ⟨p, q + k * 2, none⟩))) (fun V hV => ex_index (e := 49) (i := k) (k := 2) (by kernel_rfl) (by kernel_rfl) (S.get 38 _ rfl) (S.get 39 _ rfl) hkn V) hS ?_
      replace S := S.put (by decide : 40 < 45) (.pointer (some ⟨p, q + k * 2, none⟩))
      refine env_gen (C := fun a => wpAnyH Try.prog _ _ _ _ _ _ a _) S ?_
      clear S; intro a S
      refine dg_val 24 41 rfl (by kernel_rfl) (fun c a d v w hq => hpan c a d v w hq) (wan_yes (j := 13) (t := 30) (b := true) rfl (S.get 30 _ rfl) (by rw [S.sz]; decide)) (v := (.pointer (some ⟨p, q + k * 2 + 1 * 1, none⟩))) (fun V hV => ex_aidx (m := 2) (e := 3) (i := 1) (k := 1) (by kernel_rfl) (by kernel_rfl) (S.get 40 _ rfl) rfl (by decide) V) hS ?_
      replace S := S.put (by decide : 41 < 45) (.pointer (some ⟨p, q + k * 2 + 1 * 1, none⟩))
      refine env_gen (C := fun a => wpAnyH Try.prog _ _ _ _ _ _ a _) S ?_
      clear S; intro a S
      refine dg_val 25 42 rfl (by kernel_rfl) (fun c a d v w hq => hpan c a d v w hq) (wan_yes (j := 13) (t := 30) (b := true) rfl (S.get 30 _ rfl) (by rw [S.sz]; decide)) (v := (.int .i64 (l1 y))) (fun V hV => ex_load (S.get 41 _ rfl) ⟨by kernel_rfl, by kernel_rfl⟩ V ((hk.seg.frm (Fr.of hV.2) (Nat.zero_le _) hp) 1 _ hk.c1)) hS ?_
      replace S := S.put (by decide : 42 < 45) (.int .i64 (l1 y))
      refine env_gen (C := fun a => wpAnyH Try.prog _ _ _ _ _ _ a _) S ?_
      clear S; intro a S
      refine dg_val 26 43 rfl (by kernel_rfl) (fun c a d v w hq => hpan c a d v w hq) (wan_yes (j := 13) (t := 30) (b := true) rfl (S.get 30 _ rfl) (by rw [S.sz]; decide)) (v := (.bool true)) (fun V hV => ex_bin (u := (.int .i64 (l1 x))) (v := (.int .i64 (l1 y))) (S.get 36 _ rfl) (S.get 42 _ rfl) V ((run_eqb V).trans (by rw [e1]))) hS ?_
      replace S := S.put (by decide : 43 < 45) (.bool true)
      refine dr_val 27 44 rfl (by kernel_rfl) (fun c a d v w hq => hpan c a d v w hq) (v := (.bool true)) (fun V hV => ex_pickT (v := (.bool true)) (S.get 30 _ rfl) (S.get 43 _ rfl) V) hS ?_
      replace S := S.put (by decide : 44 < 45) (.bool true)
      refine ⟨by kernel_rfl, ?_⟩
      refine wp_cond_true (S.get 44 _ rfl) ?_
      refine wp_seq (wp_region_list ?_)
      refine wpl_val (v := (.bool false)) (ex_assign (v := (.bool false)) rfl _) ?_
      replace S := S.put (by decide : 2 < 45) (.bool false)
      refine wpl_nil ?_
      refine wp_ret ?_
      have hgF : oneF L i = false := allN_bad (i := k) (by rw [hg, e0, e1]; rfl) hkl
      exact ret_at (P := Try.prog) (fn := Try.f6) (R := fun e w' => e = .returned (.bool (allN (oneF L) L.length)) ∧ Below w.heap.size w w') S rfl rfl ⟨by rw [allN_bad hgF hlt], M⟩
  case neg =>
    have e0 : (l0 x == l0 y) = false := by simp [h0]
    refine wp_seq ?_
    have hdr : Below W.heap.size W W.drew := (Below.refl _ W).drew
    have B2 := B2.later hdr
    have M := M.trans (hdr.mono M.size)
    have z6 := hdr.size
    clear hdr
    refine wp_region_held_drew (S := fun V => Box V (w.heap.size) us ∧ Below w.heap.size w V) (by kernel_rfl) ⟨B2, M⟩ (fun hS => ?_)
    refine dr_val 0 17 rfl (by kernel_rfl) (fun c a d v w hq => hpan c a d v w hq) (v := (.pointer (some ⟨w.heap.size, 0 + 4, none⟩))) (fun V hV => ex_field (S.get 1 _ rfl) (by kernel_rfl) V) hS ?_
    replace S := S.put (by decide : 17 < 45) (.pointer (some ⟨w.heap.size, 0 + 4, none⟩))
    refine dr_val 1 18 rfl (by kernel_rfl) (fun c a d v w hq => hpan c a d v w hq) (v := (.slice (some ⟨p, q, none⟩) L.length c)) (fun V hV => ex_load (S.get 17 _ rfl) ⟨by kernel_rfl, by kernel_rfl⟩ V (box_at hV.1 k4)) hS ?_
    replace S := S.put (by decide : 18 < 45) (.slice (some ⟨p, q, none⟩) L.length c)
    refine dr_val 2 19 rfl (by kernel_rfl) (fun c a d v w hq => hpan c a d v w hq) (v := (.int .i64 i)) (fun V hV => ex_move (S.get 3 _ rfl) V) hS ?_
    replace S := S.put (by decide : 19 < 45) (.int .i64 i)
    refine dr_val 3 20 rfl (by kernel_rfl) (fun c a d v w hq => hpan c a d v w hq) (v := (.pointer (some ⟨p, q + i * 2, none⟩))) (fun V hV => ex_index (e := 49) (i := i) (k := 2) (by kernel_rfl) (by kernel_rfl) (S.get 18 _ rfl) (S.get 19 _ rfl) hlt V) hS ?_
    replace S := S.put (by decide : 20 < 45) (.pointer (some ⟨p, q + i * 2, none⟩))
    refine dr_val 4 21 rfl (by kernel_rfl) (fun c a d v w hq => hpan c a d v w hq) (v := (.pointer (some ⟨p, q + i * 2 + 0 * 1, none⟩))) (fun V hV => ex_aidx (m := 2) (e := 3) (i := 0) (k := 1) (by kernel_rfl) (by kernel_rfl) (S.get 20 _ rfl) rfl (by decide) V) hS ?_
    replace S := S.put (by decide : 21 < 45) (.pointer (some ⟨p, q + i * 2 + 0 * 1, none⟩))
    refine dr_val 5 22 rfl (by kernel_rfl) (fun c a d v w hq => hpan c a d v w hq) (v := (.int .i64 (l0 x))) (fun V hV => ex_load (S.get 21 _ rfl) ⟨by kernel_rfl, by kernel_rfl⟩ V ((hi.seg.frm (Fr.of hV.2) (Nat.zero_le _) hp) 0 _ hi.c0)) hS ?_
    replace S := S.put (by decide : 22 < 45) (.int .i64 (l0 x))
    refine dr_val 6 23 rfl (by kernel_rfl) (fun c a d v w hq => hpan c a d v w hq) (v := (.pointer (some ⟨w.heap.size, 0 + 4, none⟩))) (fun V hV => ex_field (S.get 1 _ rfl) (by kernel_rfl) V) hS ?_
    replace S := S.put (by decide : 23 < 45) (.pointer (some ⟨w.heap.size, 0 + 4, none⟩))
    refine dr_val 7 24 rfl (by kernel_rfl) (fun c a d v w hq => hpan c a d v w hq) (v := (.slice (some ⟨p, q, none⟩) L.length c)) (fun V hV => ex_load (S.get 23 _ rfl) ⟨by kernel_rfl, by kernel_rfl⟩ V (box_at hV.1 k4)) hS ?_
    replace S := S.put (by decide : 24 < 45) (.slice (some ⟨p, q, none⟩) L.length c)
    refine dr_val 8 25 rfl (by kernel_rfl) (fun c a d v w hq => hpan c a d v w hq) (v := (.int .i64 k)) (fun V hV => ex_move (S.get 4 _ rfl) V) hS ?_
    replace S := S.put (by decide : 25 < 45) (.int .i64 k)
    refine dr_val 9 26 rfl (by kernel_rfl) (fun c a d v w hq => hpan c a d v w hq) (v := (.pointer (some ⟨p, q + k * 2, none⟩))) (fun V hV => ex_index (e := 49) (i := k) (k := 2) (by kernel_rfl) (by kernel_rfl) (S.get 24 _ rfl) (S.get 25 _ rfl) hkn V) hS ?_
    replace S := S.put (by decide : 26 < 45) (.pointer (some ⟨p, q + k * 2, none⟩))
    refine dr_val 10 27 rfl (by kernel_rfl) (fun c a d v w hq => hpan c a d v w hq) (v := (.pointer (some ⟨p, q + k * 2 + 0 * 1, none⟩))) (fun V hV => ex_aidx (m := 2) (e := 3) (i := 0) (k := 1) (by kernel_rfl) (by kernel_rfl) (S.get 26 _ rfl) rfl (by decide) V) hS ?_
    replace S := S.put (by decide : 27 < 45) (.pointer (some ⟨p, q + k * 2 + 0 * 1, none⟩))
    refine dr_val 11 28 rfl (by kernel_rfl) (fun c a d v w hq => hpan c a d v w hq) (v := (.int .i64 (l0 y))) (fun V hV => ex_load (S.get 27 _ rfl) ⟨by kernel_rfl, by kernel_rfl⟩ V ((hk.seg.frm (Fr.of hV.2) (Nat.zero_le _) hp) 0 _ hk.c0)) hS ?_
    replace S := S.put (by decide : 28 < 45) (.int .i64 (l0 y))
    refine dr_val 12 29 rfl (by kernel_rfl) (fun c a d v w hq => hpan c a d v w hq) (v := (.bool false)) (fun V hV => ex_bin (u := (.int .i64 (l0 x))) (v := (.int .i64 (l0 y))) (S.get 22 _ rfl) (S.get 28 _ rfl) V ((run_eqi V).trans (by rw [e0]))) hS ?_
    replace S := S.put (by decide : 29 < 45) (.bool false)
    refine dr_val 13 30 rfl (by kernel_rfl) (fun c a d v w hq => hpan c a d v w hq) (v := (.bool false)) (fun V hV => ex_move (S.get 29 _ rfl) V) hS ?_
    replace S := S.put (by decide : 30 < 45) (.bool false)
    refine env_gen (C := fun a => wpAnyH Try.prog _ _ _ _ _ _ a _) S ?_
    clear S; intro a S
    refine dg_skip 14 31 rfl (by kernel_rfl) (fun c a d v w hq => hpan c a d v w hq) (wan_no (j := 13) (t := 30) (b := true) (c := false) rfl (S.get 30 _ rfl) (by decide)) hS ?_
    replace S := S.put (by decide : 31 < 45) undef
    refine env_gen (C := fun a => wpAnyH Try.prog _ _ _ _ _ _ a _) S ?_
    clear S; intro a S
    refine dg_skip 15 32 rfl (by kernel_rfl) (fun c a d v w hq => hpan c a d v w hq) (wan_no (j := 13) (t := 30) (b := true) (c := false) rfl (S.get 30 _ rfl) (by decide)) hS ?_
    replace S := S.put (by decide : 32 < 45) undef
    refine env_gen (C := fun a => wpAnyH Try.prog _ _ _ _ _ _ a _) S ?_
    clear S; intro a S
    refine dg_skip 16 33 rfl (by kernel_rfl) (fun c a d v w hq => hpan c a d v w hq) (wan_no (j := 13) (t := 30) (b := true) (c := false) rfl (S.get 30 _ rfl) (by decide)) hS ?_
    replace S := S.put (by decide : 33 < 45) undef
    refine env_gen (C := fun a => wpAnyH Try.prog _ _ _ _ _ _ a _) S ?_
    clear S; intro a S
    refine dg_skip 17 34 rfl (by kernel_rfl) (fun c a d v w hq => hpan c a d v w hq) (wan_no (j := 13) (t := 30) (b := true) (c := false) rfl (S.get 30 _ rfl) (by decide)) hS ?_
    replace S := S.put (by decide : 34 < 45) undef
    refine env_gen (C := fun a => wpAnyH Try.prog _ _ _ _ _ _ a _) S ?_
    clear S; intro a S
    refine dg_skip 18 35 rfl (by kernel_rfl) (fun c a d v w hq => hpan c a d v w hq) (wan_no (j := 13) (t := 30) (b := true) (c := false) rfl (S.get 30 _ rfl) (by decide)) hS ?_
    replace S := S.put (by decide : 35 < 45) undef
    refine env_gen (C := fun a => wpAnyH Try.prog _ _ _ _ _ _ a _) S ?_
    clear S; intro a S
    refine dg_skip 19 36 rfl (by kernel_rfl) (fun c a d v w hq => hpan c a d v w hq) (wan_no (j := 13) (t := 30) (b := true) (c := false) rfl (S.get 30 _ rfl) (by decide)) hS ?_
    replace S := S.put (by decide : 36 < 45) undef
    refine env_gen (C := fun a => wpAnyH Try.prog _ _ _ _ _ _ a _) S ?_
    clear S; intro a S
    refine dg_skip 20 37 rfl (by kernel_rfl) (fun c a d v w hq => hpan c a d v w hq) (wan_no (j := 13) (t := 30) (b := true) (c := false) rfl (S.get 30 _ rfl) (by decide)) hS ?_
    replace S := S.put (by decide : 37 < 45) undef
    refine env_gen (C := fun a => wpAnyH Try.prog _ _ _ _ _ _ a _) S ?_
    clear S; intro a S
    refine dg_skip 21 38 rfl (by kernel_rfl) (fun c a d v w hq => hpan c a d v w hq) (wan_no (j := 13) (t := 30) (b := true) (c := false) rfl (S.get 30 _ rfl) (by decide)) hS ?_
    replace S := S.put (by decide : 38 < 45) undef
    refine env_gen (C := fun a => wpAnyH Try.prog _ _ _ _ _ _ a _) S ?_
    clear S; intro a S
    refine dg_skip 22 39 rfl (by kernel_rfl) (fun c a d v w hq => hpan c a d v w hq) (wan_no (j := 13) (t := 30) (b := true) (c := false) rfl (S.get 30 _ rfl) (by decide)) hS ?_
    replace S := S.put (by decide : 39 < 45) undef
    refine env_gen (C := fun a => wpAnyH Try.prog _ _ _ _ _ _ a _) S ?_
    clear S; intro a S
    refine dg_skip 23 40 rfl (by kernel_rfl) (fun c a d v w hq => hpan c a d v w hq) (wan_no (j := 13) (t := 30) (b := true) (c := false) rfl (S.get 30 _ rfl) (by decide)) hS ?_
    replace S := S.put (by decide : 40 < 45) undef
    refine env_gen (C := fun a => wpAnyH Try.prog _ _ _ _ _ _ a _) S ?_
    clear S; intro a S
    refine dg_skip 24 41 rfl (by kernel_rfl) (fun c a d v w hq => hpan c a d v w hq) (wan_no (j := 13) (t := 30) (b := true) (c := false) rfl (S.get 30 _ rfl) (by decide)) hS ?_
    replace S := S.put (by decide : 41 < 45) undef
    refine env_gen (C := fun a => wpAnyH Try.prog _ _ _ _ _ _ a _) S ?_
    clear S; intro a S
    refine dg_skip 25 42 rfl (by kernel_rfl) (fun c a d v w hq => hpan c a d v w hq) (wan_no (j := 13) (t := 30) (b := true) (c := false) rfl (S.get 30 _ rfl) (by decide)) hS ?_
    replace S := S.put (by decide : 42 < 45) undef
    refine env_gen (C := fun a => wpAnyH Try.prog _ _ _ _ _ _ a _) S ?_
    clear S; intro a S
    refine dg_skip 26 43 rfl (by kernel_rfl) (fun c a d v w hq => hpan c a d v w hq) (wan_no (j := 13) (t := 30) (b := true) (c := false) rfl (S.get 30 _ rfl) (by decide)) hS ?_
    replace S := S.put (by decide : 43 < 45) undef
    refine dr_val 27 44 rfl (by kernel_rfl) (fun c a d v w hq => hpan c a d v w hq) (v := (.bool false)) (fun V hV => ex_pickF (v := (.bool false)) (S.get 30 _ rfl) rfl V) hS ?_
    replace S := S.put (by decide : 44 < 45) (.bool false)
    refine ⟨by kernel_rfl, ?_⟩
    refine wp_cond_false (S.get 44 _ rfl) (wp_skip ?_)
    replace S := (((S.nil).add (S.get 1 _ rfl)).add (S.get 3 _ rfl)).add (S.get 4 _ rfl)
    refine env_gen (C := fun a => Code.wp Try.prog _ _ a _) S ?_
    clear S; intro a S
    refine wp_region_list ?_
    refine wpl_val (v := (.int .i64 k)) (ex_move (S.get 4 _ rfl) _) ?_
    replace S := S.put (by decide : 15 < 45) (.int .i64 k)
    refine wpl_val (v := (.int .i64 (k + 1))) (ex_bin (u := (.int .i64 k)) (v := (.int .i64 1)) (S.get 15 _ rfl) rfl _ (run_inc _ (by omega) (by omega))) ?_
    replace S := S.put (by decide : 16 < 45) (.int .i64 (k + 1))
    refine wpl_val (v := (.int .i64 (k + 1))) (ex_assign (S.get 16 _ rfl) _) ?_
    replace S := S.put (by decide : 4 < 45) (.int .i64 (k + 1))
    refine wpl_nil ?_
    have hgT : prF L i k = true := by rw [hg, e0]; rfl
    exact ⟨⟨(((S.nil).add (S.get 1 _ rfl)).add (S.get 3 _ rfl)).add (S.get 4 _ rfl), allN_step hak hgT, M, B2⟩, hkl⟩

end Go.Proofs.Ytjiplphfpkhmpaa
