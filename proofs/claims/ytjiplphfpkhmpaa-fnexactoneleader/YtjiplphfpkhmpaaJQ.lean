/-
  The program's OneLeader.
-/
import Derived.Test.YtjiplphfpkhmpaaJO
namespace Go.Proofs.Ytjiplphfpkhmpaa
open Go.RowKit Go.Maps

set_option maxRecDepth 20000 in
set_option maxHeartbeats 8000000 in
theorem iOne_m (us : List Value) (L : List (List Int)) (o : Option Addr) (c : Nat) (p0 : Nat) (w : World) (k4 : us[4]? = some (.slice o L.length c)) (hn : L.length ≤ 1048576) (hat : ∀ j y, L[j]? = some y → At cIntA2 w 0 o j y) (B0 : Box w p0 us) (hp0 : p0 < w.heap.size) (hwf : ∀ (j : Nat) (y : List Int), L[j]? = some y → (Lit.int .i64 (l0 y)).wf = true ∧ (Lit.int .i64 (l1 y)).wf = true) :
    Calls Try.prog 24 #[.pointer (some ⟨p0, 0, none⟩)] w fun e w' => e = .returned (.bool (allN (oneF L) L.length)) ∧ Below w.heap.size w w' := by
  refine calls_of_wp Try.func24 rfl ?_
  have hpan := pan_body (P := Try.prog) (fn := Try.f24) (R := fun e w' => e = .returned (.bool (allN (oneF L) L.length)) ∧ Below w.heap.size w w')
  refine env1 (N := 40) rfl (by decide) ?_
  intro a S
  have M : Below w.heap.size w w := Below.refl _ _
  refine wp_seq (wp_region_list ?_)
  refine wpl_val (v := (.bool false)) (ex_assign (v := (.bool false)) rfl _) ?_
  replace S := S.put (by decide : 2 < 40) (.bool false)
  refine wpl_nil ?_
  replace S := (S.nil).add (S.get 0 _ rfl)
  refine env_gen (C := fun a => Code.wp Try.prog _ _ a _) S ?_
  clear S; intro a S
  refine wp_seq (wp_region_list ?_)
  refine wpl_mkmap 3 (plainElem Try.prog 3) ?_
  intro V1 HM hm1
  obtain ⟨b, eb⟩ : ∃ b, b = w.heap.size := ⟨_, rfl⟩
  rw [← eb] at HM
  have B0 := B0.later hm1
  have M := M.trans (hm1.mono M.size)
  replace S := S.put (by decide : 10 < 40) (.map (some w.heap.size))
  refine wpl_val (v := (.map (some w.heap.size))) (ex_assign (S.get 10 _ rfl) _) ?_
  replace S := S.put (by decide : 3 < 40) (.map (some w.heap.size))
  refine wpl_nil ?_
  replace S := ((S.nil).add (S.get 0 _ rfl)).add (S.get 3 _ rfl)
  refine env_gen (C := fun a => Code.wp Try.prog _ _ a _) S ?_
  clear S; intro a S
  rw [← eb] at S
  refine wp_seq (wp_seq (wp_region_list ?_))
  refine wpl_val (v := (.pointer (some ⟨p0, 0, none⟩))) (ex_move (S.get 0 _ rfl) _) ?_
  replace S := S.put (by decide : 11 < 40) (.pointer (some ⟨p0, 0, none⟩))
  refine wpl_val (v := (.pointer (some ⟨p0, 0, none⟩))) (ex_nil (S.get 11 _ rfl) _) ?_
  replace S := S.put (by decide : 12 < 40) (.pointer (some ⟨p0, 0, none⟩))
  refine wpl_val (v := (.pointer (some ⟨p0, 0 + 4, none⟩))) (ex_field (S.get 12 _ rfl) (by kernel_rfl) _) ?_
  replace S := S.put (by decide : 13 < 40) (.pointer (some ⟨p0, 0 + 4, none⟩))
  refine wpl_val (v := (.slice o L.length c)) (ex_load (S.get 13 _ rfl) ⟨by kernel_rfl, by kernel_rfl⟩ _ (box_at B0 k4)) ?_
  replace S := S.put (by decide : 14 < 40) (.slice o L.length c)
  refine wpl_val (v := (.int .i64 L.length)) (ex_len (by kernel_rfl) (S.get 14 _ rfl) _) ?_
  replace S := S.put (by decide : 15 < 40) (.int .i64 L.length)
  refine wpl_val (v := (.int .i64 0)) (ex_move (v := (.int .i64 0)) rfl _) ?_
  replace S := S.put (by decide : 16 < 40) (.int .i64 0)
  refine wpl_nil ?_
  replace S := (((((S.nil).add (S.get 0 _ rfl)).add (S.get 3 _ rfl)).add (S.get 14 _ rfl)).add (S.get 15 _ rfl)).add (S.get 16 _ rfl)
  refine env_gen (C := fun a => Code.wp Try.prog _ _ a _) S ?_
  clear S; intro a S
  have hb0 : p0 < b := by rw [eb]; exact hp0
  refine wp_block (wp_count L.length (fun i a W => Env 40 (upd (upd (upd (upd (upd ((fun _ => none)) 0 (.pointer (some ⟨p0, 0, none⟩))) 3 (.map (some b))) 14 (.slice o L.length c)) 15 (.int .i64 L.length)) 16 (.int .i64 i)) a ∧ allN (oneF L) i = true ∧ Below w.heap.size w W ∧ Box W p0 us ∧ ∃ D, W.ownsMap Try.prog 3 (plainElem Try.prog 3) b i D ∧ HasL D L i) ⟨S, rfl, M, B0, _, HM, HasL.zero L⟩ ?_)
  clear S M B0 HM hm1
  rintro i a W hin ⟨S, hall, M, B0, D, HM, HD⟩
  refine wp_seq (wp_region_list ?_)
  refine wpl_val (v := (.bool (decide ((i : Int) < (L.length : Int))))) (ex_bin (u := (.int .i64 i)) (v := (.int .i64 L.length)) (S.get 16 _ rfl) (S.get 15 _ rfl) _ (run_lss _)) ?_
  replace S := S.put (by decide : 17 < 40) (.bool (decide ((i : Int) < (L.length : Int))))
  refine wpl_nil ?_
  by_cases hlt : i < L.length
  case neg =>
    rw [decide_eq_false (by omega : ¬ (i : Int) < (L.length : Int))] at S ⊢
    have hiR : i = L.length := by omega
    refine wp_seq (wp_cond_false (S.get 17 _ rfl) (wp_exit ?_))
    simp only [Exit.then, Exit.inBlock, if_true]
    refine wp_seq (wp_region_list ?_)
    refine wpl_val (v := (.bool true)) (ex_assign (v := (.bool true)) rfl _) ?_
    replace S := S.put (by decide : 2 < 40) (.bool true)
    refine wpl_nil ?_
    refine wp_ret ?_
    rw [hiR] at hall
    exact ret_at (P := Try.prog) (fn := Try.f24) (R := fun e w' => e = .returned (.bool (allN (oneF L) L.length)) ∧ Below w.heap.size w w') S rfl rfl ⟨by rw [hall], M⟩
  rw [decide_eq_true (by omega : (i : Int) < (L.length : Int))] at S ⊢
  refine wp_seq (wp_cond_true (S.get 17 _ rfl) (wp_skip ?_))
  replace S := (((((S.nil).add (S.get 0 _ rfl)).add (S.get 3 _ rfl)).add (S.get 14 _ rfl)).add (S.get 15 _ rfl)).add (S.get 16 _ rfl)
  refine env_gen (C := fun a => Code.wp Try.prog _ _ a _) S ?_
  clear S; intro a S
  obtain ⟨x, hxi⟩ : ∃ x, L[i]? = some x := ⟨_, List.getElem?_eq_getElem (by omega)⟩
  obtain ⟨p, q, rfl⟩ : ∃ p q, o = some ⟨p, q, none⟩ := by obtain ⟨p, q, _, e, _⟩ := hat i x hxi; exact ⟨p, q, e⟩
  obtain ⟨vi, hp, hi⟩ := led_at (hat i x hxi)
  obtain ⟨hw0, hw1⟩ := hwf i x hxi
  refine wp_seq (wp_block ?_)
  refine wp_seq (wp_region_list ?_)
  refine wpl_val (v := (.pointer (some ⟨p, q + i * 2, none⟩))) (ex_index (e := 49) (i := i) (k := 2) (by kernel_rfl) (by kernel_rfl) (S.get 14 _ rfl) (S.get 16 _ rfl) hlt _) ?_
  replace S := S.put (by decide : 18 < 40) (.pointer (some ⟨p, q + i * 2, none⟩))
  refine wpl_val (v := (.agg (List.toArray vi))) (ex_agg (us := vi) (S.get 18 _ rfl) ⟨by kernel_rfl, by kernel_rfl⟩ hi.len _ (hi.seg.frm (Fr.of M) (Nat.zero_le _) hp)) ?_
  replace S := S.put (by decide : 19 < 40) (.agg (List.toArray vi))
  refine wpl_alloc (zs := [.int .i64 0, .int .i64 0]) (z := .agg #[.int .i64 0, .int .i64 0]) (by kernel_rfl) rfl ?_
  intro X3 B1 l4 n5
  have p2 : ∃ p, p = W.heap.size := ⟨_, rfl⟩
  obtain ⟨p2, ep2⟩ := p2
  rw [← ep2] at B1 ⊢
  replace S := S.put (by decide : 5 < 40) (.pointer (some ⟨p2, 0, none⟩))
  refine wpl_store (off := 0) (n := 2) rfl 49 (.tmp 5) (.tmp 19) rfl (S.get 5 _ rfl) (S.get 19 _ rfl) vi [] ([.int .i64 0, .int .i64 0]) [] rfl hi.one (by kernel_rfl) hi.len (by rw [List.append_nil]; exact B1) rfl rfl ?_
  intro U6 B1 g7 _
  rw [List.nil_append, List.append_nil] at B1
  rw [put_none]
  have h8 : Below W.heap.size W U6 := l4.grown g7 l4.size (fun q hq => by have := Option.some.inj hq; omega)
  have B0 := B0.later h8
  have M := M.trans (h8.mono M.size)
  replace HM := own_later HM h8
  have z9 := h8.size
  refine wpl_nil ?_
  replace S := ((((((S.nil).add (S.get 0 _ rfl)).add (S.get 3 _ rfl)).add (S.get 5 _ rfl)).add (S.get 14 _ rfl)).add (S.get 15 _ rfl)).add (S.get 16 _ rfl)
  refine env_gen (C := fun a => Code.wp Try.prog _ _ a _) S ?_
  clear S; intro a S
  refine wp_seq ?_
  have hdr : Below U6.heap.size U6 U6.drew := (Below.refl _ U6).drew
  have B0 := B0.later hdr
  have B1 := B1.later hdr
  have M := M.trans (hdr.mono M.size)
  replace HM := own_later HM hdr
  have z10 := hdr.size
  clear hdr
  refine wp_region_held_drew (S := fun V => Box V p2 vi) (by kernel_rfl) B1 (fun hS => ?_)
  refine dr_val 0 20 rfl (by kernel_rfl) (fun c a d v w hq => hpan c a d v w hq) (v := (.pointer (some ⟨p2, 0 + 0 * 1, none⟩))) (fun V hV => ex_aidx (m := 2) (e := 3) (i := 0) (k := 1) (by kernel_rfl) (by kernel_rfl) (S.get 5 _ rfl) rfl (by decide) V) hS ?_
  replace S := S.put (by decide : 20 < 40) (.pointer (some ⟨p2, 0 + 0 * 1, none⟩))
  refine dr_val 1 21 rfl (by kernel_rfl) (fun c a d v w hq => hpan c a d v w hq) (v := (.int .i64 (l0 x))) (fun V hV => ex_load (S.get 20 _ rfl) ⟨by kernel_rfl, by kernel_rfl⟩ V (box_at hV hi.c0)) hS ?_
  replace S := S.put (by decide : 21 < 40) (.int .i64 (l0 x))
  refine dr_val 2 22 rfl (by kernel_rfl) (fun c a d v w hq => hpan c a d v w hq) (v := (.pointer (some ⟨p2, 0 + 1 * 1, none⟩))) (fun V hV => ex_aidx (m := 2) (e := 3) (i := 1) (k := 1) (by kernel_rfl) (by kernel_rfl) (S.get 5 _ rfl) rfl (by decide) V) hS ?_
  replace S := S.put (by decide : 22 < 40) (.pointer (some ⟨p2, 0 + 1 * 1, none⟩))
  refine dr_val 3 23 rfl (by kernel_rfl) (fun c a d v w hq => hpan c a d v w hq) (v := (.int .i64 (l1 x))) (fun V hV => ex_load (S.get 22 _ rfl) ⟨by kernel_rfl, by kernel_rfl⟩ V (box_at hV hi.c1)) hS ?_
  replace S := S.put (by decide : 23 < 40) (.int .i64 (l1 x))
  refine dr_val 4 6 rfl (by kernel_rfl) (fun c a d v w hq => hpan c a d v w hq) (v := (.int .i64 (l0 x))) (fun V hV => ex_assign (S.get 21 _ rfl) V) hS ?_
  replace S := S.put (by decide : 6 < 40) (.int .i64 (l0 x))
  refine dr_val 5 7 rfl (by kernel_rfl) (fun c a d v w hq => hpan c a d v w hq) (v := (.int .i64 (l1 x))) (fun V hV => ex_assign (S.get 23 _ rfl) V) hS ?_
  replace S := S.put (by decide : 7 < 40) (.int .i64 (l1 x))
  refine ⟨by kernel_rfl, ?_⟩
  replace S := (((((((S.nil).add (S.get 0 _ rfl)).add (S.get 3 _ rfl)).add (S.get 6 _ rfl)).add (S.get 7 _ rfl)).add (S.get 14 _ rfl)).add (S.get 15 _ rfl)).add (S.get 16 _ rfl)
  refine env_gen (C := fun a => Code.wp Try.prog _ _ a _) S ?_
  clear S; intro a S
  refine wp_seq (wp_region_list ?_)
  refine wpl_val (v := (.map (some b))) (ex_move (S.get 3 _ rfl) _) ?_
  replace S := S.put (by decide : 25 < 40) (.map (some b))
  refine wpl_val (v := (.int .i64 (l0 x))) (ex_move (S.get 6 _ rfl) _) ?_
  replace S := S.put (by decide : 26 < 40) (.int .i64 (l0 x))
  refine wpList_lookup_own_ok_int _ rfl _ _ 121 rfl 3 3 .i64 Try.lawInt Try.underlying121 Try.underlying3 (Try.zeroInt _) b i D (S.get 25 _ rfl) HM _ _ (S.get 26 _ rfl) (keyOf_int_mk Try.underlying3 hw0) ?_
  intro cc hcc _
  replace S := S.put (by decide : 27 < 40) (.tuple #[.int .i64 cc, .bool (Maps.has D (.int .i64 (l0 x)))])
  refine wpl_val (v := (.tuple #[.int .i64 cc, .bool (Maps.has D (.int .i64 (l0 x)))])) (ex_move (S.get 27 _ rfl) _) ?_
  replace S := S.put (by decide : 24 < 40) (.tuple #[.int .i64 cc, .bool (Maps.has D (.int .i64 (l0 x)))])
  refine wpl_val (v := (.int .i64 cc)) (ex_ext0 (S.get 24 _ rfl) _) ?_
  replace S := S.put (by decide : 28 < 40) (.int .i64 cc)
  refine wpl_val (v := (.bool (Maps.has D (.int .i64 (l0 x))))) (ex_ext1 (S.get 24 _ rfl) _) ?_
  replace S := S.put (by decide : 29 < 40) (.bool (Maps.has D (.int .i64 (l0 x))))
  refine wpl_val (v := (.int .i64 cc)) (ex_assign (S.get 28 _ rfl) _) ?_
  replace S := S.put (by decide : 8 < 40) (.int .i64 cc)
  refine wpl_val (v := (.bool (Maps.has D (.int .i64 (l0 x))))) (ex_assign (S.get 29 _ rfl) _) ?_
  replace S := S.put (by decide : 9 < 40) (.bool (Maps.has D (.int .i64 (l0 x))))
  refine wpl_nil ?_
  replace S := (((((((((S.nil).add (S.get 0 _ rfl)).add (S.get 3 _ rfl)).add (S.get 6 _ rfl)).add (S.get 7 _ rfl)).add (S.get 8 _ rfl)).add (S.get 9 _ rfl)).add (S.get 14 _ rfl)).add (S.get 15 _ rfl)).add (S.get 16 _ rfl)
  refine env_gen (C := fun a => Code.wp Try.prog _ _ a _) S ?_
  clear S; intro a S
  generalize hfd : Maps.has D (.int .i64 (l0 x)) = fd at *
  cases fd
  case false =>
    refine wp_seq (wp_seq (wp_region_list ?_))
    refine wpl_val (v := (.bool false)) (ex_move (S.get 9 _ rfl) _) ?_
    replace S := S.put (by decide : 30 < 40) (.bool false)
    refine wpl_val (v := (.bool false)) (ex_move (S.get 30 _ rfl) _) ?_
    replace S := S.put (by decide : 31 < 40) (.bool false)
    refine env_gen (C := fun a => wpList Try.prog _ _ _ a _) S ?_
    clear S; intro a S
    refine wg_skip (wan_no (j := 1) (t := 31) (b := true) (c := false) rfl (S.get 31 _ rfl) (by decide)) ?_
    replace S := S.put (by decide : 32 < 40) undef
    refine env_gen (C := fun a => wpList Try.prog _ _ _ a _) S ?_
    clear S; intro a S
    refine wg_skip (wan_no (j := 1) (t := 31) (b := true) (c := false) rfl (S.get 31 _ rfl) (by decide)) ?_
    replace S := S.put (by decide : 33 < 40) undef
    refine env_gen (C := fun a => wpList Try.prog _ _ _ a _) S ?_
    clear S; intro a S
    refine wg_skip (wan_no (j := 1) (t := 31) (b := true) (c := false) rfl (S.get 31 _ rfl) (by decide)) ?_
    replace S := S.put (by decide : 34 < 40) undef
    refine wpl_val (v := (.bool false)) (ex_pickF (v := (.bool false)) (S.get 31 _ rfl) rfl _) ?_
    replace S := S.put (by decide : 35 < 40) (.bool false)
    refine wpl_nil ?_
    refine wp_cond_false (S.get 35 _ rfl) (wp_skip ?_)
    replace S := (((((((S.nil).add (S.get 0 _ rfl)).add (S.get 3 _ rfl)).add (S.get 6 _ rfl)).add (S.get 7 _ rfl)).add (S.get 14 _ rfl)).add (S.get 15 _ rfl)).add (S.get 16 _ rfl)
    refine env_gen (C := fun a => Code.wp Try.prog _ _ a _) S ?_
    clear S; intro a S
    obtain ⟨hgT, HD9⟩ := HD.good hxi hcc (Or.inl hfd)
    have hbW : w.heap.size ≤ b := by omega
    refine wp_region_list ?_
    refine wpl_val (v := (.map (some b))) (ex_move (S.get 3 _ rfl) _) ?_
    replace S := S.put (by decide : 36 < 40) (.map (some b))
    refine wpl_val (v := (.int .i64 (l0 x))) (ex_move (S.get 6 _ rfl) _) ?_
    replace S := S.put (by decide : 37 < 40) (.int .i64 (l0 x))
    refine wpl_val (v := (.int .i64 (l1 x))) (ex_move (S.get 7 _ rfl) _) ?_
    replace S := S.put (by decide : 38 < 40) (.int .i64 (l1 x))
    refine wpList_mapUpdate_own _ rfl _ _ _ 121 rfl 3 3 Try.lawInt Try.underlying121 _ b i D (S.get 36 _ rfl) HM (by unfold maxLen; omega) _ _ (.int .i64 (l0 x)) (S.get 37 _ rfl) (S.get 38 _ rfl) (keyOf_int_mk Try.underlying3 hw0) _ [] (plainElem_int Try.underlying3 hw1) ?_
    intro W9 HM9 hg9
    rw [put_none]
    replace M := M.grown hg9 M.size (fun q hq => by have := Option.some.inj hq; omega)
    replace B0 := B0.other hg9 (by omega)
    refine wpl_nil ?_
    replace S := (((((S.nil).add (S.get 0 _ rfl)).add (S.get 3 _ rfl)).add (S.get 14 _ rfl)).add (S.get 15 _ rfl)).add (S.get 16 _ rfl)
    refine env_gen (C := fun a => Code.wp Try.prog _ _ a _) S ?_
    clear S; intro a S
    refine wp_region_list ?_
    refine wpl_val (v := (.int .i64 (i + 1))) (ex_bin (u := (.int .i64 i)) (v := (.int .i64 1)) (S.get 16 _ rfl) rfl _ (run_inc _ (by omega) (by omega))) ?_
    replace S := S.put (by decide : 39 < 40) (.int .i64 (i + 1))
    refine wpl_val (v := (.int .i64 (i + 1))) (ex_move (S.get 39 _ rfl) _) ?_
    replace S := S.put (by decide : 16 < 40) (.int .i64 (i + 1))
    refine wpl_nil ?_
    exact ⟨⟨(((((S.nil).add (S.get 0 _ rfl)).add (S.get 3 _ rfl)).add (S.get 14 _ rfl)).add (S.get 15 _ rfl)).add (S.get 16 _ rfl), allN_step hall hgT, M, B0, _, HM9, HD9⟩, hlt⟩
  by_cases heq : cc = l1 x
  case pos =>
    have e1 : (cc != l1 x) = false := by simp [heq]
    refine wp_seq (wp_seq (wp_region_list ?_))
    refine wpl_val (v := (.bool true)) (ex_move (S.get 9 _ rfl) _) ?_
    replace S := S.put (by decide : 30 < 40) (.bool true)
    refine wpl_val (v := (.bool true)) (ex_move (S.get 30 _ rfl) _) ?_
    replace S := S.put (by decide : 31 < 40) (.bool true)
    refine env_gen (C := fun a => wpList Try.prog _ _ _ a _) S ?_
    clear S; intro a S
    refine wg_val (v := (.int .i64 cc)) (wan_yes (j := 1) (t := 31) (b := true) rfl (S.get 31 _ rfl) (by rw [S.sz]; decide)) (ex_move (S.get 8 _ rfl) _) ?_
    replace S := S.put (by decide : 32 < 40) (.int .i64 cc)
    refine env_gen (C := fun a => wpList Try.prog _ _ _ a _) S ?_
    clear S; intro a S
    refine wg_val (v := (.int .i64 (l1 x))) (wan_yes (j := 1) (t := 31) (b := true) rfl (S.get 31 _ rfl) (by rw [S.sz]; decide)) (ex_move (S.get 7 _ rfl) _) ?_
    replace S := S.put (by decide : 33 < 40) (.int .i64 (l1 x))
    refine env_gen (C := fun a => wpList Try.prog _ _ _ a _) S ?_
    clear S; intro a S
    refine wg_val (v := (.bool false)) (wan_yes (j := 1) (t := 31) (b := true) rfl (S.get 31 _ rfl) (by rw [S.sz]; decide)) (ex_bin (u := (.int .i64 cc)) (v := (.int .i64 (l1 x))) (S.get 32 _ rfl) (S.get 33 _ rfl) _ ((run_eqb _).trans (by rw [e1]))) ?_
    replace S := S.put (by decide : 34 < 40) (.bool false)
    refine wpl_val (v := (.bool false)) (ex_pickT (v := (.bool false)) (S.get 31 _ rfl) (S.get 34 _ rfl) _) ?_
    replace S := S.put (by decide : 35 < 40) (.bool false)
    refine wpl_nil ?_
    refine wp_cond_false (S.get 35 _ rfl) (wp_skip ?_)
    replace S := (((((((S.nil).add (S.get 0 _ rfl)).add (S.get 3 _ rfl)).add (S.get 6 _ rfl)).add (S.get 7 _ rfl)).add (S.get 14 _ rfl)).add (S.get 15 _ rfl)).add (S.get 16 _ rfl)
    refine env_gen (C := fun a => Code.wp Try.prog _ _ a _) S ?_
    clear S; intro a S
    obtain ⟨hgT, HD9⟩ := HD.good hxi hcc (Or.inr heq)
    have hbW : w.heap.size ≤ b := by omega
    refine wp_region_list ?_
    refine wpl_val (v := (.map (some b))) (ex_move (S.get 3 _ rfl) _) ?_
    replace S := S.put (by decide : 36 < 40) (.map (some b))
    refine wpl_val (v := (.int .i64 (l0 x))) (ex_move (S.get 6 _ rfl) _) ?_
    replace S := S.put (by decide : 37 < 40) (.int .i64 (l0 x))
    refine wpl_val (v := (.int .i64 (l1 x))) (ex_move (S.get 7 _ rfl) _) ?_
    replace S := S.put (by decide : 38 < 40) (.int .i64 (l1 x))
    refine wpList_mapUpdate_own _ rfl _ _ _ 121 rfl 3 3 Try.lawInt Try.underlying121 _ b i D (S.get 36 _ rfl) HM (by unfold maxLen; omega) _ _ (.int .i64 (l0 x)) (S.get 37 _ rfl) (S.get 38 _ rfl) (keyOf_int_mk Try.underlying3 hw0) _ [] (plainElem_int Try.underlying3 hw1) ?_
    intro W9 HM9 hg9
    rw [put_none]
    replace M := M.grown hg9 M.size (fun q hq => by have := Option.some.inj hq; omega)
    replace B0 := B0.other hg9 (by omega)
    refine wpl_nil ?_
    replace S := (((((S.nil).add (S.get 0 _ rfl)).add (S.get 3 _ rfl)).add (S.get 14 _ rfl)).add (S.get 15 _ rfl)).add (S.get 16 _ rfl)
    refine env_gen (C := fun a => Code.wp Try.prog _ _ a _) S ?_
    clear S; intro a S
    refine wp_region_list ?_
    refine wpl_val (v := (.int .i64 (i + 1))) (ex_bin (u := (.int .i64 i)) (v := (.int .i64 1)) (S.get 16 _ rfl) rfl _ (run_inc _ (by omega) (by omega))) ?_
    replace S := S.put (by decide : 39 < 40) (.int .i64 (i + 1))
    refine wpl_val (v := (.int .i64 (i + 1))) (ex_move (S.get 39 _ rfl) _) ?_
    replace S := S.put (by decide : 16 < 40) (.int .i64 (i + 1))
    refine wpl_nil ?_
    exact ⟨⟨(((((S.nil).add (S.get 0 _ rfl)).add (S.get 3 _ rfl)).add (S.get 14 _ rfl)).add (S.get 15 _ rfl)).add (S.get 16 _ rfl), allN_step hall hgT, M, B0, _, HM9, HD9⟩, hlt⟩
  case neg =>
    have e1 : (cc != l1 x) = true := by simp [heq]
    have hne : cc ≠ l1 x := heq
    refine wp_seq (wp_seq (wp_region_list ?_))
    refine wpl_val (v := (.bool true)) (ex_move (S.get 9 _ rfl) _) ?_
    replace S := S.put (by decide : 30 < 40) (.bool true)
    refine wpl_val (v := (.bool true)) (ex_move (S.get 30 _ rfl) _) ?_
    replace S := S.put (by decide : 31 < 40) (.bool true)
    refine env_gen (C := fun a => wpList Try.prog _ _ _ a _) S ?_
    clear S; intro a S
    refine wg_val (v := (.int .i64 cc)) (wan_yes (j := 1) (t := 31) (b := true) rfl (S.get 31 _ rfl) (by rw [S.sz]; decide)) (ex_move (S.get 8 _ rfl) _) ?_
    replace S := S.put (by decide : 32 < 40) (.int .i64 cc)
    refine env_gen (C := fun a => wpList Try.prog _ _ _ a _) S ?_
    clear S; intro a S
    refine wg_val (v := (.int .i64 (l1 x))) (wan_yes (j := 1) (t := 31) (b := true) rfl (S.get 31 _ rfl) (by rw [S.sz]; decide)) (ex_move (S.get 7 _ rfl) _) ?_
    replace S := S.put (by decide : 33 < 40) (.int .i64 (l1 x))
    refine env_gen (C := fun a => wpList Try.prog _ _ _ a _) S ?_
    clear S; intro a S
    refine wg_val (v := (.bool true)) (wan_yes (j := 1) (t := 31) (b := true) rfl (S.get 31 _ rfl) (by rw [S.sz]; decide)) (ex_bin (u := (.int .i64 cc)) (v := (.int .i64 (l1 x))) (S.get 32 _ rfl) (S.get 33 _ rfl) _ ((run_eqb _).trans (by rw [e1]))) ?_
    replace S := S.put (by decide : 34 < 40) (.bool true)
    refine wpl_val (v := (.bool true)) (ex_pickT (v := (.bool true)) (S.get 31 _ rfl) (S.get 34 _ rfl) _) ?_
    replace S := S.put (by decide : 35 < 40) (.bool true)
    refine wpl_nil ?_
    refine wp_cond_true (S.get 35 _ rfl) ?_
    refine wp_seq (wp_region_list ?_)
    refine wpl_val (v := (.bool false)) (ex_assign (v := (.bool false)) rfl _) ?_
    replace S := S.put (by decide : 2 < 40) (.bool false)
    refine wpl_nil ?_
    refine wp_ret ?_
    have hgF : oneF L i = false := HD.bad hxi hfd hcc hne
    exact ret_at (P := Try.prog) (fn := Try.f24) (R := fun e w' => e = .returned (.bool (allN (oneF L) L.length)) ∧ Below w.heap.size w w') S rfl rfl ⟨by rw [allN_bad hgF hlt], M⟩

end Go.Proofs.Ytjiplphfpkhmpaa
