/-
  The program's StatesMatch: two replicas.
-/
import Derived.Test.YtjiplphfpkhmpaaGreatJV
namespace Go.Proofs.YtjiplphfpkhmpaaGreat
open Go.RowKit

set_option maxRecDepth 20000 in
set_option maxHeartbeats 8000000 in
theorem iLike (p q p' q' : Nat) (us vs : List Value) (r z : RepA) (w : World) (hs : Seg w p q us) (hs' : Seg w p' q' vs) (hp : p < w.heap.size) (hp' : p' < w.heap.size) (hr : RepS w 0 us r) (hz : RepS w 0 vs z) (ht1 : cState.tot (rState r) ≤ 1048576) (ht2 : cState.tot (rState z) ≤ 1048576) :
    Calls Tryz.prog 39 #[.pointer (some ⟨p, q, none⟩), .pointer (some ⟨p', q', none⟩)] w fun e w' => e = .returned (.bool (stP r z)) ∧ Below w.heap.size w w' := by
  refine calls_of_wp Tryz.func39 rfl ?_
  have hpan := pan_body (P := Tryz.prog) (fn := Tryz.f39) (R := fun e w' => e = .returned (.bool (stP r z)) ∧ Below w.heap.size w w')
  refine env2 (N := 40) rfl (by decide) ?_
  intro a S
  have M : Below w.heap.size w w := Below.refl _ _
  obtain ⟨⟨_, _, _, hap, hup⟩, pre, ss, post, epre, lpre, lss, hst⟩ := hr
  obtain ⟨⟨_, _, _, hap', hup'⟩, pre', ss', post', epre', lpre', lss', hst'⟩ := hz
  have sg := seg_sub hs epre
  have sg' := seg_sub hs' epre'
  rw [lpre] at sg
  rw [lpre'] at sg'
  refine wp_seq (wp_region_list ?_)
  refine wpl_val (v := (.bool false)) (ex_assign (v := (.bool false)) rfl _) ?_
  replace S := S.put (by decide : 4 < 40) (.bool false)
  refine wpl_nil ?_
  replace S := ((S.nil).add (S.get 0 _ rfl)).add (S.get 1 _ rfl)
  refine env_gen (C := fun a => Code.wp Tryz.prog _ _ a _) S ?_
  clear S; intro a S
  have hsp : stP r z = (!((rUp r && rUp z) && rApplied r == rApplied z) || sameSt (rState r) (rState z)) := rfl
  generalize rUp r = up at *
  generalize rUp z = uz at *
  generalize rApplied r = ap at *
  generalize rApplied z = az at *
  generalize rState r = sr at *
  generalize rState z = sz at *
  cases up
  case false =>
    refine wp_seq ?_
    have hdr : Below w.heap.size w w.drew := (Below.refl _ w).drew
    have M := M.trans (hdr.mono M.size)
    have z1 := hdr.size
    clear hdr
    refine wp_region_held_drew (S := fun V => Below w.heap.size w V) (by kernel_rfl) M (fun hS => ?_)
    refine dr_val 0 6 rfl (by kernel_rfl) (fun c a d v w hq => hpan c a d v w hq) (v := (.pointer (some ⟨p, q, none⟩))) (fun V hV => ex_move (S.get 0 _ rfl) V) hS ?_
    replace S := S.put (by decide : 6 < 40) (.pointer (some ⟨p, q, none⟩))
    refine dr_val 1 7 rfl (by kernel_rfl) (fun c a d v w hq => hpan c a d v w hq) (v := (.pointer (some ⟨p, q, none⟩))) (fun V hV => ex_nil (S.get 6 _ rfl) V) hS ?_
    replace S := S.put (by decide : 7 < 40) (.pointer (some ⟨p, q, none⟩))
    refine dr_val 2 8 rfl (by kernel_rfl) (fun c a d v w hq => hpan c a d v w hq) (v := (.pointer (some ⟨p, q + 42, none⟩))) (fun V hV => ex_field (S.get 7 _ rfl) (by kernel_rfl) V) hS ?_
    replace S := S.put (by decide : 8 < 40) (.pointer (some ⟨p, q + 42, none⟩))
    refine dr_val 3 9 rfl (by kernel_rfl) (fun c a d v w hq => hpan c a d v w hq) (v := (.bool false)) (fun V hV => ex_load (S.get 8 _ rfl) ⟨by kernel_rfl, by kernel_rfl⟩ V ((hs.frm (Fr.of hV) (Nat.zero_le _) hp) 42 _ hup)) hS ?_
    replace S := S.put (by decide : 9 < 40) (.bool false)
    refine dr_val 4 10 rfl (by kernel_rfl) (fun c a d v w hq => hpan c a d v w hq) (v := (.bool false)) (fun V hV => ex_move (S.get 9 _ rfl) V) hS ?_
    replace S := S.put (by decide : 10 < 40) (.bool false)
    refine env_gen (C := fun a => wpAnyH Tryz.prog _ _ _ _ _ _ a _) S ?_
    clear S; intro a S
    refine dg_skip 5 11 rfl (by kernel_rfl) (fun c a d v w hq => hpan c a d v w hq) (wan_no (j := 4) (t := 10) (b := true) (c := false) rfl (S.get 10 _ rfl) (by decide)) hS ?_
    replace S := S.put (by decide : 11 < 40) undef
    refine env_gen (C := fun a => wpAnyH Tryz.prog _ _ _ _ _ _ a _) S ?_
    clear S; intro a S
    refine dg_skip 6 12 rfl (by kernel_rfl) (fun c a d v w hq => hpan c a d v w hq) (wan_no (j := 4) (t := 10) (b := true) (c := false) rfl (S.get 10 _ rfl) (by decide)) hS ?_
    replace S := S.put (by decide : 12 < 40) undef
    refine env_gen (C := fun a => wpAnyH Tryz.prog _ _ _ _ _ _ a _) S ?_
    clear S; intro a S
    refine dg_skip 7 13 rfl (by kernel_rfl) (fun c a d v w hq => hpan c a d v w hq) (wan_no (j := 4) (t := 10) (b := true) (c := false) rfl (S.get 10 _ rfl) (by decide)) hS ?_
    replace S := S.put (by decide : 13 < 40) undef
    refine env_gen (C := fun a => wpAnyH Tryz.prog _ _ _ _ _ _ a _) S ?_
    clear S; intro a S
    refine dg_skip 8 14 rfl (by kernel_rfl) (fun c a d v w hq => hpan c a d v w hq) (wan_no (j := 4) (t := 10) (b := true) (c := false) rfl (S.get 10 _ rfl) (by decide)) hS ?_
    replace S := S.put (by decide : 14 < 40) undef
    refine dr_val 9 15 rfl (by kernel_rfl) (fun c a d v w hq => hpan c a d v w hq) (v := (.bool false)) (fun V hV => ex_pickF (v := (.bool false)) (S.get 10 _ rfl) rfl V) hS ?_
    replace S := S.put (by decide : 15 < 40) (.bool false)
    refine dr_val 10 16 rfl (by kernel_rfl) (fun c a d v w hq => hpan c a d v w hq) (v := (.bool false)) (fun V hV => ex_move (S.get 15 _ rfl) V) hS ?_
    replace S := S.put (by decide : 16 < 40) (.bool false)
    refine env_gen (C := fun a => wpAnyH Tryz.prog _ _ _ _ _ _ a _) S ?_
    clear S; intro a S
    refine dg_skip 11 17 rfl (by kernel_rfl) (fun c a d v w hq => hpan c a d v w hq) (wan_no (j := 10) (t := 16) (b := true) (c := false) rfl (S.get 16 _ rfl) (by decide)) hS ?_
    replace S := S.put (by decide : 17 < 40) undef
    refine env_gen (C := fun a => wpAnyH Tryz.prog _ _ _ _ _ _ a _) S ?_
    clear S; intro a S
    refine dg_skip 12 18 rfl (by kernel_rfl) (fun c a d v w hq => hpan c a d v w hq) (wan_no (j := 10) (t := 16) (b := true) (c := false) rfl (S.get 16 _ rfl) (by decide)) hS ?_
    replace S := S.put (by decide : 18 < 40) undef
    refine env_gen (C := fun a => wpAnyH Tryz.prog _ _ _ _ _ _ a _) S ?_
    clear S; intro a S
    refine dg_skip 13 19 rfl (by kernel_rfl) (fun c a d v w hq => hpan c a d v w hq) (wan_no (j := 10) (t := 16) (b := true) (c := false) rfl (S.get 16 _ rfl) (by decide)) hS ?_
    replace S := S.put (by decide : 19 < 40) undef
    refine env_gen (C := fun a => wpAnyH Tryz.prog _ _ _ _ _ _ a _) S ?_
    clear S; intro a S
    refine dg_skip 14 20 rfl (by kernel_rfl) (fun c a d v w hq => hpan c a d v w hq) (wan_no (j := 10) (t := 16) (b := true) (c := false) rfl (S.get 16 _ rfl) (by decide)) hS ?_
    replace S := S.put (by decide : 20 < 40) undef
    refine env_gen (C := fun a => wpAnyH Tryz.prog _ _ _ _ _ _ a _) S ?_
    clear S; intro a S
    refine dg_skip 15 21 rfl (by kernel_rfl) (fun c a d v w hq => hpan c a d v w hq) (wan_no (j := 10) (t := 16) (b := true) (c := false) rfl (S.get 16 _ rfl) (by decide)) hS ?_
    replace S := S.put (by decide : 21 < 40) undef
    refine env_gen (C := fun a => wpAnyH Tryz.prog _ _ _ _ _ _ a _) S ?_
    clear S; intro a S
    refine dg_skip 16 22 rfl (by kernel_rfl) (fun c a d v w hq => hpan c a d v w hq) (wan_no (j := 10) (t := 16) (b := true) (c := false) rfl (S.get 16 _ rfl) (by decide)) hS ?_
    replace S := S.put (by decide : 22 < 40) undef
    refine env_gen (C := fun a => wpAnyH Tryz.prog _ _ _ _ _ _ a _) S ?_
    clear S; intro a S
    refine dg_skip 17 23 rfl (by kernel_rfl) (fun c a d v w hq => hpan c a d v w hq) (wan_no (j := 10) (t := 16) (b := true) (c := false) rfl (S.get 16 _ rfl) (by decide)) hS ?_
    replace S := S.put (by decide : 23 < 40) undef
    refine env_gen (C := fun a => wpAnyH Tryz.prog _ _ _ _ _ _ a _) S ?_
    clear S; intro a S
    refine dg_skip 18 24 rfl (by kernel_rfl) (fun c a d v w hq => hpan c a d v w hq) (wan_no (j := 10) (t := 16) (b := true) (c := false) rfl (S.get 16 _ rfl) (by decide)) hS ?_
    replace S := S.put (by decide : 24 < 40) undef
    refine env_gen (C := fun a => wpAnyH Tryz.prog _ _ _ _ _ _ a _) S ?_
    clear S; intro a S
    refine dg_skip 19 25 rfl (by kernel_rfl) (fun c a d v w hq => hpan c a d v w hq) (wan_no (j := 10) (t := 16) (b := true) (c := false) rfl (S.get 16 _ rfl) (by decide)) hS ?_
    replace S := S.put (by decide : 25 < 40) undef
    refine dr_val 20 26 rfl (by kernel_rfl) (fun c a d v w hq => hpan c a d v w hq) (v := (.bool false)) (fun V hV => ex_pickF (v := (.bool false)) (S.get 16 _ rfl) rfl V) hS ?_
    replace S := S.put (by decide : 26 < 40) (.bool false)
    refine dr_val 21 5 rfl (by kernel_rfl) (fun c a d v w hq => hpan c a d v w hq) (v := (.bool false)) (fun V hV => ex_assign (S.get 26 _ rfl) V) hS ?_
    replace S := S.put (by decide : 5 < 40) (.bool false)
    refine ⟨by kernel_rfl, ?_⟩
    replace S := (((S.nil).add (S.get 0 _ rfl)).add (S.get 1 _ rfl)).add (S.get 5 _ rfl)
    refine env_gen (C := fun a => Code.wp Tryz.prog _ _ a _) S ?_
    clear S; intro a S
    refine wp_seq ?_
    have hdr : Below w.drew.heap.size w.drew w.drew.drew := (Below.refl _ w.drew).drew
    have M := M.trans (hdr.mono M.size)
    have z2 := hdr.size
    clear hdr
    refine wp_region_held_drew (S := fun V => Below w.heap.size w V) (by kernel_rfl) M (fun hS => ?_)
    refine dr_val 0 27 rfl (by kernel_rfl) (fun c a d v w hq => hpan c a d v w hq) (v := (.bool false)) (fun V hV => ex_move (S.get 5 _ rfl) V) hS ?_
    replace S := S.put (by decide : 27 < 40) (.bool false)
    refine dr_val 1 28 rfl (by kernel_rfl) (fun c a d v w hq => hpan c a d v w hq) (v := (.bool true)) (fun V hV => ex_not (b := false) (S.get 27 _ rfl) V) hS ?_
    replace S := S.put (by decide : 28 < 40) (.bool true)
    refine dr_val 2 29 rfl (by kernel_rfl) (fun c a d v w hq => hpan c a d v w hq) (v := (.bool true)) (fun V hV => ex_move (S.get 28 _ rfl) V) hS ?_
    replace S := S.put (by decide : 29 < 40) (.bool true)
    refine env_gen (C := fun a => wpAnyH Tryz.prog _ _ _ _ _ _ a _) S ?_
    clear S; intro a S
    refine dg_skip 3 30 rfl (by kernel_rfl) (fun c a d v w hq => hpan c a d v w hq) (wan_no (j := 2) (t := 29) (b := false) (c := true) rfl (S.get 29 _ rfl) (by decide)) hS ?_
    replace S := S.put (by decide : 30 < 40) undef
    refine env_gen (C := fun a => wpAnyH Tryz.prog _ _ _ _ _ _ a _) S ?_
    clear S; intro a S
    refine dg_skip 4 31 rfl (by kernel_rfl) (fun c a d v w hq => hpan c a d v w hq) (wan_no (j := 2) (t := 29) (b := false) (c := true) rfl (S.get 29 _ rfl) (by decide)) hS ?_
    replace S := S.put (by decide : 31 < 40) undef
    refine env_gen (C := fun a => wpAnyH Tryz.prog _ _ _ _ _ _ a _) S ?_
    clear S; intro a S
    refine dg_skip 5 32 rfl (by kernel_rfl) (fun c a d v w hq => hpan c a d v w hq) (wan_no (j := 2) (t := 29) (b := false) (c := true) rfl (S.get 29 _ rfl) (by decide)) hS ?_
    replace S := S.put (by decide : 32 < 40) undef
    refine env_gen (C := fun a => wpAnyH Tryz.prog _ _ _ _ _ _ a _) S ?_
    clear S; intro a S
    refine dg_skip 6 33 rfl (by kernel_rfl) (fun c a d v w hq => hpan c a d v w hq) (wan_no (j := 2) (t := 29) (b := false) (c := true) rfl (S.get 29 _ rfl) (by decide)) hS ?_
    replace S := S.put (by decide : 33 < 40) undef
    refine env_gen (C := fun a => wpAnyH Tryz.prog _ _ _ _ _ _ a _) S ?_
    clear S; intro a S
    refine dg_skip 7 34 rfl (by kernel_rfl) (fun c a d v w hq => hpan c a d v w hq) (wan_no (j := 2) (t := 29) (b := false) (c := true) rfl (S.get 29 _ rfl) (by decide)) hS ?_
    replace S := S.put (by decide : 34 < 40) undef
    refine env_gen (C := fun a => wpAnyH Tryz.prog _ _ _ _ _ _ a _) S ?_
    clear S; intro a S
    refine dg_skip 8 35 rfl (by kernel_rfl) (fun c a d v w hq => hpan c a d v w hq) (wan_no (j := 2) (t := 29) (b := false) (c := true) rfl (S.get 29 _ rfl) (by decide)) hS ?_
    replace S := S.put (by decide : 35 < 40) undef
    refine env_gen (C := fun a => wpAnyH Tryz.prog _ _ _ _ _ _ a _) S ?_
    clear S; intro a S
    refine dg_skip 9 36 rfl (by kernel_rfl) (fun c a d v w hq => hpan c a d v w hq) (wan_no (j := 2) (t := 29) (b := false) (c := true) rfl (S.get 29 _ rfl) (by decide)) hS ?_
    replace S := S.put (by decide : 36 < 40) undef
    refine env_gen (C := fun a => wpAnyH Tryz.prog _ _ _ _ _ _ a _) S ?_
    clear S; intro a S
    refine dg_skip 10 37 rfl (by kernel_rfl) (fun c a d v w hq => hpan c a d v w hq) (wan_no (j := 2) (t := 29) (b := false) (c := true) rfl (S.get 29 _ rfl) (by decide)) hS ?_
    replace S := S.put (by decide : 37 < 40) undef
    refine env_gen (C := fun a => wpAnyH Tryz.prog _ _ _ _ _ _ a _) S ?_
    clear S; intro a S
    refine dg_skip 11 38 rfl (by kernel_rfl) (fun c a d v w hq => hpan c a d v w hq) (wan_no (j := 2) (t := 29) (b := false) (c := true) rfl (S.get 29 _ rfl) (by decide)) hS ?_
    replace S := S.put (by decide : 38 < 40) undef
    refine dr_val 12 39 rfl (by kernel_rfl) (fun c a d v w hq => hpan c a d v w hq) (v := (.bool true)) (fun V hV => ex_pickT (v := (.bool true)) (S.get 29 _ rfl) rfl V) hS ?_
    replace S := S.put (by decide : 39 < 40) (.bool true)
    refine dr_val 13 4 rfl (by kernel_rfl) (fun c a d v w hq => hpan c a d v w hq) (v := (.bool true)) (fun V hV => ex_assign (S.get 39 _ rfl) V) hS ?_
    replace S := S.put (by decide : 4 < 40) (.bool true)
    refine ⟨by kernel_rfl, ?_⟩
    refine wp_ret ?_
    exact ret_at (P := Tryz.prog) (fn := Tryz.f39) (R := fun e w' => e = .returned (.bool (stP r z)) ∧ Below w.heap.size w w') S rfl rfl ⟨by rw [hsp]; rfl, M⟩
  cases uz
  case false =>
    refine wp_seq ?_
    have hdr : Below w.heap.size w w.drew := (Below.refl _ w).drew
    have M := M.trans (hdr.mono M.size)
    have z3 := hdr.size
    clear hdr
    refine wp_region_held_drew (S := fun V => Below w.heap.size w V) (by kernel_rfl) M (fun hS => ?_)
    refine dr_val 0 6 rfl (by kernel_rfl) (fun c a d v w hq => hpan c a d v w hq) (v := (.pointer (some ⟨p, q, none⟩))) (fun V hV => ex_move (S.get 0 _ rfl) V) hS ?_
    replace S := S.put (by decide : 6 < 40) (.pointer (some ⟨p, q, none⟩))
    refine dr_val 1 7 rfl (by kernel_rfl) (fun c a d v w hq => hpan c a d v w hq) (v := (.pointer (some ⟨p, q, none⟩))) (fun V hV => ex_nil (S.get 6 _ rfl) V) hS ?_
    replace S := S.put (by decide : 7 < 40) (.pointer (some ⟨p, q, none⟩))
    refine dr_val 2 8 rfl (by kernel_rfl) (fun c a d v w hq => hpan c a d v w hq) (v := (.pointer (some ⟨p, q + 42, none⟩))) (fun V hV => ex_field (S.get 7 _ rfl) (by kernel_rfl) V) hS ?_
    replace S := S.put (by decide : 8 < 40) (.pointer (some ⟨p, q + 42, none⟩))
    refine dr_val 3 9 rfl (by kernel_rfl) (fun c a d v w hq => hpan c a d v w hq) (v := (.bool true)) (fun V hV => ex_load (S.get 8 _ rfl) ⟨by kernel_rfl, by kernel_rfl⟩ V ((hs.frm (Fr.of hV) (Nat.zero_le _) hp) 42 _ hup)) hS ?_
    replace S := S.put (by decide : 9 < 40) (.bool true)
    refine dr_val 4 10 rfl (by kernel_rfl) (fun c a d v w hq => hpan c a d v w hq) (v := (.bool true)) (fun V hV => ex_move (S.get 9 _ rfl) V) hS ?_
    replace S := S.put (by decide : 10 < 40) (.bool true)
    refine env_gen (C := fun a => wpAnyH Tryz.prog _ _ _ _ _ _ a _) S ?_
    clear S; intro a S
    refine dg_val 5 11 rfl (by kernel_rfl) (fun c a d v w hq => hpan c a d v w hq) (wan_yes (j := 4) (t := 10) (b := true) rfl (S.get 10 _ rfl) (by rw [S.sz]; decide)) (v := (.pointer (some ⟨p', q', none⟩))) (fun V hV => ex_move (S.get 1 _ rfl) V) hS ?_
    replace S := S.put (by decide : 11 < 40) (.pointer (some ⟨p', q', none⟩))
    refine env_gen (C := fun a => wpAnyH Tryz.prog _ _ _ _ _ _ a _) S ?_
    clear S; intro a S
    refine dg_val 6 12 rfl (by kernel_rfl) (fun c a d v w hq => hpan c a d v w hq) (wan_yes (j := 4) (t := 10) (b := true) rfl (S.get 10 _ rfl) (by rw [S.sz]; decide)) (v := (.pointer (some ⟨p', q', none⟩))) (fun V hV => ex_nil (S.get 11 _ rfl) V) hS ?_
    replace S := S.put (by decide : 12 < 40) (.pointer (some ⟨p', q', none⟩))
    refine env_gen (C := fun a => wpAnyH Tryz.prog _ _ _ _ _ _ a _) S ?_
    clear S; intro a S
    refine dg_val 7 13 rfl (by kernel_rfl) (fun c a d v w hq => hpan c a d v w hq) (wan_yes (j := 4) (t := 10) (b := true) rfl (S.get 10 _ rfl) (by rw [S.sz]; decide)) (v := (.pointer (some ⟨p', q' + 42, none⟩))) (fun V hV => ex_field (S.get 12 _ rfl) (by kernel_rfl) V) hS ?_
    replace S := S.put (by decide : 13 < 40) (.pointer (some ⟨p', q' + 42, none⟩))
    refine env_gen (C := fun a => wpAnyH Tryz.prog _ _ _ _ _ _ a _) S ?_
    clear S; intro a S
    refine dg_val 8 14 rfl (by kernel_rfl) (fun c a d v w hq => hpan c a d v w hq) (wan_yes (j := 4) (t := 10) (b := true) rfl (S.get 10 _ rfl) (by rw [S.sz]; decide)) (v := (.bool false)) (fun V hV => ex_load (S.get 13 _ rfl) ⟨by kernel_rfl, by kernel_rfl⟩ V ((hs'.frm (Fr.of hV) (Nat.zero_le _) hp') 42 _ hup')) hS ?_
    replace S := S.put (by decide : 14 < 40) (.bool false)
    refine dr_val 9 15 rfl (by kernel_rfl) (fun c a d v w hq => hpan c a d v w hq) (v := (.bool false)) (fun V hV => ex_pickT (v := (.bool false)) (S.get 10 _ rfl) (S.get 14 _ rfl) V) hS ?_
    replace S := S.put (by decide : 15 < 40) (.bool false)
    refine dr_val 10 16 rfl (by kernel_rfl) (fun c a d v w hq => hpan c a d v w hq) (v := (.bool false)) (fun V hV => ex_move (S.get 15 _ rfl) V) hS ?_
    replace S := S.put (by decide : 16 < 40) (.bool false)
    refine env_gen (C := fun a => wpAnyH Tryz.prog _ _ _ _ _ _ a _) S ?_
    clear S; intro a S
    refine dg_skip 11 17 rfl (by kernel_rfl) (fun c a d v w hq => hpan c a d v w hq) (wan_no (j := 10) (t := 16) (b := true) (c := false) rfl (S.get 16 _ rfl) (by decide)) hS ?_
    replace S := S.put (by decide : 17 < 40) undef
    refine env_gen (C := fun a => wpAnyH Tryz.prog _ _ _ _ _ _ a _) S ?_
    clear S; intro a S
    refine dg_skip 12 18 rfl (by kernel_rfl) (fun c a d v w hq => hpan c a d v w hq) (wan_no (j := 10) (t := 16) (b := true) (c := false) rfl (S.get 16 _ rfl) (by decide)) hS ?_
    replace S := S.put (by decide : 18 < 40) undef
    refine env_gen (C := fun a => wpAnyH Tryz.prog _ _ _ _ _ _ a _) S ?_
    clear S; intro a S
    refine dg_skip 13 19 rfl (by kernel_rfl) (fun c a d v w hq => hpan c a d v w hq) (wan_no (j := 10) (t := 16) (b := true) (c := false) rfl (S.get 16 _ rfl) (by decide)) hS ?_
    replace S := S.put (by decide : 19 < 40) undef
    refine env_gen (C := fun a => wpAnyH Tryz.prog _ _ _ _ _ _ a _) S ?_
    clear S; intro a S
    refine dg_skip 14 20 rfl (by kernel_rfl) (fun c a d v w hq => hpan c a d v w hq) (wan_no (j := 10) (t := 16) (b := true) (c := false) rfl (S.get 16 _ rfl) (by decide)) hS ?_
    replace S := S.put (by decide : 20 < 40) undef
    refine env_gen (C := fun a => wpAnyH Tryz.prog _ _ _ _ _ _ a _) S ?_
    clear S; intro a S
    refine dg_skip 15 21 rfl (by kernel_rfl) (fun c a d v w hq => hpan c a d v w hq) (wan_no (j := 10) (t := 16) (b := true) (c := false) rfl (S.get 16 _ rfl) (by decide)) hS ?_
    replace S := S.put (by decide : 21 < 40) undef
    refine env_gen (C := fun a => wpAnyH Tryz.prog _ _ _ _ _ _ a _) S ?_
    clear S; intro a S
    refine dg_skip 16 22 rfl (by kernel_rfl) (fun c a d v w hq => hpan c a d v w hq) (wan_no (j := 10) (t := 16) (b := true) (c := false) rfl (S.get 16 _ rfl) (by decide)) hS ?_
    replace S := S.put (by decide : 22 < 40) undef
    refine env_gen (C := fun a => wpAnyH Tryz.prog _ _ _ _ _ _ a _) S ?_
    clear S; intro a S
    refine dg_skip 17 23 rfl (by kernel_rfl) (fun c a d v w hq => hpan c a d v w hq) (wan_no (j := 10) (t := 16) (b := true) (c := false) rfl (S.get 16 _ rfl) (by decide)) hS ?_
    replace S := S.put (by decide : 23 < 40) undef
    refine env_gen (C := fun a => wpAnyH Tryz.prog _ _ _ _ _ _ a _) S ?_
    clear S; intro a S
    refine dg_skip 18 24 rfl (by kernel_rfl) (fun c a d v w hq => hpan c a d v w hq) (wan_no (j := 10) (t := 16) (b := true) (c := false) rfl (S.get 16 _ rfl) (by decide)) hS ?_
    replace S := S.put (by decide : 24 < 40) undef
    refine env_gen (C := fun a => wpAnyH Tryz.prog _ _ _ _ _ _ a _) S ?_
    clear S; intro a S
    refine dg_skip 19 25 rfl (by kernel_rfl) (fun c a d v w hq => hpan c a d v w hq) (wan_no (j := 10) (t := 16) (b := true) (c := false) rfl (S.get 16 _ rfl) (by decide)) hS ?_
    replace S := S.put (by decide : 25 < 40) undef
    refine dr_val 20 26 rfl (by kernel_rfl) (fun c a d v w hq => hpan c a d v w hq) (v := (.bool false)) (fun V hV => ex_pickF (v := (.bool false)) (S.get 16 _ rfl) rfl V) hS ?_
    replace S := S.put (by decide : 26 < 40) (.bool false)
    refine dr_val 21 5 rfl (by kernel_rfl) (fun c a d v w hq => hpan c a d v w hq) (v := (.bool false)) (fun V hV => ex_assign (S.get 26 _ rfl) V) hS ?_
    replace S := S.put (by decide : 5 < 40) (.bool false)
    refine ⟨by kernel_rfl, ?_⟩
    replace S := (((S.nil).add (S.get 0 _ rfl)).add (S.get 1 _ rfl)).add (S.get 5 _ rfl)
    refine env_gen (C := fun a => Code.wp Tryz.prog _ _ a _) S ?_
    clear S; intro a S
    refine wp_seq ?_
    have hdr : Below w.drew.heap.size w.drew w.drew.drew := (Below.refl _ w.drew).drew
    have M := M.trans (hdr.mono M.size)
    have z4 := hdr.size
    clear hdr
    refine wp_region_held_drew (S := fun V => Below w.heap.size w V) (by kernel_rfl) M (fun hS => ?_)
    refine dr_val 0 27 rfl (by kernel_rfl) (fun c a d v w hq => hpan c a d v w hq) (v := (.bool false)) (fun V hV => ex_move (S.get 5 _ rfl) V) hS ?_
    replace S := S.put (by decide : 27 < 40) (.bool false)
    refine dr_val 1 28 rfl (by kernel_rfl) (fun c a d v w hq => hpan c a d v w hq) (v := (.bool true)) (fun V hV => ex_not (b := false) (S.get 27 _ rfl) V) hS ?_
    replace S := S.put (by decide : 28 < 40) (.bool true)
    refine dr_val 2 29 rfl (by kernel_rfl) (fun c a d v w hq => hpan c a d v w hq) (v := (.bool true)) (fun V hV => ex_move (S.get 28 _ rfl) V) hS ?_
    replace S := S.put (by decide : 29 < 40) (.bool true)
    refine env_gen (C := fun a => wpAnyH Tryz.prog _ _ _ _ _ _ a _) S ?_
    clear S; intro a S
    refine dg_skip 3 30 rfl (by kernel_rfl) (fun c a d v w hq => hpan c a d v w hq) (wan_no (j := 2) (t := 29) (b := false) (c := true) rfl (S.get 29 _ rfl) (by decide)) hS ?_
    replace S := S.put (by decide : 30 < 40) undef
    refine env_gen (C := fun a => wpAnyH Tryz.prog _ _ _ _ _ _ a _) S ?_
    clear S; intro a S
    refine dg_skip 4 31 rfl (by kernel_rfl) (fun c a d v w hq => hpan c a d v w hq) (wan_no (j := 2) (t := 29) (b := false) (c := true) rfl (S.get 29 _ rfl) (by decide)) hS ?_
    replace S := S.put (by decide : 31 < 40) undef
    refine env_gen (C := fun a => wpAnyH Tryz.prog _ _ _ _ _ _ a _) S ?_
    clear S; intro a S
    refine dg_skip 5 32 rfl (by kernel_rfl) (fun c a d v w hq => hpan c a d v w hq) (wan_no (j := 2) (t := 29) (b := false) (c := true) rfl (S.get 29 _ rfl) (by decide)) hS ?_
    replace S := S.put (by decide : 32 < 40) undef
    refine env_gen (C := fun a => wpAnyH Tryz.prog _ _ _ _ _ _ a _) S ?_
    clear S; intro a S
    refine dg_skip 6 33 rfl (by kernel_rfl) (fun c a d v w hq => hpan c a d v w hq) (wan_no (j := 2) (t := 29) (b := false) (c := true) rfl (S.get 29 _ rfl) (by decide)) hS ?_
    replace S := S.put (by decide : 33 < 40) undef
    refine env_gen (C := fun a => wpAnyH Tryz.prog _ _ _ _ _ _ a _) S ?_
    clear S; intro a S
    refine dg_skip 7 34 rfl (by kernel_rfl) (fun c a d v w hq => hpan c a d v w hq) (wan_no (j := 2) (t := 29) (b := false) (c := true) rfl (S.get 29 _ rfl) (by decide)) hS ?_
    replace S := S.put (by decide : 34 < 40) undef
    refine env_gen (C := fun a => wpAnyH Tryz.prog _ _ _ _ _ _ a _) S ?_
    clear S; intro a S
    refine dg_skip 8 35 rfl (by kernel_rfl) (fun c a d v w hq => hpan c a d v w hq) (wan_no (j := 2) (t := 29) (b := false) (c := true) rfl (S.get 29 _ rfl) (by decide)) hS ?_
    replace S := S.put (by decide : 35 < 40) undef
    refine env_gen (C := fun a => wpAnyH Tryz.prog _ _ _ _ _ _ a _) S ?_
    clear S; intro a S
    refine dg_skip 9 36 rfl (by kernel_rfl) (fun c a d v w hq => hpan c a d v w hq) (wan_no (j := 2) (t := 29) (b := false) (c := true) rfl (S.get 29 _ rfl) (by decide)) hS ?_
    replace S := S.put (by decide : 36 < 40) undef
    refine env_gen (C := fun a => wpAnyH Tryz.prog _ _ _ _ _ _ a _) S ?_
    clear S; intro a S
    refine dg_skip 10 37 rfl (by kernel_rfl) (fun c a d v w hq => hpan c a d v w hq) (wan_no (j := 2) (t := 29) (b := false) (c := true) rfl (S.get 29 _ rfl) (by decide)) hS ?_
    replace S := S.put (by decide : 37 < 40) undef
    refine env_gen (C := fun a => wpAnyH Tryz.prog _ _ _ _ _ _ a _) S ?_
    clear S; intro a S
    refine dg_skip 11 38 rfl (by kernel_rfl) (fun c a d v w hq => hpan c a d v w hq) (wan_no (j := 2) (t := 29) (b := false) (c := true) rfl (S.get 29 _ rfl) (by decide)) hS ?_
    replace S := S.put (by decide : 38 < 40) undef
    refine dr_val 12 39 rfl (by kernel_rfl) (fun c a d v w hq => hpan c a d v w hq) (v := (.bool true)) (fun V hV => ex_pickT (v := (.bool true)) (S.get 29 _ rfl) rfl V) hS ?_
    replace S := S.put (by decide : 39 < 40) (.bool true)
    refine dr_val 13 4 rfl (by kernel_rfl) (fun c a d v w hq => hpan c a d v w hq) (v := (.bool true)) (fun V hV => ex_assign (S.get 39 _ rfl) V) hS ?_
    replace S := S.put (by decide : 4 < 40) (.bool true)
    refine ⟨by kernel_rfl, ?_⟩
    refine wp_ret ?_
    exact ret_at (P := Tryz.prog) (fn := Tryz.f39) (R := fun e w' => e = .returned (.bool (stP r z)) ∧ Below w.heap.size w w') S rfl rfl ⟨by rw [hsp]; rfl, M⟩
  by_cases hac : ap = az
  case pos =>
    have e0 : (ap == az) = true := by simp [hac]
    refine wp_seq ?_
    have hdr : Below w.heap.size w w.drew := (Below.refl _ w).drew
    have M := M.trans (hdr.mono M.size)
    have z5 := hdr.size
    clear hdr
    refine wp_region_held_drew (S := fun V => Below w.heap.size w V) (by kernel_rfl) M (fun hS => ?_)
    refine dr_val 0 6 rfl (by kernel_rfl) (fun c a d v w hq => hpan c a d v w hq) (v := (.pointer (some ⟨p, q, none⟩))) (fun V hV => ex_move (S.get 0 _ rfl) V) hS ?_
    replace S := S.put (by decide : 6 < 40) (.pointer (some ⟨p, q, none⟩))
    refine dr_val 1 7 rfl (by kernel_rfl) (fun c a d v w hq => hpan c a d v w hq) (v := (.pointer (some ⟨p, q, none⟩))) (fun V hV => ex_nil (S.get 6 _ rfl) V) hS ?_
    replace S := S.put (by decide : 7 < 40) (.pointer (some ⟨p, q, none⟩))
    refine dr_val 2 8 rfl (by kernel_rfl) (fun c a d v w hq => hpan c a d v w hq) (v := (.pointer (some ⟨p, q + 42, none⟩))) (fun V hV => ex_field (S.get 7 _ rfl) (by kernel_rfl) V) hS ?_
    replace S := S.put (by decide : 8 < 40) (.pointer (some ⟨p, q + 42, none⟩))
    refine dr_val 3 9 rfl (by kernel_rfl) (fun c a d v w hq => hpan c a d v w hq) (v := (.bool true)) (fun V hV => ex_load (S.get 8 _ rfl) ⟨by kernel_rfl, by kernel_rfl⟩ V ((hs.frm (Fr.of hV) (Nat.zero_le _) hp) 42 _ hup)) hS ?_
    replace S := S.put (by decide : 9 < 40) (.bool true)
    refine dr_val 4 10 rfl (by kernel_rfl) (fun c a d v w hq => hpan c a d v w hq) (v := (.bool true)) (fun V hV => ex_move (S.get 9 _ rfl) V) hS ?_
    replace S := S.put (by decide : 10 < 40) (.bool true)
    refine env_gen (C := fun a => wpAnyH Tryz.prog _ _ _ _ _ _ a _) S ?_
    clear S; intro a S
    refine dg_val 5 11 rfl (by kernel_rfl) (fun c a d v w hq => hpan c a d v w hq) (wan_yes (j := 4) (t := 10) (b := true) rfl (S.get 10 _ rfl) (by rw [S.sz]; decide)) (v := (.pointer (some ⟨p', q', none⟩))) (fun V hV => ex_move (S.get 1 _ rfl) V) hS ?_
    replace S := S.put (by decide : 11 < 40) (.pointer (some ⟨p', q', none⟩))
    refine env_gen (C := fun a => wpAnyH Tryz.prog _ _ _ _ _ _ a _) S ?_
    clear S; intro a S
    refine dg_val 6 12 rfl (by kernel_rfl) (fun c a d v w hq => hpan c a d v w hq) (wan_yes (j := 4) (t := 10) (b := true) rfl (S.get 10 _ rfl) (by rw [S.sz]; decide)) (v := (.pointer (some ⟨p', q', none⟩))) (fun V hV => ex_nil (S.get 11 _ rfl) V) hS ?_
    replace S := S.put (by decide : 12 < 40) (.pointer (some ⟨p', q', none⟩))
    refine env_gen (C := fun a => wpAnyH Tryz.prog _ _ _ _ _ _ a _) S ?_
    clear S; intro a S
    refine dg_val 7 13 rfl (by kernel_rfl) (fun c a d v w hq => hpan c a d v w hq) (wan_yes (j := 4) (t := 10) (b := true) rfl (S.get 10 _ rfl) (by rw [S.sz]; decide)) (v := (.pointer (some ⟨p', q' + 42, none⟩))) (fun V hV => ex_field (S.get 12 _ rfl) (by kernel_rfl) V) hS ?_
    replace S := S.put (by decide : 13 < 40) (.pointer (some ⟨p', q' + 42, none⟩))
    refine env_gen (C := fun a => wpAnyH Tryz.prog _ _ _ _ _ _ a _) S ?_
    clear S; intro a S
    refine dg_val 8 14 rfl (by kernel_rfl) (fun c a d v w hq => hpan c a d v w hq) (wan_yes (j := 4) (t := 10) (b := true) rfl (S.get 10 _ rfl) (by rw [S.sz]; decide)) (v := (.bool true)) (fun V hV => ex_load (S.get 13 _ rfl) ⟨by kernel_rfl, by kernel_rfl⟩ V ((hs'.frm (Fr.of hV) (Nat.zero_le _) hp') 42 _ hup')) hS ?_
    replace S := S.put (by decide : 14 < 40) (.bool true)
    refine dr_val 9 15 rfl (by kernel_rfl) (fun c a d v w hq => hpan c a d v w hq) (v := (.bool true)) (fun V hV => ex_pickT (v := (.bool true)) (S.get 10 _ rfl) (S.get 14 _ rfl) V) hS ?_
    replace S := S.put (by decide : 15 < 40) (.bool true)
    refine dr_val 10 16 rfl (by kernel_rfl) (fun c a d v w hq => hpan c a d v w hq) (v := (.bool true)) (fun V hV => ex_move (S.get 15 _ rfl) V) hS ?_
    replace S := S.put (by decide : 16 < 40) (.bool true)
    refine env_gen (C := fun a => wpAnyH Tryz.prog _ _ _ _ _ _ a _) S ?_
    clear S; intro a S
    refine dg_val 11 17 rfl (by kernel_rfl) (fun c a d v w hq => hpan c a d v w hq) (wan_yes (j := 10) (t := 16) (b := true) rfl (S.get 16 _ rfl) (by rw [S.sz]; decide)) (v := (.pointer (some ⟨p, q, none⟩))) (fun V hV => ex_move (S.get 0 _ rfl) V) hS ?_
    replace S := S.put (by decide : 17 < 40) (.pointer (some ⟨p, q, none⟩))
    refine env_gen (C := fun a => wpAnyH Tryz.prog _ _ _ _ _ _ a _) S ?_
    clear S; intro a S
    refine dg_val 12 18 rfl (by kernel_rfl) (fun c a d v w hq => hpan c a d v w hq) (wan_yes (j := 10) (t := 16) (b := true) rfl (S.get 16 _ rfl) (by rw [S.sz]; decide)) (v := (.pointer (some ⟨p, q, none⟩))) (fun V hV => ex_nil (S.get 17 _ rfl) V) hS ?_
    replace S := S.put (by decide : 18 < 40) (.pointer (some ⟨p, q, none⟩))
    refine env_gen (C := fun a => wpAnyH Tryz.prog _ _ _ _ _ _ a _) S ?_
    clear S; intro a S
    refine dg_val 13 19 rfl (by kernel_rfl) (fun c a d v w hq => hpan c a d v w hq) (wan_yes (j := 10) (t := 16) (b := true) rfl (S.get 16 _ rfl) (by rw [S.sz]; decide)) (v := (.pointer (some ⟨p, q + 39, none⟩))) (fun V hV => ex_field (S.get 18 _ rfl) (by kernel_rfl) V) hS ?_
    replace S := S.put (by decide : 19 < 40) (.pointer (some ⟨p, q + 39, none⟩))
    refine env_gen (C := fun a => wpAnyH Tryz.prog _ _ _ _ _ _ a _) S ?_
    clear S; intro a S
    refine dg_val 14 20 rfl (by kernel_rfl) (fun c a d v w hq => hpan c a d v w hq) (wan_yes (j := 10) (t := 16) (b := true) rfl (S.get 16 _ rfl) (by rw [S.sz]; decide)) (v := (.int .i64 ap)) (fun V hV => ex_load (S.get 19 _ rfl) ⟨by kernel_rfl, by kernel_rfl⟩ V ((hs.frm (Fr.of hV) (Nat.zero_le _) hp) 39 _ hap)) hS ?_
    replace S := S.put (by decide : 20 < 40) (.int .i64 ap)
    refine env_gen (C := fun a => wpAnyH Tryz.prog _ _ _ _ _ _ a _) S ?_
    clear S; intro a S
    refine dg_val 15 21 rfl (by kernel_rfl) (fun c a d v w hq => hpan c a d v w hq) (wan_yes (j := 10) (t := 16) (b := true) rfl (S.get 16 _ rfl) (by rw [S.sz]; decide)) (v := (.pointer (some ⟨p', q', none⟩))) (fun V hV => ex_move (S.get 1 _ rfl) V) hS ?_
    replace S := S.put (by decide : 21 < 40) (.pointer (some ⟨p', q', none⟩))
    refine env_gen (C := fun a => wpAnyH Tryz.prog _ _ _ _ _ _ a _) S ?_
    clear S; intro a S
    refine dg_val 16 22 rfl (by kernel_rfl) (fun c a d v w hq => hpan c a d v w hq) (wan_yes (j := 10) (t := 16) (b := true) rfl (S.get 16 _ rfl) (by rw [S.sz]; decide)) (v := (.pointer (some ⟨p', q', none⟩))) (fun V hV => ex_nil (S.get 21 _ rfl) V) hS ?_
    replace S := S.put (by decide : 22 < 40) (.pointer (some ⟨p', q', none⟩))
    refine env_gen (C := fun a => wpAnyH Tryz.prog _ _ _ _ _ _ a _) S ?_
    clear S; intro a S
    refine dg_val 17 23 rfl (by kernel_rfl) (fun c a d v w hq => hpan c a d v w hq) (wan_yes (j := 10) (t := 16) (b := true) rfl (S.get 16 _ rfl) (by rw [S.sz]; decide)) (v := (.pointer (some ⟨p', q' + 39, none⟩))) (fun V hV => ex_field (S.get 22 _ rfl) (by kernel_rfl) V) hS ?_
    replace S := S.put (by decide : 23 < 40) (.pointer (some ⟨p', q' + 39, none⟩))
    refine env_gen (C := fun a => wpAnyH Tryz.prog _ _ _ _ _ _ a _) S ?_
    clear S; intro a S
    refine dg_val 18 24 rfl (by kernel_rfl) (fun c a d v w hq => hpan c a d v w hq) (wan_yes (j := 10) (t := 16) (b := true) rfl (S.get 16 _ rfl) (by rw [S.sz]; decide)) (v := (.int .i64 az)) (fun V hV => ex_load (S.get 23 _ rfl) ⟨by kernel_rfl, by kernel_rfl⟩ V ((hs'.frm (Fr.of hV) (Nat.zero_le _) hp') 39 _ hap')) hS ?_
    replace S := S.put (by decide : 24 < 40) (.int .i64 az)
    refine env_gen (C := fun a => wpAnyH Tryz.prog _ _ _ _ _ _ a _) S ?_
    clear S; intro a S
    refine dg_val 19 25 rfl (by kernel_rfl) (fun c a d v w hq => hpan c a d v w hq) (wan_yes (j := 10) (t := 16) (b := true) rfl (S.get 16 _ rfl) (by rw [S.sz]; decide)) (v := (.bool true)) (fun V hV => ex_bin (u := (.int .i64 ap)) (v := (.int .i64 az)) (S.get 20 _ rfl) (S.get 24 _ rfl) V ((run_eqi V).trans (by rw [e0]))) hS ?_
    replace S := S.put (by decide : 25 < 40) (.bool true)
    refine dr_val 20 26 rfl (by kernel_rfl) (fun c a d v w hq => hpan c a d v w hq) (v := (.bool true)) (fun V hV => ex_pickT (v := (.bool true)) (S.get 16 _ rfl) (S.get 25 _ rfl) V) hS ?_
    replace S := S.put (by decide : 26 < 40) (.bool true)
    refine dr_val 21 5 rfl (by kernel_rfl) (fun c a d v w hq => hpan c a d v w hq) (v := (.bool true)) (fun V hV => ex_assign (S.get 26 _ rfl) V) hS ?_
    replace S := S.put (by decide : 5 < 40) (.bool true)
    refine ⟨by kernel_rfl, ?_⟩
    replace S := (((S.nil).add (S.get 0 _ rfl)).add (S.get 1 _ rfl)).add (S.get 5 _ rfl)
    refine env_gen (C := fun a => Code.wp Tryz.prog _ _ a _) S ?_
    clear S; intro a S
    refine wp_seq ?_
    have hdr : Below w.drew.heap.size w.drew w.drew.drew := (Below.refl _ w.drew).drew
    have M := M.trans (hdr.mono M.size)
    have z6 := hdr.size
    clear hdr
    refine wp_region_held_drew (S := fun V => Below w.heap.size w V) (by kernel_rfl) M (fun hS => ?_)
    refine dr_val 0 27 rfl (by kernel_rfl) (fun c a d v w hq => hpan c a d v w hq) (v := (.bool true)) (fun V hV => ex_move (S.get 5 _ rfl) V) hS ?_
    replace S := S.put (by decide : 27 < 40) (.bool true)
    refine dr_val 1 28 rfl (by kernel_rfl) (fun c a d v w hq => hpan c a d v w hq) (v := (.bool false)) (fun V hV => ex_not (b := true) (S.get 27 _ rfl) V) hS ?_
    replace S := S.put (by decide : 28 < 40) (.bool false)
    refine dr_val 2 29 rfl (by kernel_rfl) (fun c a d v w hq => hpan c a d v w hq) (v := (.bool false)) (fun V hV => ex_move (S.get 28 _ rfl) V) hS ?_
    replace S := S.put (by decide : 29 < 40) (.bool false)
    refine env_gen (C := fun a => wpAnyH Tryz.prog _ _ _ _ _ _ a _) S ?_
    clear S; intro a S
    refine dg_val 3 30 rfl (by kernel_rfl) (fun c a d v w hq => hpan c a d v w hq) (wan_yes (j := 2) (t := 29) (b := false) rfl (S.get 29 _ rfl) (by rw [S.sz]; decide)) (v := (.pointer (some ⟨p, q, none⟩))) (fun V hV => ex_move (S.get 0 _ rfl) V) hS ?_
    replace S := S.put (by decide : 30 < 40) (.pointer (some ⟨p, q, none⟩))
    refine env_gen (C := fun a => wpAnyH Tryz.prog _ _ _ _ _ _ a _) S ?_
    clear S; intro a S
    refine dg_val 4 31 rfl (by kernel_rfl) (fun c a d v w hq => hpan c a d v w hq) (wan_yes (j := 2) (t := 29) (b := false) rfl (S.get 29 _ rfl) (by rw [S.sz]; decide)) (v := (.pointer (some ⟨p, q, none⟩))) (fun V hV => ex_nil (S.get 30 _ rfl) V) hS ?_
    replace S := S.put (by decide : 31 < 40) (.pointer (some ⟨p, q, none⟩))
    refine env_gen (C := fun a => wpAnyH Tryz.prog _ _ _ _ _ _ a _) S ?_
    clear S; intro a S
    refine dg_val 5 32 rfl (by kernel_rfl) (fun c a d v w hq => hpan c a d v w hq) (wan_yes (j := 2) (t := 29) (b := false) rfl (S.get 29 _ rfl) (by rw [S.sz]; decide)) (v := (.pointer (some ⟨p, q + 31, none⟩))) (fun V hV => ex_field (S.get 31 _ rfl) (by kernel_rfl) V) hS ?_
    replace S := S.put (by decide : 32 < 40) (.pointer (some ⟨p, q + 31, none⟩))
    refine env_gen (C := fun a => wpAnyH Tryz.prog _ _ _ _ _ _ a _) S ?_
    clear S; intro a S
    refine dg_val 6 33 rfl (by kernel_rfl) (fun c a d v w hq => hpan c a d v w hq) (wan_yes (j := 2) (t := 29) (b := false) rfl (S.get 29 _ rfl) (by rw [S.sz]; decide)) (v := (.agg (List.toArray ss))) (fun V hV => ex_agg (us := ss) (S.get 32 _ rfl) ⟨by kernel_rfl, by kernel_rfl⟩ lss V (sg.frm (Fr.of hV) (Nat.zero_le _) hp)) hS ?_
    replace S := S.put (by decide : 33 < 40) (.agg (List.toArray ss))
    refine env_gen (C := fun a => wpAnyH Tryz.prog _ _ _ _ _ _ a _) S ?_
    clear S; intro a S
    refine dg_val 7 34 rfl (by kernel_rfl) (fun c a d v w hq => hpan c a d v w hq) (wan_yes (j := 2) (t := 29) (b := false) rfl (S.get 29 _ rfl) (by rw [S.sz]; decide)) (v := (.pointer (some ⟨p', q', none⟩))) (fun V hV => ex_move (S.get 1 _ rfl) V) hS ?_
    replace S := S.put (by decide : 34 < 40) (.pointer (some ⟨p', q', none⟩))
    refine env_gen (C := fun a => wpAnyH Tryz.prog _ _ _ _ _ _ a _) S ?_
    clear S; intro a S
    refine dg_val 8 35 rfl (by kernel_rfl) (fun c a d v w hq => hpan c a d v w hq) (wan_yes (j := 2) (t := 29) (b := false) rfl (S.get 29 _ rfl) (by rw [S.sz]; decide)) (v := (.pointer (some ⟨p', q', none⟩))) (fun V hV => ex_nil (S.get 34 _ rfl) V) hS ?_
    replace S := S.put (by decide : 35 < 40) (.pointer (some ⟨p', q', none⟩))
    refine env_gen (C := fun a => wpAnyH Tryz.prog _ _ _ _ _ _ a _) S ?_
    clear S; intro a S
    refine dg_val 9 36 rfl (by kernel_rfl) (fun c a d v w hq => hpan c a d v w hq) (wan_yes (j := 2) (t := 29) (b := false) rfl (S.get 29 _ rfl) (by rw [S.sz]; decide)) (v := (.pointer (some ⟨p', q' + 31, none⟩))) (fun V hV => ex_field (S.get 35 _ rfl) (by kernel_rfl) V) hS ?_
    replace S := S.put (by decide : 36 < 40) (.pointer (some ⟨p', q' + 31, none⟩))
    refine env_gen (C := fun a => wpAnyH Tryz.prog _ _ _ _ _ _ a _) S ?_
    clear S; intro a S
    refine dg_val 10 37 rfl (by kernel_rfl) (fun c a d v w hq => hpan c a d v w hq) (wan_yes (j := 2) (t := 29) (b := false) rfl (S.get 29 _ rfl) (by rw [S.sz]; decide)) (v := (.agg (List.toArray ss'))) (fun V hV => ex_agg (us := ss') (S.get 36 _ rfl) ⟨by kernel_rfl, by kernel_rfl⟩ lss' V (sg'.frm (Fr.of hV) (Nat.zero_le _) hp')) hS ?_
    replace S := S.put (by decide : 37 < 40) (.agg (List.toArray ss'))
    refine env_gen (C := fun a => wpAnyH Tryz.prog _ _ _ _ _ _ a _) S ?_
    clear S; intro a S
    have zq0 : Act.eval _ (.tmp 33) = .agg (List.toArray ss) := S.get 33 _ rfl
    have zq1 : Act.eval _ (.tmp 37) = .agg (List.toArray ss') := S.get 37 _ rfl
    refine dg_call 11 38 (R := fun e V => e = .returned (.bool (sameSt sr sz)) ∧ Below w.drew.drew.heap.size w.drew.drew V) rfl (by kernel_rfl) (wan_yes (j := 2) (t := 29) (b := false) rfl (S.get 29 _ rfl) (by rw [S.sz]; decide)) ⟨_, Tryz.func53, by kernel_rfl, by kernel_rfl⟩ ?_ ?_
    · obtain ⟨_, _, _, _, _, _, _, _, H1⟩ := sta_parts (cState.lat hst M) ht1
      obtain ⟨_, _, _, _, _, _, _, _, H2⟩ := sta_parts (cState.lat hst' M) ht2
      have hc := iSame_c H1 H2
      simp only [List.map_toArray, List.map_cons, List.map_nil, zq0, zq1]; exact hc
    rintro e V7 ⟨rfl, hb8⟩
    have M := M.trans (hb8.mono M.size)
    have z9 := hb8.size
    replace hS := M
    refine ⟨_, rfl, hS, ?_⟩
    replace S := S.put (by decide : 38 < 40) (.bool (sameSt sr sz))
    refine env_gen (C := fun a => wpAnyH Tryz.prog _ _ _ _ _ _ a _) S ?_
    clear S; intro a S
    refine dr_val 12 39 rfl (by kernel_rfl) (fun c a d v w hq => hpan c a d v w hq) (v := (.bool (sameSt sr sz))) (fun V hV => ex_pickF (v := (.bool (sameSt sr sz))) (S.get 29 _ rfl) (S.get 38 _ rfl) V) hS ?_
    replace S := S.put (by decide : 39 < 40) (.bool (sameSt sr sz))
    refine dr_val 13 4 rfl (by kernel_rfl) (fun c a d v w hq => hpan c a d v w hq) (v := (.bool (sameSt sr sz))) (fun V hV => ex_assign (S.get 39 _ rfl) V) hS ?_
    replace S := S.put (by decide : 4 < 40) (.bool (sameSt sr sz))
    refine ⟨by kernel_rfl, ?_⟩
    refine wp_ret ?_
    exact ret_at (P := Tryz.prog) (fn := Tryz.f39) (R := fun e w' => e = .returned (.bool (stP r z)) ∧ Below w.heap.size w w') S rfl rfl ⟨by rw [hsp]; rw [e0]; rfl, M⟩
  case neg =>
    have e0 : (ap == az) = false := by simp [hac]
    refine wp_seq ?_
    have hdr : Below w.heap.size w w.drew := (Below.refl _ w).drew
    have M := M.trans (hdr.mono M.size)
    have z10 := hdr.size
    clear hdr
    refine wp_region_held_drew (S := fun V => Below w.heap.size w V) (by kernel_rfl) M (fun hS => ?_)
    refine dr_val 0 6 rfl (by kernel_rfl) (fun c a d v w hq => hpan c a d v w hq) (v := (.pointer (some ⟨p, q, none⟩))) (fun V hV => ex_move (S.get 0 _ rfl) V) hS ?_
    replace S := S.put (by decide : 6 < 40) (.pointer (some ⟨p, q, none⟩))
    refine dr_val 1 7 rfl (by kernel_rfl) (fun c a d v w hq => hpan c a d v w hq) (v := (.pointer (some ⟨p, q, none⟩))) (fun V hV => ex_nil (S.get 6 _ rfl) V) hS ?_
    replace S := S.put (by decide : 7 < 40) (.pointer (some ⟨p, q, none⟩))
    refine dr_val 2 8 rfl (by kernel_rfl) (fun c a d v w hq => hpan c a d v w hq) (v := (.pointer (some ⟨p, q + 42, none⟩))) (fun V hV => ex_field (S.get 7 _ rfl) (by kernel_rfl) V) hS ?_
    replace S := S.put (by decide : 8 < 40) (.pointer (some ⟨p, q + 42, none⟩))
    refine dr_val 3 9 rfl (by kernel_rfl) (fun c a d v w hq => hpan c a d v w hq) (v := (.bool true)) (fun V hV => ex_load (S.get 8 _ rfl) ⟨by kernel_rfl, by kernel_rfl⟩ V ((hs.frm (Fr.of hV) (Nat.zero_le _) hp) 42 _ hup)) hS ?_
    replace S := S.put (by decide : 9 < 40) (.bool true)
    refine dr_val 4 10 rfl (by kernel_rfl) (fun c a d v w hq => hpan c a d v w hq) (v := (.bool true)) (fun V hV => ex_move (S.get 9 _ rfl) V) hS ?_
    replace S := S.put (by decide : 10 < 40) (.bool true)
    refine env_gen (C := fun a => wpAnyH Tryz.prog _ _ _ _ _ _ a _) S ?_
    clear S; intro a S
    refine dg_val 5 11 rfl (by kernel_rfl) (fun c a d v w hq => hpan c a d v w hq) (wan_yes (j := 4) (t := 10) (b := true) rfl (S.get 10 _ rfl) (by rw [S.sz]; decide)) (v := (.pointer (some ⟨p', q', none⟩))) (fun V hV => ex_move (S.get 1 _ rfl) V) hS ?_
    replace S := S.put (by decide : 11 < 40) (.pointer (some ⟨p', q', none⟩))
    refine env_gen (C := fun a => wpAnyH Tryz.prog _ _ _ _ _ _ a _) S ?_
    clear S; intro a S
    refine dg_val 6 12 rfl (by kernel_rfl) (fun c a d v w hq => hpan c a d v w hq) (wan_yes (j := 4) (t := 10) (b := true) rfl (S.get 10 _ rfl) (by rw [S.sz]; decide)) (v := (.pointer (some ⟨p', q', none⟩))) (fun V hV => ex_nil (S.get 11 _ rfl) V) hS ?_
    replace S := S.put (by decide : 12 < 40) (.pointer (some ⟨p', q', none⟩))
    refine env_gen (C := fun a => wpAnyH Tryz.prog _ _ _ _ _ _ a _) S ?_
    clear S; intro a S
    refine dg_val 7 13 rfl (by kernel_rfl) (fun c a d v w hq => hpan c a d v w hq) (wan_yes (j := 4) (t := 10) (b := true) rfl (S.get 10 _ rfl) (by rw [S.sz]; decide)) (v := (.pointer (some ⟨p', q' + 42, none⟩))) (fun V hV => ex_field (S.get 12 _ rfl) (by kernel_rfl) V) hS ?_
    replace S := S.put (by decide : 13 < 40) (.pointer (some ⟨p', q' + 42, none⟩))
    refine env_gen (C := fun a => wpAnyH Tryz.prog _ _ _ _ _ _ a _) S ?_
    clear S; intro a S
    refine dg_val 8 14 rfl (by kernel_rfl) (fun c a d v w hq => hpan c a d v w hq) (wan_yes (j := 4) (t := 10) (b := true) rfl (S.get 10 _ rfl) (by rw [S.sz]; decide)) (v := (.bool true)) (fun V hV => ex_load (S.get 13 _ rfl) ⟨by kernel_rfl, by kernel_rfl⟩ V ((hs'.frm (Fr.of hV) (Nat.zero_le _) hp') 42 _ hup')) hS ?_
    replace S := S.put (by decide : 14 < 40) (.bool true)
    refine dr_val 9 15 rfl (by kernel_rfl) (fun c a d v w hq => hpan c a d v w hq) (v := (.bool true)) (fun V hV => ex_pickT (v := (.bool true)) (S.get 10 _ rfl) (S.get 14 _ rfl) V) hS ?_
    replace S := S.put (by decide : 15 < 40) (.bool true)
    refine dr_val 10 16 rfl (by kernel_rfl) (fun c a d v w hq => hpan c a d v w hq) (v := (.bool true)) (fun V hV => ex_move (S.get 15 _ rfl) V) hS ?_
    replace S := S.put (by decide : 16 < 40) (.bool true)
    refine env_gen (C := fun a => wpAnyH Tryz.prog _ _ _ _ _ _ a _) S ?_
    clear S; intro a S
    refine dg_val 11 17 rfl (by kernel_rfl) (fun c a d v w hq => hpan c a d v w hq) (wan_yes (j := 10) (t := 16) (b := true) rfl (S.get 16 _ rfl) (by rw [S.sz]; decide)) (v := (.pointer (some ⟨p, q, none⟩))) (fun V hV => ex_move (S.get 0 _ rfl) V) hS ?_
    replace S := S.put (by decide : 17 < 40) (.pointer (some ⟨p, q, none⟩))
    refine env_gen (C := fun a => wpAnyH Tryz.prog _ _ _ _ _ _ a _) S ?_
    clear S; intro a S
    refine dg_val 12 18 rfl (by kernel_rfl) (fun c a d v w hq => hpan c a d v w hq) (wan_yes (j := 10) (t := 16) (b := true) rfl (S.get 16 _ rfl) (by rw [S.sz]; decide)) (v := (.pointer (some ⟨p, q, none⟩))) (fun V hV => ex_nil (S.get 17 _ rfl) V) hS ?_
    replace S := S.put (by decide : 18 < 40) (.pointer (some ⟨p, q, none⟩))
    refine env_gen (C := fun a => wpAnyH Tryz.prog _ _ _ _ _ _ a _) S ?_
    clear S; intro a S
    refine dg_val 13 19 rfl (by kernel_rfl) (fun c a d v w hq => hpan c a d v w hq) (wan_yes (j := 10) (t := 16) (b := true) rfl (S.get 16 _ rfl) (by rw [S.sz]; decide)) (v := (.pointer (some ⟨p, q + 39, none⟩))) (fun V hV => ex_field (S.get 18 _ rfl) (by kernel_rfl) V) hS ?_
    replace S := S.put (by decide : 19 < 40) (.pointer (some ⟨p, q + 39, none⟩))
    refine env_gen (C := fun a => wpAnyH Tryz.prog _ _ _ _ _ _ a _) S ?_
    clear S; intro a S
    refine dg_val 14 20 rfl (by kernel_rfl) (fun c a d v w hq => hpan c a d v w hq) (wan_yes (j := 10) (t := 16) (b := true) rfl (S.get 16 _ rfl) (by rw [S.sz]; decide)) (v := (.int .i64 ap)) (fun V hV => ex_load (S.get 19 _ rfl) ⟨by kernel_rfl, by kernel_rfl⟩ V ((hs.frm (Fr.of hV) (Nat.zero_le _) hp) 39 _ hap)) hS ?_
    replace S := S.put (by decide : 20 < 40) (.int .i64 ap)
    refine env_gen (C := fun a => wpAnyH Tryz.prog _ _ _ _ _ _ a _) S ?_
    clear S; intro a S
    refine dg_val 15 21 rfl (by kernel_rfl) (fun c a d v w hq => hpan c a d v w hq) (wan_yes (j := 10) (t := 16) (b := true) rfl (S.get 16 _ rfl) (by rw [S.sz]; decide)) (v := (.pointer (some ⟨p', q', none⟩))) (fun V hV => ex_move (S.get 1 _ rfl) V) hS ?_
    replace S := S.put (by decide : 21 < 40) (.pointer (some ⟨p', q', none⟩))
    refine env_gen (C := fun a => wpAnyH Tryz.prog _ _ _ _ _ _ a _) S ?_
    clear S; intro a S
    refine dg_val 16 22 rfl (by kernel_rfl) (fun c a d v w hq => hpan c a d v w hq) (wan_yes (j := 10) (t := 16) (b := true) rfl (S.get 16 _ rfl) (by rw [S.sz]; decide)) (v := (.pointer (some ⟨p', q', none⟩))) (fun V hV => ex_nil (S.get 21 _ rfl) V) hS ?_
    replace S := S.put (by decide : 22 < 40) (.pointer (some ⟨p', q', none⟩))
    refine env_gen (C := fun a => wpAnyH Tryz.prog _ _ _ _ _ _ a _) S ?_
    clear S; intro a S
    refine dg_val 17 23 rfl (by kernel_rfl) (fun c a d v w hq => hpan c a d v w hq) (wan_yes (j := 10) (t := 16) (b := true) rfl (S.get 16 _ rfl) (by rw [S.sz]; decide)) (v := (.pointer (some ⟨p', q' + 39, none⟩))) (fun V hV => ex_field (S.get 22 _ rfl) (by kernel_rfl) V) hS ?_
    replace S := S.put (by decide : 23 < 40) (.pointer (some ⟨p', q' + 39, none⟩))
    refine env_gen (C := fun a => wpAnyH Tryz.prog _ _ _ _ _ _ a _) S ?_
    clear S; intro a S
    refine dg_val 18 24 rfl (by kernel_rfl) (fun c a d v w hq => hpan c a d v w hq) (wan_yes (j := 10) (t := 16) (b := true) rfl (S.get 16 _ rfl) (by rw [S.sz]; decide)) (v := (.int .i64 az)) (fun V hV => ex_load (S.get 23 _ rfl) ⟨by kernel_rfl, by kernel_rfl⟩ V ((hs'.frm (Fr.of hV) (Nat.zero_le _) hp') 39 _ hap')) hS ?_
    replace S := S.put (by decide : 24 < 40) (.int .i64 az)
    refine env_gen (C := fun a => wpAnyH Tryz.prog _ _ _ _ _ _ a _) S ?_
    clear S; intro a S
    refine dg_val 19 25 rfl (by kernel_rfl) (fun c a d v w hq => hpan c a d v w hq) (wan_yes (j := 10) (t := 16) (b := true) rfl (S.get 16 _ rfl) (by rw [S.sz]; decide)) (v := (.bool false)) (fun V hV => ex_bin (u := (.int .i64 ap)) (v := (.int .i64 az)) (S.get 20 _ rfl) (S.get 24 _ rfl) V ((run_eqi V).trans (by rw [e0]))) hS ?_
    replace S := S.put (by decide : 25 < 40) (.bool false)
    refine dr_val 20 26 rfl (by kernel_rfl) (fun c a d v w hq => hpan c a d v w hq) (v := (.bool false)) (fun V hV => ex_pickT (v := (.bool false)) (S.get 16 _ rfl) (S.get 25 _ rfl) V) hS ?_
    replace S := S.put (by decide : 26 < 40) (.bool false)
    refine dr_val 21 5 rfl (by kernel_rfl) (fun c a d v w hq => hpan c a d v w hq) (v := (.bool false)) (fun V hV => ex_assign (S.get 26 _ rfl) V) hS ?_
    replace S := S.put (by decide : 5 < 40) (.bool false)
    refine ⟨by kernel_rfl, ?_⟩
    replace S := (((S.nil).add (S.get 0 _ rfl)).add (S.get 1 _ rfl)).add (S.get 5 _ rfl)
    refine env_gen (C := fun a => Code.wp Tryz.prog _ _ a _) S ?_
    clear S; intro a S
    refine wp_seq ?_
    have hdr : Below w.drew.heap.size w.drew w.drew.drew := (Below.refl _ w.drew).drew
    have M := M.trans (hdr.mono M.size)
    have z11 := hdr.size
    clear hdr
    refine wp_region_held_drew (S := fun V => Below w.heap.size w V) (by kernel_rfl) M (fun hS => ?_)
    refine dr_val 0 27 rfl (by kernel_rfl) (fun c a d v w hq => hpan c a d v w hq) (v := (.bool false)) (fun V hV => ex_move (S.get 5 _ rfl) V) hS ?_
    replace S := S.put (by decide : 27 < 40) (.bool false)
    refine dr_val 1 28 rfl (by kernel_rfl) (fun c a d v w hq => hpan c a d v w hq) (v := (.bool true)) (fun V hV => ex_not (b := false) (S.get 27 _ rfl) V) hS ?_
    replace S := S.put (by decide : 28 < 40) (.bool true)
    refine dr_val 2 29 rfl (by kernel_rfl) (fun c a d v w hq => hpan c a d v w hq) (v := (.bool true)) (fun V hV => ex_move (S.get 28 _ rfl) V) hS ?_
    replace S := S.put (by decide : 29 < 40) (.bool true)
    refine env_gen (C := fun a => wpAnyH Tryz.prog _ _ _ _ _ _ a _) S ?_
    clear S; intro a S
    refine dg_skip 3 30 rfl (by kernel_rfl) (fun c a d v w hq => hpan c a d v w hq) (wan_no (j := 2) (t := 29) (b := false) (c := true) rfl (S.get 29 _ rfl) (by decide)) hS ?_
    replace S := S.put (by decide : 30 < 40) undef
    refine env_gen (C := fun a => wpAnyH Tryz.prog _ _ _ _ _ _ a _) S ?_
    clear S; intro a S
    refine dg_skip 4 31 rfl (by kernel_rfl) (fun c a d v w hq => hpan c a d v w hq) (wan_no (j := 2) (t := 29) (b := false) (c := true) rfl (S.get 29 _ rfl) (by decide)) hS ?_
    replace S := S.put (by decide : 31 < 40) undef
    refine env_gen (C := fun a => wpAnyH Tryz.prog _ _ _ _ _ _ a _) S ?_
    clear S; intro a S
    refine dg_skip 5 32 rfl (by kernel_rfl) (fun c a d v w hq => hpan c a d v w hq) (wan_no (j := 2) (t := 29) (b := false) (c := true) rfl (S.get 29 _ rfl) (by decide)) hS ?_
    replace S := S.put (by decide : 32 < 40) undef
    refine env_gen (C := fun a => wpAnyH Tryz.prog _ _ _ _ _ _ a _) S ?_
    clear S; intro a S
    refine dg_skip 6 33 rfl (by kernel_rfl) (fun c a d v w hq => hpan c a d v w hq) (wan_no (j := 2) (t := 29) (b := false) (c := true) rfl (S.get 29 _ rfl) (by decide)) hS ?_
    replace S := S.put (by decide : 33 < 40) undef
    refine env_gen (C := fun a => wpAnyH Tryz.prog _ _ _ _ _ _ a _) S ?_
    clear S; intro a S
    refine dg_skip 7 34 rfl (by kernel_rfl) (fun c a d v w hq => hpan c a d v w hq) (wan_no (j := 2) (t := 29) (b := false) (c := true) rfl (S.get 29 _ rfl) (by decide)) hS ?_
    replace S := S.put (by decide : 34 < 40) undef
    refine env_gen (C := fun a => wpAnyH Tryz.prog _ _ _ _ _ _ a _) S ?_
    clear S; intro a S
    refine dg_skip 8 35 rfl (by kernel_rfl) (fun c a d v w hq => hpan c a d v w hq) (wan_no (j := 2) (t := 29) (b := false) (c := true) rfl (S.get 29 _ rfl) (by decide)) hS ?_
    replace S := S.put (by decide : 35 < 40) undef
    refine env_gen (C := fun a => wpAnyH Tryz.prog _ _ _ _ _ _ a _) S ?_
    clear S; intro a S
    refine dg_skip 9 36 rfl (by kernel_rfl) (fun c a d v w hq => hpan c a d v w hq) (wan_no (j := 2) (t := 29) (b := false) (c := true) rfl (S.get 29 _ rfl) (by decide)) hS ?_
    replace S := S.put (by decide : 36 < 40) undef
    refine env_gen (C := fun a => wpAnyH Tryz.prog _ _ _ _ _ _ a _) S ?_
    clear S; intro a S
    refine dg_skip 10 37 rfl (by kernel_rfl) (fun c a d v w hq => hpan c a d v w hq) (wan_no (j := 2) (t := 29) (b := false) (c := true) rfl (S.get 29 _ rfl) (by decide)) hS ?_
    replace S := S.put (by decide : 37 < 40) undef
    refine env_gen (C := fun a => wpAnyH Tryz.prog _ _ _ _ _ _ a _) S ?_
    clear S; intro a S
    refine dg_skip 11 38 rfl (by kernel_rfl) (fun c a d v w hq => hpan c a d v w hq) (wan_no (j := 2) (t := 29) (b := false) (c := true) rfl (S.get 29 _ rfl) (by decide)) hS ?_
    replace S := S.put (by decide : 38 < 40) undef
    refine dr_val 12 39 rfl (by kernel_rfl) (fun c a d v w hq => hpan c a d v w hq) (v := (.bool true)) (fun V hV => ex_pickT (v := (.bool true)) (S.get 29 _ rfl) rfl V) hS ?_
    replace S := S.put (by decide : 39 < 40) (.bool true)
    refine dr_val 13 4 rfl (by kernel_rfl) (fun c a d v w hq => hpan c a d v w hq) (v := (.bool true)) (fun V hV => ex_assign (S.get 39 _ rfl) V) hS ?_
    replace S := S.put (by decide : 4 < 40) (.bool true)
    refine ⟨by kernel_rfl, ?_⟩
    refine wp_ret ?_
    exact ret_at (P := Tryz.prog) (fn := Tryz.f39) (R := fun e w' => e = .returned (.bool (stP r z)) ∧ Below w.heap.size w w') S rfl rfl ⟨by rw [hsp]; rw [e0]; rfl, M⟩

end Go.Proofs.YtjiplphfpkhmpaaGreat
