/-
  The specification's l6Draw: some book of at most eighty leases, in memory of its own.
-/
import Derived.Test.YtddnofonodgneaaGreatDoorWBk
import Derived.Deep.RegionHeld3
namespace Go.Proofs.YtddnofonodgneaaGreatDoor
open Go.RowKit

/-- A box of noughts for a lease, behind all that. -/
structure BxL (W Y : World) (x : Nat) : Prop where
  z0 : Y.cell? ⟨x, 0, none⟩ = some (.bool false)
  z1 : Y.cell? ⟨x, 1, none⟩ = some (.int .i64 0)
  z2 : Y.cell? ⟨x, 2, none⟩ = some (.int .i64 0)
  z3 : Y.cell? ⟨x, 3, none⟩ = some (.string ⟨#[]⟩)
  z4 : Y.cell? ⟨x, 4, none⟩ = some (.int .i64 0)
  z5 : Y.cell? ⟨x, 5, none⟩ = some (.int .i64 0)
  zF : ∀ o, Y.frozen? ⟨x, o, none⟩ = false
  zl : x < Y.heap.size
  zW : W.heap.size + 2 ≤ x
theorem BxL.keep {c : Nat} {W Y Z : World} {x : Nat} (h : BxL W Y x) (hc : c < W.heap.size) (k : Kp c Y Z) : BxL W Z x := by
  have h1 := h.zl; have h2 := h.zW
  exact ⟨(k.cel _ _ h1 (by omega)).trans h.z0, (k.cel _ _ h1 (by omega)).trans h.z1, (k.cel _ _ h1 (by omega)).trans h.z2, (k.cel _ _ h1 (by omega)).trans h.z3, (k.cel _ _ h1 (by omega)).trans h.z4, (k.cel _ _ h1 (by omega)).trans h.z5, fun o => (k.frz _ _ h1 (by omega)).trans (h.zF o), Nat.lt_of_lt_of_le h1 k.big, h.zW⟩
theorem BxL.mk' (W Y : World) (h : W.heap.size + 2 ≤ Y.heap.size) (t : TypeId) : BxL W (Y.alloc (.cells #[.bool false, .int .i64 0, .int .i64 0, .string ⟨#[]⟩, .int .i64 0, .int .i64 0] t)) Y.heap.size :=
  ⟨by simp [go_sem], by simp [go_sem], by simp [go_sem], by simp [go_sem], by simp [go_sem], by simp [go_sem], fun o => by simp [go_sem], alloc_lt _ _, h⟩
theorem BxL.drew {W Y : World} {x : Nat} (h : BxL W Y x) : BxL W Y.drew x := ⟨h.z0, h.z1, h.z2, h.z3, h.z4, h.z5, h.zF, h.zl, h.zW⟩
/-- The box gets a lease. -/
theorem BkI.box {c : Nat} {a : Option Addr} {len cap : Nat} {W X : World} {b : Option Addr} {n d : Nat} {K N : Int} {ls : List Ls} {x : Nat} (h : BkI c a len cap W X b n d K N ls) (z : BxL W X x) (hr : ∀ k, (Value.slice b n d).ownBlock = some k → k ≠ x) (q : Ls) :
    BkI c a len cap W ((((((X.setCell ⟨x, 0, none⟩ (.bool q.a.s)).setCell ⟨x, 1, none⟩ (.int .i64 q.a.H.toInt)).setCell ⟨x, 2, none⟩ (.int .i64 q.a.L.toInt)).setCell ⟨x, 3, none⟩ (.string q.t)).setCell ⟨x, 4, none⟩ (.int .i64 q.k)).setCell ⟨x, 5, none⟩ (.int .i64 q.u)) b n d K N ls ∧ ((((((X.setCell ⟨x, 0, none⟩ (.bool q.a.s)).setCell ⟨x, 1, none⟩ (.int .i64 q.a.H.toInt)).setCell ⟨x, 2, none⟩ (.int .i64 q.a.L.toInt)).setCell ⟨x, 3, none⟩ (.string q.t)).setCell ⟨x, 4, none⟩ (.int .i64 q.k)).setCell ⟨x, 5, none⟩ (.int .i64 q.u)).cell? ⟨x, 0, none⟩ = some (.bool q.a.s) ∧ ((((((X.setCell ⟨x, 0, none⟩ (.bool q.a.s)).setCell ⟨x, 1, none⟩ (.int .i64 q.a.H.toInt)).setCell ⟨x, 2, none⟩ (.int .i64 q.a.L.toInt)).setCell ⟨x, 3, none⟩ (.string q.t)).setCell ⟨x, 4, none⟩ (.int .i64 q.k)).setCell ⟨x, 5, none⟩ (.int .i64 q.u)).cell? ⟨x, 1, none⟩ = some (.int .i64 q.a.H.toInt) ∧ ((((((X.setCell ⟨x, 0, none⟩ (.bool q.a.s)).setCell ⟨x, 1, none⟩ (.int .i64 q.a.H.toInt)).setCell ⟨x, 2, none⟩ (.int .i64 q.a.L.toInt)).setCell ⟨x, 3, none⟩ (.string q.t)).setCell ⟨x, 4, none⟩ (.int .i64 q.k)).setCell ⟨x, 5, none⟩ (.int .i64 q.u)).cell? ⟨x, 2, none⟩ = some (.int .i64 q.a.L.toInt) ∧ ((((((X.setCell ⟨x, 0, none⟩ (.bool q.a.s)).setCell ⟨x, 1, none⟩ (.int .i64 q.a.H.toInt)).setCell ⟨x, 2, none⟩ (.int .i64 q.a.L.toInt)).setCell ⟨x, 3, none⟩ (.string q.t)).setCell ⟨x, 4, none⟩ (.int .i64 q.k)).setCell ⟨x, 5, none⟩ (.int .i64 q.u)).cell? ⟨x, 4, none⟩ = some (.int .i64 q.k) ∧ x < ((((((X.setCell ⟨x, 0, none⟩ (.bool q.a.s)).setCell ⟨x, 1, none⟩ (.int .i64 q.a.H.toInt)).setCell ⟨x, 2, none⟩ (.int .i64 q.a.L.toInt)).setCell ⟨x, 3, none⟩ (.string q.t)).setCell ⟨x, 4, none⟩ (.int .i64 q.k)).setCell ⟨x, 5, none⟩ (.int .i64 q.u)).heap.size := by
  have h1 := z.zW
  exact ⟨(((((h.far h1 hr _).far h1 hr _).far h1 hr _).far h1 hr _).far h1 hr _).far h1 hr _, by simp [go_sem, z.z0], by simp [go_sem, z.z1], by simp [go_sem, z.z2], by simp [go_sem, z.z4], by simpa using z.zl⟩

set_option maxRecDepth 10000 in
set_option maxHeartbeats 8000000 in
theorem l6Draw_any (c : Nat) (a : Option Addr) (len cap : Nat) (m : Int) (W : World) (hC : Cur W c a len cap) (hm : 0 < m) (hm9 : m ≤ 100) :
    Calls Tryz.prog 40 #[.pointer (some ⟨c, 0, none⟩), .int .i64 m] W fun e W' => ∃ b n d K N ls, e = .returned (.agg #[.slice b n d, .int .i64 K, .int .i64 N]) ∧ n = ls.length ∧ n ≤ 80 ∧ Sml ls ∧ OwnG KLs 35 W' W.heap.size (.slice b n d) ls ∧ Cur W' c a len cap ∧ Kp c W W' := by
  have HC := hidP hC
  have hcl := hC.lt
  clear hC
  go_enter Tryz.func40, Tryz.ntmps40
  go_wp2_with fail
  have HD := hidP (show BkI c a len cap W ((W.alloc (.cells #[.slice none 0 0, .int .i64 0, .int .i64 0] 26)).alloc (.cells #[.slice none 0 0, .int .i64 0, .int .i64 0] 26)) none 0 0 0 0 [] from by
    have b1 := alloc_below W (.cells #[.slice none 0 0, .int .i64 0, .int .i64 0] 26)
    have b2 := alloc_below (W.alloc (.cells #[.slice none 0 0, .int .i64 0, .int .i64 0] 26)) (.cells #[.slice none 0 0, .int .i64 0, .int .i64 0] 26)
    have s1 : (W.alloc (.cells #[.slice none 0 0, .int .i64 0, .int .i64 0] 26)).heap.size = W.heap.size + 1 := by simp
    have bb := b1.trans (b2.mono b1.size)
    exact ⟨HC.out.grew bb, Kp.of_below hcl bb, hcl, by simp, by simp [go_sem], by simp [go_sem], by simp [go_sem], fun o => by simp [go_sem], by simp [go_sem], by simp [go_sem], by simp [go_sem], fun o => by simp [go_sem], own_noneG KLs _ _ _, by omega, fun q hq => by cases hq⟩)
  generalize (W.alloc (.cells #[.slice none 0 0, .int .i64 0, .int .i64 0] 26)).alloc (.cells #[.slice none 0 0, .int .i64 0, .int .i64 0] 26) = W2 at *
  refine (l1Below_any c a len cap m _ HD.out.cur).mono ?_
  rintro e w3 ⟨⟨x, x0, x9, rfl⟩, hC3, hK3⟩
  have HD3 := hidP (HD.out.keep hC3 hK3)
  have hx9 := x9 hm
  obtain ⟨i0, rfl⟩ : ∃ j : Nat, x = (j : Int) := ⟨x.toNat, by omega⟩
  clear hC3 hK3 x9 HD HC
  go_wp2_with fail
  go_loopw [6, 7] (fun t6 _ wr => ∃ (i : Nat) (b : Option Addr) (n d : Nat) (K N : Int) (ls : List Ls), t6 = .int .i64 i ∧ i ≤ 100 ∧ n ≤ 80 ∧ BkI c a len cap W wr b n d K N ls) (fun t6 _ _ => (intOf t6).toNat)
  case atStart => exact ⟨i0, none, 0, 0, 0, 0, [], rfl, by omega, by omega, HD3.out⟩
  case round =>
    obtain ⟨i, b, n, d, K, N, ls, rfl, hi, h80, hD⟩ := hrel
    have HD0 := hidP hD
    obtain ⟨hn, hnd, hd9, hbn⟩ := hD.own.caps
    have HN := hidP (And.intro hn (And.intro hnd (And.intro hd9 hbn)))
    have HS := hidP hD.sml
    clear hD hn hnd hd9 hbn HD3 x0 hx9
    by_cases hi0 : 0 < i
    · have g0 : decide ((0 : Int) < (i : Int)) = true := decide_eq_true (by omega)
      go_wp2_with fail
      refine (l1Below_any c a len cap 6 _ HD0.out.cur).mono ?_
      rintro e w1 ⟨⟨x, x0, x9, rfl⟩, hC1, hK1⟩
      have HD1 := hidP (HD0.out.keep hC1 hK1)
      clear hC1 hK1 x9
      cases hx0 : (x == 0)
      · cases hx1 : (x == 1)
        · go_wp2_with fail
          have HD1d := hidP (HD1.out.drew)
          refine wp_region_held_drew (S := fun _ => True) (by kernel_rfl) trivial (fun hHeld => ?_)
          refine wpAnyH_take (i := 1) (oi := ⟨some 20, _, _, _, _, _⟩) (v := ?_) rfl (by kernel_rfl) (by kernel_rfl) (by kernel_rfl) (fun _ _ _ h => h) (Or.inl ⟨by rfl, ?_⟩) (by assumption) ?_
          rotate_left
          · intro w hSw
            try dsimp only at hSw
            go_simp
            try with_reducible rfl
          simp only [Act.put, List.setIfInBounds_toArray, List.set_cons_zero, List.set_cons_succ]
          refine wpAnyH_take (i := 3) (oi := ⟨some 22, _, _, _, _, _⟩) (v := ?_) rfl (by kernel_rfl) (by kernel_rfl) (by kernel_rfl) (fun _ _ _ h => h) (Or.inl ⟨by rfl, ?_⟩) (by assumption) ?_
          rotate_left
          · intro w hSw
            try dsimp only at hSw
            go_simp
            try with_reducible rfl
          simp only [Act.put, List.setIfInBounds_toArray, List.set_cons_zero, List.set_cons_succ]
          refine wpAnyH_take (i := 5) (oi := ⟨some 24, _, _, _, _, _⟩) (v := ?_) rfl (by kernel_rfl) (by kernel_rfl) (by kernel_rfl) (fun _ _ _ h => h) (Or.inl ⟨by rfl, ?_⟩) (by assumption) ?_
          rotate_left
          · intro w hSw
            try dsimp only at hSw
            go_simp
            try with_reducible rfl
          simp only [Act.put, List.setIfInBounds_toArray, List.set_cons_zero, List.set_cons_succ]
          refine wpAnyH_ready (rs := [0, 2]) (by kernel_rfl) (by simp) ?_
          refine AllReadyH.cons rfl (fun KK hK => ?_) (AllReadyH.cons rfl (fun KK hK => ?_) AllReadyH.nil)
          · have l0 := HD1d.out.d0
            have l1 := HD1d.out.d1
            have l2 := HD1d.out.d2
            go_simp
            clear l0 l1 l2
            refine hK.out _ _ trivial (fun hHeld => ?_)
            clear hK KK
            refine wpAnyH_ready (rs := [2]) (by kernel_rfl) (by simp) ?_
            refine AllReadyH.cons rfl (fun KK hK => ?_) AllReadyH.nil
            go_simp
            go_wp2_with (first | (go_at_call 21; refine (l6Addr_any c a len cap _ HD1d.out.cur).mono ?_; rintro e w5 ⟨⟨ad, rfl⟩, hC5, hK5⟩))
            have HD5 := hidP (HD1d.out.keep hC5 hK5)
            clear hC5 hK5
            refine hK.out _ _ trivial (fun hHeld => ?_)
            clear hK KK
            refine wpAnyH_ready (rs := [4]) (by kernel_rfl) (by simp) ?_
            refine AllReadyH.cons rfl (fun KK hK => ?_) AllReadyH.nil
            go_simp
            go_wp2_with (first | (go_at_call 59; refine (l5Owner_any c a len cap _ HD5.out.cur).mono ?_; rintro e w6 ⟨⟨ow, how, rfl⟩, hC6, hK6⟩))
            have HD6 := hidP (HD5.out.keep hC6 hK6)
            clear hC6 hK6
            refine hK.out _ _ trivial (fun hHeld => ?_)
            clear hK KK
            refine wpAnyH_ready (rs := [6]) (by kernel_rfl) (by simp) ?_
            refine AllReadyH.cons rfl (fun KK hK => ?_) AllReadyH.nil
            go_simp
            go_wp2_with (first | (go_at_call 42; refine (l1Below_any c a len cap 100 _ HD6.out.cur).mono ?_; rintro e w7 ⟨⟨y, y0, y9, rfl⟩, hC7, hK7⟩))
            have HD7 := hidP (HD6.out.keep hC7 hK7)
            clear hC7 hK7
            refine hK.out _ _ trivial (fun hHeld => ?_)
            clear hK KK
            refine wpAnyH_take (i := 7) (oi := ⟨some 26, _, _, _, _, _⟩) (v := ?_) rfl (by kernel_rfl) (by kernel_rfl) (by kernel_rfl) (fun _ _ _ h => h) (Or.inl ⟨by rfl, ?_⟩) (by assumption) ?_
            rotate_left
            · intro w hSw
              try dsimp only at hSw
              go_simp
              try with_reducible rfl
            simp only [Act.put, List.setIfInBounds_toArray, List.set_cons_zero, List.set_cons_succ]
            refine wpAnyH_ready (rs := [8]) (by kernel_rfl) (by simp) ?_
            refine AllReadyH.cons rfl (fun KK hK => ?_) AllReadyH.nil
            go_simp
            go_wp2_with (first | (go_at_call 8; refine (sGr12 b n d K N ls _ HN.out.1 HD7.out.own.row HN.out.2.2.2 h80 HS.out ad ow how _).mono ?_; rintro e w8 ⟨b', n', d', K', ls', v', v2', rfl, ho, hn', hs', hb8⟩))
            have HO := hidP (And.intro ho (And.intro hn' hs'))
            have HB := hidP HD7.out.sz
            have HD8 := hidP (HD7.out.below hb8)
            clear ho hn' hs' hb8
            refine hK.out _ _ trivial (fun hHeld => ?_)
            clear hK KK
            refine wpAnyH_take (i := 9) (oi := ⟨some 18, _, _, _, _, _⟩) (v := ?_) rfl (by kernel_rfl) (by kernel_rfl) (by kernel_rfl) (fun _ _ _ h => h) (Or.inl ⟨by rfl, ?_⟩) (by assumption) ?_
            rotate_left
            · intro w hSw
              try dsimp only at hSw
              go_simp
              try with_reducible rfl
            simp only [Act.put, List.setIfInBounds_toArray, List.set_cons_zero, List.set_cons_succ]
            refine wpAnyH_take (i := 10) (oi := ⟨some 28, _, _, _, _, _⟩) (v := ?_) rfl (by kernel_rfl) (by kernel_rfl) (by kernel_rfl) (fun _ _ _ h => h) (Or.inl ⟨by rfl, ?_⟩) (by assumption) ?_
            rotate_left
            · intro w hSw
              try dsimp only at hSw
              go_simp
              try with_reducible rfl
            simp only [Act.put, List.setIfInBounds_toArray, List.set_cons_zero, List.set_cons_succ]
            refine wpAnyH_take (i := 11) (oi := ⟨some 29, _, _, _, _, _⟩) (v := ?_) rfl (by kernel_rfl) (by kernel_rfl) (by kernel_rfl) (fun _ _ _ h => h) (Or.inl ⟨by rfl, ?_⟩) (by assumption) ?_
            rotate_left
            · intro w hSw
              try dsimp only at hSw
              go_simp
              try with_reducible rfl
            simp only [Act.put, List.setIfInBounds_toArray, List.set_cons_zero, List.set_cons_succ]
            refine wpAnyH_take (i := 12) (oi := ⟨some 30, _, _, _, _, _⟩) (v := ?_) rfl (by kernel_rfl) (by kernel_rfl) (by kernel_rfl) (fun _ _ _ h => h) (Or.inl ⟨by rfl, ?_⟩) (by assumption) ?_
            rotate_left
            · intro w hSw
              try dsimp only at hSw
              go_simp
              try with_reducible rfl
            simp only [Act.put, List.setIfInBounds_toArray, List.set_cons_zero, List.set_cons_succ]
            refine wpAnyH_ready (rs := [13]) (by kernel_rfl) (by simp) ?_
            refine AllReadyH.cons rfl (fun KK hK => ?_) AllReadyH.nil
            have s0 := HD8.out.d0
            have s1 := HD8.out.d1
            have s2 := HD8.out.d2
            have sF := HD8.out.dF
            go_simp
            clear s0 s1 s2 sF
            refine hK.out _ _ trivial (fun hHeld => ?_)
            clear hK KK
            refine wpAnyH_done (by kernel_rfl) ?_ _
            clear hHeld
            go_wp2_with fail
            go_roundw
            case rel => exact ⟨i - 1, b', n', d', K', N, ls', by go_num, by omega, HO.out.2.1, HD8.out.put HB.out HO.out.1 (by have := HO.out.2.1; omega) HO.out.2.2⟩
            case measure => simp [intOf]; omega
          · go_simp
            go_wp2_with (first | (go_at_call 21; refine (l6Addr_any c a len cap _ HD1d.out.cur).mono ?_; rintro e w5 ⟨⟨ad, rfl⟩, hC5, hK5⟩))
            have HD5 := hidP (HD1d.out.keep hC5 hK5)
            clear hC5 hK5
            refine hK.out _ _ trivial (fun hHeld => ?_)
            clear hK KK
            refine wpAnyH_ready (rs := [0, 4]) (by kernel_rfl) (by simp) ?_
            refine AllReadyH.cons rfl (fun KK hK => ?_) (AllReadyH.cons rfl (fun KK hK => ?_) AllReadyH.nil)
            · have l0 := HD5.out.d0
              have l1 := HD5.out.d1
              have l2 := HD5.out.d2
              go_simp
              clear l0 l1 l2
              refine hK.out _ _ trivial (fun hHeld => ?_)
              clear hK KK
              refine wpAnyH_ready (rs := [4]) (by kernel_rfl) (by simp) ?_
              refine AllReadyH.cons rfl (fun KK hK => ?_) AllReadyH.nil
              go_simp
              go_wp2_with (first | (go_at_call 59; refine (l5Owner_any c a len cap _ HD5.out.cur).mono ?_; rintro e w6 ⟨⟨ow, how, rfl⟩, hC6, hK6⟩))
              have HD6 := hidP (HD5.out.keep hC6 hK6)
              clear hC6 hK6
              refine hK.out _ _ trivial (fun hHeld => ?_)
              clear hK KK
              refine wpAnyH_ready (rs := [6]) (by kernel_rfl) (by simp) ?_
              refine AllReadyH.cons rfl (fun KK hK => ?_) AllReadyH.nil
              go_simp
              go_wp2_with (first | (go_at_call 42; refine (l1Below_any c a len cap 100 _ HD6.out.cur).mono ?_; rintro e w7 ⟨⟨y, y0, y9, rfl⟩, hC7, hK7⟩))
              have HD7 := hidP (HD6.out.keep hC7 hK7)
              clear hC7 hK7
              refine hK.out _ _ trivial (fun hHeld => ?_)
              clear hK KK
              refine wpAnyH_take (i := 7) (oi := ⟨some 26, _, _, _, _, _⟩) (v := ?_) rfl (by kernel_rfl) (by kernel_rfl) (by kernel_rfl) (fun _ _ _ h => h) (Or.inl ⟨by rfl, ?_⟩) (by assumption) ?_
              rotate_left
              · intro w hSw
                try dsimp only at hSw
                go_simp
                try with_reducible rfl
              simp only [Act.put, List.setIfInBounds_toArray, List.set_cons_zero, List.set_cons_succ]
              refine wpAnyH_ready (rs := [8]) (by kernel_rfl) (by simp) ?_
              refine AllReadyH.cons rfl (fun KK hK => ?_) AllReadyH.nil
              go_simp
              go_wp2_with (first | (go_at_call 8; refine (sGr12 b n d K N ls _ HN.out.1 HD7.out.own.row HN.out.2.2.2 h80 HS.out ad ow how _).mono ?_; rintro e w8 ⟨b', n', d', K', ls', v', v2', rfl, ho, hn', hs', hb8⟩))
              have HO := hidP (And.intro ho (And.intro hn' hs'))
              have HB := hidP HD7.out.sz
              have HD8 := hidP (HD7.out.below hb8)
              clear ho hn' hs' hb8
              refine hK.out _ _ trivial (fun hHeld => ?_)
              clear hK KK
              refine wpAnyH_take (i := 9) (oi := ⟨some 18, _, _, _, _, _⟩) (v := ?_) rfl (by kernel_rfl) (by kernel_rfl) (by kernel_rfl) (fun _ _ _ h => h) (Or.inl ⟨by rfl, ?_⟩) (by assumption) ?_
              rotate_left
              · intro w hSw
                try dsimp only at hSw
                go_simp
                try with_reducible rfl
              simp only [Act.put, List.setIfInBounds_toArray, List.set_cons_zero, List.set_cons_succ]
              refine wpAnyH_take (i := 10) (oi := ⟨some 28, _, _, _, _, _⟩) (v := ?_) rfl (by kernel_rfl) (by kernel_rfl) (by kernel_rfl) (fun _ _ _ h => h) (Or.inl ⟨by rfl, ?_⟩) (by assumption) ?_
              rotate_left
              · intro w hSw
                try dsimp only at hSw
                go_simp
                try with_reducible rfl
              simp only [Act.put, List.setIfInBounds_toArray, List.set_cons_zero, List.set_cons_succ]
              refine wpAnyH_take (i := 11) (oi := ⟨some 29, _, _, _, _, _⟩) (v := ?_) rfl (by kernel_rfl) (by kernel_rfl) (by kernel_rfl) (fun _ _ _ h => h) (Or.inl ⟨by rfl, ?_⟩) (by assumption) ?_
              rotate_left
              · intro w hSw
                try dsimp only at hSw
                go_simp
                try with_reducible rfl
              simp only [Act.put, List.setIfInBounds_toArray, List.set_cons_zero, List.set_cons_succ]
              refine wpAnyH_take (i := 12) (oi := ⟨some 30, _, _, _, _, _⟩) (v := ?_) rfl (by kernel_rfl) (by kernel_rfl) (by kernel_rfl) (fun _ _ _ h => h) (Or.inl ⟨by rfl, ?_⟩) (by assumption) ?_
              rotate_left
              · intro w hSw
                try dsimp only at hSw
                go_simp
                try with_reducible rfl
              simp only [Act.put, List.setIfInBounds_toArray, List.set_cons_zero, List.set_cons_succ]
              refine wpAnyH_ready (rs := [13]) (by kernel_rfl) (by simp) ?_
              refine AllReadyH.cons rfl (fun KK hK => ?_) AllReadyH.nil
              have s0 := HD8.out.d0
              have s1 := HD8.out.d1
              have s2 := HD8.out.d2
              have sF := HD8.out.dF
              go_simp
              clear s0 s1 s2 sF
              refine hK.out _ _ trivial (fun hHeld => ?_)
              clear hK KK
              refine wpAnyH_done (by kernel_rfl) ?_ _
              clear hHeld
              go_wp2_with fail
              go_roundw
              case rel => exact ⟨i - 1, b', n', d', K', N, ls', by go_num, by omega, HO.out.2.1, HD8.out.put HB.out HO.out.1 (by have := HO.out.2.1; omega) HO.out.2.2⟩
              case measure => simp [intOf]; omega
            · go_simp
              go_wp2_with (first | (go_at_call 59; refine (l5Owner_any c a len cap _ HD5.out.cur).mono ?_; rintro e w6 ⟨⟨ow, how, rfl⟩, hC6, hK6⟩))
              have HD6 := hidP (HD5.out.keep hC6 hK6)
              clear hC6 hK6
              refine hK.out _ _ trivial (fun hHeld => ?_)
              clear hK KK
              refine wpAnyH_ready (rs := [0, 6]) (by kernel_rfl) (by simp) ?_
              refine AllReadyH.cons rfl (fun KK hK => ?_) (AllReadyH.cons rfl (fun KK hK => ?_) AllReadyH.nil)
              · have l0 := HD6.out.d0
                have l1 := HD6.out.d1
                have l2 := HD6.out.d2
                go_simp
                clear l0 l1 l2
                refine hK.out _ _ trivial (fun hHeld => ?_)
                clear hK KK
                refine wpAnyH_ready (rs := [6]) (by kernel_rfl) (by simp) ?_
                refine AllReadyH.cons rfl (fun KK hK => ?_) AllReadyH.nil
                go_simp
                go_wp2_with (first | (go_at_call 42; refine (l1Below_any c a len cap 100 _ HD6.out.cur).mono ?_; rintro e w7 ⟨⟨y, y0, y9, rfl⟩, hC7, hK7⟩))
                have HD7 := hidP (HD6.out.keep hC7 hK7)
                clear hC7 hK7
                refine hK.out _ _ trivial (fun hHeld => ?_)
                clear hK KK
                refine wpAnyH_take (i := 7) (oi := ⟨some 26, _, _, _, _, _⟩) (v := ?_) rfl (by kernel_rfl) (by kernel_rfl) (by kernel_rfl) (fun _ _ _ h => h) (Or.inl ⟨by rfl, ?_⟩) (by assumption) ?_
                rotate_left
                · intro w hSw
                  try dsimp only at hSw
                  go_simp
                  try with_reducible rfl
                simp only [Act.put, List.setIfInBounds_toArray, List.set_cons_zero, List.set_cons_succ]
                refine wpAnyH_ready (rs := [8]) (by kernel_rfl) (by simp) ?_
                refine AllReadyH.cons rfl (fun KK hK => ?_) AllReadyH.nil
                go_simp
                go_wp2_with (first | (go_at_call 8; refine (sGr12 b n d K N ls _ HN.out.1 HD7.out.own.row HN.out.2.2.2 h80 HS.out ad ow how _).mono ?_; rintro e w8 ⟨b', n', d', K', ls', v', v2', rfl, ho, hn', hs', hb8⟩))
                have HO := hidP (And.intro ho (And.intro hn' hs'))
                have HB := hidP HD7.out.sz
                have HD8 := hidP (HD7.out.below hb8)
                clear ho hn' hs' hb8
                refine hK.out _ _ trivial (fun hHeld => ?_)
                clear hK KK
                refine wpAnyH_take (i := 9) (oi := ⟨some 18, _, _, _, _, _⟩) (v := ?_) rfl (by kernel_rfl) (by kernel_rfl) (by kernel_rfl) (fun _ _ _ h => h) (Or.inl ⟨by rfl, ?_⟩) (by assumption) ?_
                rotate_left
                · intro w hSw
                  try dsimp only at hSw
                  go_simp
                  try with_reducible rfl
                simp only [Act.put, List.setIfInBounds_toArray, List.set_cons_zero, List.set_cons_succ]
                refine wpAnyH_take (i := 10) (oi := ⟨some 28, _, _, _, _, _⟩) (v := ?_) rfl (by kernel_rfl) (by kernel_rfl) (by kernel_rfl) (fun _ _ _ h => h) (Or.inl ⟨by rfl, ?_⟩) (by assumption) ?_
                rotate_left
                · intro w hSw
                  try dsimp only at hSw
                  go_simp
                  try with_reducible rfl
                simp only [Act.put, List.setIfInBounds_toArray, List.set_cons_zero, List.set_cons_succ]
                refine wpAnyH_take (i := 11) (oi := ⟨some 29, _, _, _, _, _⟩) (v := ?_) rfl (by kernel_rfl) (by kernel_rfl) (by kernel_rfl) (fun _ _ _ h => h) (Or.inl ⟨by rfl, ?_⟩) (by assumption) ?_
                rotate_left
                · intro w hSw
                  try dsimp only at hSw
                  go_simp
                  try with_reducible rfl
                simp only [Act.put, List.setIfInBounds_toArray, List.set_cons_zero, List.set_cons_succ]
                refine wpAnyH_take (i := 12) (oi := ⟨some 30, _, _, _, _, _⟩) (v := ?_) rfl (by kernel_rfl) (by kernel_rfl) (by kernel_rfl) (fun _ _ _ h => h) (Or.inl ⟨by rfl, ?_⟩) (by assumption) ?_
                rotate_left
                · intro w hSw
                  try dsimp only at hSw
                  go_simp
                  try with_reducible rfl
                simp only [Act.put, List.setIfInBounds_toArray, List.set_cons_zero, List.set_cons_succ]
                refine wpAnyH_ready (rs := [13]) (by kernel_rfl) (by simp) ?_
                refine AllReadyH.cons rfl (fun KK hK => ?_) AllReadyH.nil
                have s0 := HD8.out.d0
                have s1 := HD8.out.d1
                have s2 := HD8.out.d2
                have sF := HD8.out.dF
                go_simp
                clear s0 s1 s2 sF
                refine hK.out _ _ trivial (fun hHeld => ?_)
                clear hK KK
                refine wpAnyH_done (by kernel_rfl) ?_ _
                clear hHeld
                go_wp2_with fail
                go_roundw
                case rel => exact ⟨i - 1, b', n', d', K', N, ls', by go_num, by omega, HO.out.2.1, HD8.out.put HB.out HO.out.1 (by have := HO.out.2.1; omega) HO.out.2.2⟩
                case measure => simp [intOf]; omega
              · go_simp
                go_wp2_with (first | (go_at_call 42; refine (l1Below_any c a len cap 100 _ HD6.out.cur).mono ?_; rintro e w7 ⟨⟨y, y0, y9, rfl⟩, hC7, hK7⟩))
                have HD7 := hidP (HD6.out.keep hC7 hK7)
                clear hC7 hK7
                refine hK.out _ _ trivial (fun hHeld => ?_)
                clear hK KK
                refine wpAnyH_take (i := 7) (oi := ⟨some 26, _, _, _, _, _⟩) (v := ?_) rfl (by kernel_rfl) (by kernel_rfl) (by kernel_rfl) (fun _ _ _ h => h) (Or.inl ⟨by rfl, ?_⟩) (by assumption) ?_
                rotate_left
                · intro w hSw
                  try dsimp only at hSw
                  go_simp
                  try with_reducible rfl
                simp only [Act.put, List.setIfInBounds_toArray, List.set_cons_zero, List.set_cons_succ]
                refine wpAnyH_ready (rs := [0]) (by kernel_rfl) (by simp) ?_
                refine AllReadyH.cons rfl (fun KK hK => ?_) AllReadyH.nil
                have l0 := HD7.out.d0
                have l1 := HD7.out.d1
                have l2 := HD7.out.d2
                go_simp
                clear l0 l1 l2
                refine hK.out _ _ trivial (fun hHeld => ?_)
                clear hK KK
                refine wpAnyH_ready (rs := [8]) (by kernel_rfl) (by simp) ?_
                refine AllReadyH.cons rfl (fun KK hK => ?_) AllReadyH.nil
                go_simp
                go_wp2_with (first | (go_at_call 8; refine (sGr12 b n d K N ls _ HN.out.1 HD7.out.own.row HN.out.2.2.2 h80 HS.out ad ow how _).mono ?_; rintro e w8 ⟨b', n', d', K', ls', v', v2', rfl, ho, hn', hs', hb8⟩))
                have HO := hidP (And.intro ho (And.intro hn' hs'))
                have HB := hidP HD7.out.sz
                have HD8 := hidP (HD7.out.below hb8)
                clear ho hn' hs' hb8
                refine hK.out _ _ trivial (fun hHeld => ?_)
                clear hK KK
                refine wpAnyH_take (i := 9) (oi := ⟨some 18, _, _, _, _, _⟩) (v := ?_) rfl (by kernel_rfl) (by kernel_rfl) (by kernel_rfl) (fun _ _ _ h => h) (Or.inl ⟨by rfl, ?_⟩) (by assumption) ?_
                rotate_left
                · intro w hSw
                  try dsimp only at hSw
                  go_simp
                  try with_reducible rfl
                simp only [Act.put, List.setIfInBounds_toArray, List.set_cons_zero, List.set_cons_succ]
                refine wpAnyH_take (i := 10) (oi := ⟨some 28, _, _, _, _, _⟩) (v := ?_) rfl (by kernel_rfl) (by kernel_rfl) (by kernel_rfl) (fun _ _ _ h => h) (Or.inl ⟨by rfl, ?_⟩) (by assumption) ?_
                rotate_left
                · intro w hSw
                  try dsimp only at hSw
                  go_simp
                  try with_reducible rfl
                simp only [Act.put, List.setIfInBounds_toArray, List.set_cons_zero, List.set_cons_succ]
                refine wpAnyH_take (i := 11) (oi := ⟨some 29, _, _, _, _, _⟩) (v := ?_) rfl (by kernel_rfl) (by kernel_rfl) (by kernel_rfl) (fun _ _ _ h => h) (Or.inl ⟨by rfl, ?_⟩) (by assumption) ?_
                rotate_left
                · intro w hSw
                  try dsimp only at hSw
                  go_simp
                  try with_reducible rfl
                simp only [Act.put, List.setIfInBounds_toArray, List.set_cons_zero, List.set_cons_succ]
                refine wpAnyH_take (i := 12) (oi := ⟨some 30, _, _, _, _, _⟩) (v := ?_) rfl (by kernel_rfl) (by kernel_rfl) (by kernel_rfl) (fun _ _ _ h => h) (Or.inl ⟨by rfl, ?_⟩) (by assumption) ?_
                rotate_left
                · intro w hSw
                  try dsimp only at hSw
                  go_simp
                  try with_reducible rfl
                simp only [Act.put, List.setIfInBounds_toArray, List.set_cons_zero, List.set_cons_succ]
                refine wpAnyH_ready (rs := [13]) (by kernel_rfl) (by simp) ?_
                refine AllReadyH.cons rfl (fun KK hK => ?_) AllReadyH.nil
                have s0 := HD8.out.d0
                have s1 := HD8.out.d1
                have s2 := HD8.out.d2
                have sF := HD8.out.dF
                go_simp
                clear s0 s1 s2 sF
                refine hK.out _ _ trivial (fun hHeld => ?_)
                clear hK KK
                refine wpAnyH_done (by kernel_rfl) ?_ _
                clear hHeld
                go_wp2_with fail
                go_roundw
                case rel => exact ⟨i - 1, b', n', d', K', N, ls', by go_num, by omega, HO.out.2.1, HD8.out.put HB.out HO.out.1 (by have := HO.out.2.1; omega) HO.out.2.2⟩
                case measure => simp [intOf]; omega
        · by_cases hn0 : 0 < n
          · have gn : decide ((0 : Int) < (n : Int)) = true := decide_eq_true (by omega)
            obtain ⟨g, rfl⟩ := own_some HD1.out.own hn0
            have p0 := HD1.out.d0
            go_wp2_with fail
            clear p0
            have HD1d := hidP (HD1.out.drew)
            refine wp_region_held_drew (S := (fun X => X.cell? ⟨W.heap.size + 1, 0, none⟩ = some (.slice (some ⟨g, 0, none⟩) n d))) (by kernel_rfl) ?_ (fun hHeld => ?_)
            · try dsimp only
              exact HD1d.out.d0
            refine wpAnyH_take (i := 0) (oi := ⟨some 49, _, _, _, _, _⟩) (v := ?_) rfl (by kernel_rfl) (by kernel_rfl) (by kernel_rfl) (fun _ _ _ h => h) (Or.inl ⟨by rfl, ?_⟩) (by assumption) ?_
            rotate_left
            · intro w hSw
              try dsimp only at hSw
              go_simp
              try with_reducible rfl
            simp only [Act.put, List.setIfInBounds_toArray, List.set_cons_zero, List.set_cons_succ]
            refine wpAnyH_take (i := 1) (oi := ⟨some 50, _, _, _, _, _⟩) (v := ?_) rfl (by kernel_rfl) (by kernel_rfl) (by kernel_rfl) (fun _ _ _ h => h) (Or.inl ⟨by rfl, ?_⟩) (by assumption) ?_
            rotate_left
            · intro w hSw
              try dsimp only at hSw
              go_simp
              try with_reducible rfl
            simp only [Act.put, List.setIfInBounds_toArray, List.set_cons_zero, List.set_cons_succ]
            refine wpAnyH_take (i := 2) (oi := ⟨some 51, _, _, _, _, _⟩) (v := ?_) rfl (by kernel_rfl) (by kernel_rfl) (by kernel_rfl) (fun _ _ _ h => h) (Or.inl ⟨by rfl, ?_⟩) (by assumption) ?_
            rotate_left
            · intro w hSw
              try dsimp only at hSw
              go_simp
              try with_reducible rfl
            simp only [Act.put, List.setIfInBounds_toArray, List.set_cons_zero, List.set_cons_succ]
            refine wpAnyH_take (i := 3) (oi := ⟨some 52, _, _, _, _, _⟩) (v := ?_) rfl (by kernel_rfl) (by kernel_rfl) (by kernel_rfl) (fun _ _ _ h => h) (Or.inl ⟨by rfl, ?_⟩) (by assumption) ?_
            rotate_left
            · intro w hSw
              try dsimp only at hSw
              go_simp
              try with_reducible rfl
            simp only [Act.put, List.setIfInBounds_toArray, List.set_cons_zero, List.set_cons_succ]
            refine wpAnyH_take (i := 4) (oi := ⟨some 53, _, _, _, _, _⟩) (v := ?_) rfl (by kernel_rfl) (by kernel_rfl) (by kernel_rfl) (fun _ _ _ h => h) (Or.inl ⟨by rfl, ?_⟩) (by assumption) ?_
            rotate_left
            · intro w hSw
              try dsimp only at hSw
              go_simp
              try with_reducible rfl
            simp only [Act.put, List.setIfInBounds_toArray, List.set_cons_zero, List.set_cons_succ]
            refine wpAnyH_take (i := 5) (oi := ⟨some 54, _, _, _, _, _⟩) (v := ?_) rfl (by kernel_rfl) (by kernel_rfl) (by kernel_rfl) (fun _ _ _ h => h) (Or.inl ⟨by rfl, ?_⟩) (by assumption) ?_
            rotate_left
            · intro w hSw
              try dsimp only at hSw
              go_simp
              try with_reducible rfl
            simp only [Act.put, List.setIfInBounds_toArray, List.set_cons_zero, List.set_cons_succ]
            refine wpAnyH_ready (rs := [6, 9]) (by kernel_rfl) (by simp) ?_
            refine AllReadyH.cons rfl (fun KK hK => ?_) (AllReadyH.cons rfl (fun KK hK => ?_) AllReadyH.nil)
            · go_simp
              go_wp2_with (first | (go_at_call 42; refine (l1Below_any c a len cap n _ HD1d.out.cur).mono ?_; rintro e w4 ⟨⟨y, y0, y9, rfl⟩, hC4, hK4⟩))
              have y9' := y9 (by omega)
              obtain ⟨j, rfl⟩ : ∃ j : Nat, y = (j : Int) := ⟨y.toNat, by omega⟩
              have hjn : j < n := by omega
              have j0 : (0 : Int) ≤ (j : Int) := by omega
              have j1 : (j : Int) < (n : Int) := by omega
              have HD4 := hidP (HD1d.out.keep hC4 hK4)
              clear hC4 hK4 y9 y9' y0
              refine hK.out _ _ ?_ (fun hHeld => ?_)
              · try dsimp only
                exact HD4.out.d0
              clear hK KK
              refine wpAnyH_take (i := 7) (oi := ⟨some 56, _, _, _, _, _⟩) (v := ?_) rfl (by kernel_rfl) (by kernel_rfl) (by kernel_rfl) (fun _ _ _ h => h) (Or.inl ⟨by rfl, ?_⟩) (by assumption) ?_
              rotate_left
              · intro w hSw
                try dsimp only at hSw
                go_simp
                try with_reducible rfl
              simp only [Act.put, List.setIfInBounds_toArray, List.set_cons_zero, List.set_cons_succ]
              refine wpAnyH_ready (rs := [8, 9]) (by kernel_rfl) (by simp) ?_
              refine AllReadyH.cons rfl (fun KK hK => ?_) (AllReadyH.cons rfl (fun KK hK => ?_) AllReadyH.nil)
              · obtain ⟨q, hgl, hq, c0, c1, c2, c3, c4, c5⟩ := rowLs0 HD4.out.own j (by rw [← HN.out.1]; exact hjn)
                go_simp
                clear c0 c1 c2 c3 c4 c5 hq
                refine hK.out _ _ ?_ (fun hHeld => ?_)
                · try dsimp only
                  exact HD4.out.d0
                clear hK KK
                refine wpAnyH_ready (rs := [9]) (by kernel_rfl) (by simp) ?_
                refine AllReadyH.cons rfl (fun KK hK => ?_) AllReadyH.nil
                go_simp
                have HZ3 := hidP (BxL.mk' W w4 HD4.out.sz 35)
                have zb := alloc_below w4 (.cells #[.bool false, .int .i64 0, .int .i64 0, .string ⟨#[]⟩, .int .i64 0, .int .i64 0] 35)
                have HDa := hidP (HD4.out.below zb)
                have HNx : Hid (∀ k, (Value.slice (some ⟨g, 0, none⟩) n d).ownBlock = some k → k ≠ w4.heap.size) := hidP (fun k hk => Nat.ne_of_lt (OwnG.lt HD4.out.own k hk).2)
                clear zb
                generalize w4.alloc (.cells #[.bool false, .int .i64 0, .int .i64 0, .string ⟨#[]⟩, .int .i64 0, .int .i64 0] 35) = w3 at *
                refine hK.out _ _ ?_ (fun hHeld => ?_)
                · try dsimp only
                  exact HDa.out.d0
                clear hK KK
                refine wpAnyH_ready (rs := [10]) (by kernel_rfl) (by simp) ?_
                refine AllReadyH.cons rfl (fun KK hK => ?_) AllReadyH.nil
                have HX := hidP (HDa.out.box HZ3.out HNx.out q)
                have s0 := HZ3.out.z0
                have s1 := HZ3.out.z1
                have s2 := HZ3.out.z2
                have s3 := HZ3.out.z3
                have s4 := HZ3.out.z4
                have s5 := HZ3.out.z5
                have sF := HZ3.out.zF
                go_simp
                clear s0 s1 s2 s3 s4 s5 sF
                refine hK.out _ _ ?_ (fun hHeld => ?_)
                · try dsimp only
                  exact HX.out.1.d0
                clear hK KK
                refine wpAnyH_done (by kernel_rfl) ?_ _
                clear hHeld
                obtain ⟨hA, b0, b1, b2, b4, bl⟩ := HX.out
                have HA := hidP hA
                clear HX hA
                generalize ((((((w3.setCell ⟨w4.heap.size, 0, none⟩ (.bool q.a.s)).setCell ⟨w4.heap.size, 1, none⟩ (.int .i64 q.a.H.toInt)).setCell ⟨w4.heap.size, 2, none⟩ (.int .i64 q.a.L.toInt)).setCell ⟨w4.heap.size, 3, none⟩ (.string q.t)).setCell ⟨w4.heap.size, 4, none⟩ (.int .i64 q.k)).setCell ⟨w4.heap.size, 5, none⟩ (.int .i64 q.u)) = Y at *
                obtain ⟨bx, hbx⟩ : ∃ x, x = w4.heap.size := ⟨_, rfl⟩
                rw [← hbx] at b0 b1 b2 b4 bl ⊢
                clear hbx
                have p0 := HA.out.d0
                have p1 := HA.out.d1
                have p2 := HA.out.d2
                go_wp2_with fail
                refine (sRel12 (some ⟨g, 0, none⟩) n d K N ls _ HN.out.1 HA.out.own.row HN.out.2.2.2 h80 HS.out (by have := HN.out; omega) HN.out.2.2.1 (fun _ => ⟨g, rfl⟩) q.a _).mono ?_
                rintro e w9 ⟨b', n', d', ls', v', rfl, ho, hn', hs', hb9⟩
                have HO := hidP (And.intro ho (And.intro hn' hs'))
                have HB := hidP HA.out.sz
                have HD9 := hidP (HA.out.below hb9)
                clear ho hn' hs' hb9 p0 p1 p2 b0 b1 b2 b4 bl
                have s0 := HD9.out.d0
                have s1 := HD9.out.d1
                have s2 := HD9.out.d2
                have sF := HD9.out.dF
                go_wp2_with fail
                go_roundw
                case rel => exact ⟨i - 1, b', n', d', K, N, ls', by go_num, by omega, HO.out.2.1, HD9.out.put HB.out HO.out.1 (by have := HO.out.2.1; omega) HO.out.2.2⟩
                case measure => simp [intOf]; omega
              · go_simp
                have HZ3 := hidP (BxL.mk' W w4 HD4.out.sz 35)
                have zb := alloc_below w4 (.cells #[.bool false, .int .i64 0, .int .i64 0, .string ⟨#[]⟩, .int .i64 0, .int .i64 0] 35)
                have HDa := hidP (HD4.out.below zb)
                have HNx : Hid (∀ k, (Value.slice (some ⟨g, 0, none⟩) n d).ownBlock = some k → k ≠ w4.heap.size) := hidP (fun k hk => Nat.ne_of_lt (OwnG.lt HD4.out.own k hk).2)
                clear zb
                generalize w4.alloc (.cells #[.bool false, .int .i64 0, .int .i64 0, .string ⟨#[]⟩, .int .i64 0, .int .i64 0] 35) = w3 at *
                refine hK.out _ _ ?_ (fun hHeld => ?_)
                · try dsimp only
                  exact HDa.out.d0
                clear hK KK
                refine wpAnyH_ready (rs := [8]) (by kernel_rfl) (by simp) ?_
                refine AllReadyH.cons rfl (fun KK hK => ?_) AllReadyH.nil
                obtain ⟨q, hgl, hq, c0, c1, c2, c3, c4, c5⟩ := rowLs0 HDa.out.own j (by rw [← HN.out.1]; exact hjn)
                go_simp
                clear c0 c1 c2 c3 c4 c5 hq
                refine hK.out _ _ ?_ (fun hHeld => ?_)
                · try dsimp only
                  exact HDa.out.d0
                clear hK KK
                refine wpAnyH_ready (rs := [10]) (by kernel_rfl) (by simp) ?_
                refine AllReadyH.cons rfl (fun KK hK => ?_) AllReadyH.nil
                have HX := hidP (HDa.out.box HZ3.out HNx.out q)
                have s0 := HZ3.out.z0
                have s1 := HZ3.out.z1
                have s2 := HZ3.out.z2
                have s3 := HZ3.out.z3
                have s4 := HZ3.out.z4
                have s5 := HZ3.out.z5
                have sF := HZ3.out.zF
                go_simp
                clear s0 s1 s2 s3 s4 s5 sF
                refine hK.out _ _ ?_ (fun hHeld => ?_)
                · try dsimp only
                  exact HX.out.1.d0
                clear hK KK
                refine wpAnyH_done (by kernel_rfl) ?_ _
                clear hHeld
                obtain ⟨hA, b0, b1, b2, b4, bl⟩ := HX.out
                have HA := hidP hA
                clear HX hA
                generalize ((((((w3.setCell ⟨w4.heap.size, 0, none⟩ (.bool q.a.s)).setCell ⟨w4.heap.size, 1, none⟩ (.int .i64 q.a.H.toInt)).setCell ⟨w4.heap.size, 2, none⟩ (.int .i64 q.a.L.toInt)).setCell ⟨w4.heap.size, 3, none⟩ (.string q.t)).setCell ⟨w4.heap.size, 4, none⟩ (.int .i64 q.k)).setCell ⟨w4.heap.size, 5, none⟩ (.int .i64 q.u)) = Y at *
                obtain ⟨bx, hbx⟩ : ∃ x, x = w4.heap.size := ⟨_, rfl⟩
                rw [← hbx] at b0 b1 b2 b4 bl ⊢
                clear hbx
                have p0 := HA.out.d0
                have p1 := HA.out.d1
                have p2 := HA.out.d2
                go_wp2_with fail
                refine (sRel12 (some ⟨g, 0, none⟩) n d K N ls _ HN.out.1 HA.out.own.row HN.out.2.2.2 h80 HS.out (by have := HN.out; omega) HN.out.2.2.1 (fun _ => ⟨g, rfl⟩) q.a _).mono ?_
                rintro e w9 ⟨b', n', d', ls', v', rfl, ho, hn', hs', hb9⟩
                have HO := hidP (And.intro ho (And.intro hn' hs'))
                have HB := hidP HA.out.sz
                have HD9 := hidP (HA.out.below hb9)
                clear ho hn' hs' hb9 p0 p1 p2 b0 b1 b2 b4 bl
                have s0 := HD9.out.d0
                have s1 := HD9.out.d1
                have s2 := HD9.out.d2
                have sF := HD9.out.dF
                go_wp2_with fail
                go_roundw
                case rel => exact ⟨i - 1, b', n', d', K, N, ls', by go_num, by omega, HO.out.2.1, HD9.out.put HB.out HO.out.1 (by have := HO.out.2.1; omega) HO.out.2.2⟩
                case measure => simp [intOf]; omega
            · go_simp
              have HZ3 := hidP ((BxL.mk' W w1 HD1.out.sz 35).drew)
              have zb := (alloc_below w1 (.cells #[.bool false, .int .i64 0, .int .i64 0, .string ⟨#[]⟩, .int .i64 0, .int .i64 0] 35)).drew
              have HDa := hidP (HD1.out.below zb)
              have HNx : Hid (∀ k, (Value.slice (some ⟨g, 0, none⟩) n d).ownBlock = some k → k ≠ w1.heap.size) := hidP (fun k hk => Nat.ne_of_lt (OwnG.lt HD1.out.own k hk).2)
              clear zb
              generalize (w1.alloc (.cells #[.bool false, .int .i64 0, .int .i64 0, .string ⟨#[]⟩, .int .i64 0, .int .i64 0] 35)).drew = w3 at *
              refine hK.out _ _ ?_ (fun hHeld => ?_)
              · try dsimp only
                exact HDa.out.d0
              clear hK KK
              refine wpAnyH_ready (rs := [6]) (by kernel_rfl) (by simp) ?_
              refine AllReadyH.cons rfl (fun KK hK => ?_) AllReadyH.nil
              go_simp
              go_wp2_with (first | (go_at_call 42; refine (l1Below_any c a len cap n _ HDa.out.cur).mono ?_; rintro e w4 ⟨⟨y, y0, y9, rfl⟩, hC4, hK4⟩))
              have y9' := y9 (by omega)
              obtain ⟨j, rfl⟩ : ∃ j : Nat, y = (j : Int) := ⟨y.toNat, by omega⟩
              have hjn : j < n := by omega
              have j0 : (0 : Int) ≤ (j : Int) := by omega
              have j1 : (j : Int) < (n : Int) := by omega
              have HD4 := hidP (HDa.out.keep hC4 hK4)
              have HZ4 := hidP (HZ3.out.keep hcl hK4)
              clear hC4 hK4 y9 y9' y0
              refine hK.out _ _ ?_ (fun hHeld => ?_)
              · try dsimp only
                exact HD4.out.d0
              clear hK KK
              refine wpAnyH_take (i := 7) (oi := ⟨some 56, _, _, _, _, _⟩) (v := ?_) rfl (by kernel_rfl) (by kernel_rfl) (by kernel_rfl) (fun _ _ _ h => h) (Or.inl ⟨by rfl, ?_⟩) (by assumption) ?_
              rotate_left
              · intro w hSw
                try dsimp only at hSw
                go_simp
                try with_reducible rfl
              simp only [Act.put, List.setIfInBounds_toArray, List.set_cons_zero, List.set_cons_succ]
              refine wpAnyH_ready (rs := [8]) (by kernel_rfl) (by simp) ?_
              refine AllReadyH.cons rfl (fun KK hK => ?_) AllReadyH.nil
              obtain ⟨q, hgl, hq, c0, c1, c2, c3, c4, c5⟩ := rowLs0 HD4.out.own j (by rw [← HN.out.1]; exact hjn)
              go_simp
              clear c0 c1 c2 c3 c4 c5 hq
              refine hK.out _ _ ?_ (fun hHeld => ?_)
              · try dsimp only
                exact HD4.out.d0
              clear hK KK
              refine wpAnyH_ready (rs := [10]) (by kernel_rfl) (by simp) ?_
              refine AllReadyH.cons rfl (fun KK hK => ?_) AllReadyH.nil
              have HX := hidP (HD4.out.box HZ4.out HNx.out q)
              have s0 := HZ4.out.z0
              have s1 := HZ4.out.z1
              have s2 := HZ4.out.z2
              have s3 := HZ4.out.z3
              have s4 := HZ4.out.z4
              have s5 := HZ4.out.z5
              have sF := HZ4.out.zF
              go_simp
              clear s0 s1 s2 s3 s4 s5 sF
              refine hK.out _ _ ?_ (fun hHeld => ?_)
              · try dsimp only
                exact HX.out.1.d0
              clear hK KK
              refine wpAnyH_done (by kernel_rfl) ?_ _
              clear hHeld
              obtain ⟨hA, b0, b1, b2, b4, bl⟩ := HX.out
              have HA := hidP hA
              clear HX hA
              generalize ((((((w4.setCell ⟨w1.heap.size, 0, none⟩ (.bool q.a.s)).setCell ⟨w1.heap.size, 1, none⟩ (.int .i64 q.a.H.toInt)).setCell ⟨w1.heap.size, 2, none⟩ (.int .i64 q.a.L.toInt)).setCell ⟨w1.heap.size, 3, none⟩ (.string q.t)).setCell ⟨w1.heap.size, 4, none⟩ (.int .i64 q.k)).setCell ⟨w1.heap.size, 5, none⟩ (.int .i64 q.u)) = Y at *
              obtain ⟨bx, hbx⟩ : ∃ x, x = w1.heap.size := ⟨_, rfl⟩
              rw [← hbx] at b0 b1 b2 b4 bl ⊢
              clear hbx
              have p0 := HA.out.d0
              have p1 := HA.out.d1
              have p2 := HA.out.d2
              go_wp2_with fail
              refine (sRel12 (some ⟨g, 0, none⟩) n d K N ls _ HN.out.1 HA.out.own.row HN.out.2.2.2 h80 HS.out (by have := HN.out; omega) HN.out.2.2.1 (fun _ => ⟨g, rfl⟩) q.a _).mono ?_
              rintro e w9 ⟨b', n', d', ls', v', rfl, ho, hn', hs', hb9⟩
              have HO := hidP (And.intro ho (And.intro hn' hs'))
              have HB := hidP HA.out.sz
              have HD9 := hidP (HA.out.below hb9)
              clear ho hn' hs' hb9 p0 p1 p2 b0 b1 b2 b4 bl
              have s0 := HD9.out.d0
              have s1 := HD9.out.d1
              have s2 := HD9.out.d2
              have sF := HD9.out.dF
              go_wp2_with fail
              go_roundw
              case rel => exact ⟨i - 1, b', n', d', K, N, ls', by go_num, by omega, HO.out.2.1, HD9.out.put HB.out HO.out.1 (by have := HO.out.2.1; omega) HO.out.2.2⟩
              case measure => simp [intOf]; omega
          · have gn : decide ((0 : Int) < (n : Int)) = false := decide_eq_false (by omega)
            have p0 := HD1.out.d0
            go_wp2_with fail
            go_roundw
            case rel => exact ⟨i - 1, b, n, d, K, N, ls, by go_num, by omega, h80, HD1.out⟩
            case measure => simp [intOf]; omega
      · go_wp2_with fail
        have HD1d := hidP (HD1.out.drew)
        refine wp_region_held_drew (S := fun _ => True) (by kernel_rfl) trivial (fun hHeld => ?_)
        refine wpAnyH_take (i := 1) (oi := ⟨some 35, _, _, _, _, _⟩) (v := ?_) rfl (by kernel_rfl) (by kernel_rfl) (by kernel_rfl) (fun _ _ _ h => h) (Or.inl ⟨by rfl, ?_⟩) (by assumption) ?_
        rotate_left
        · intro w hSw
          try dsimp only at hSw
          go_simp
          try with_reducible rfl
        simp only [Act.put, List.setIfInBounds_toArray, List.set_cons_zero, List.set_cons_succ]
        refine wpAnyH_take (i := 3) (oi := ⟨some 37, _, _, _, _, _⟩) (v := ?_) rfl (by kernel_rfl) (by kernel_rfl) (by kernel_rfl) (fun _ _ _ h => h) (Or.inl ⟨by rfl, ?_⟩) (by assumption) ?_
        rotate_left
        · intro w hSw
          try dsimp only at hSw
          go_simp
          try with_reducible rfl
        simp only [Act.put, List.setIfInBounds_toArray, List.set_cons_zero, List.set_cons_succ]
        refine wpAnyH_ready (rs := [0, 2, 4]) (by kernel_rfl) (by simp) ?_
        refine AllReadyH.cons rfl (fun KK hK => ?_) (AllReadyH.cons rfl (fun KK hK => ?_) (AllReadyH.cons rfl (fun KK hK => ?_) AllReadyH.nil))
        · have l0 := HD1d.out.d0
          have l1 := HD1d.out.d1
          have l2 := HD1d.out.d2
          go_simp
          clear l0 l1 l2
          refine hK.out _ _ trivial (fun hHeld => ?_)
          clear hK KK
          refine wpAnyH_ready (rs := [2, 4]) (by kernel_rfl) (by simp) ?_
          refine AllReadyH.cons rfl (fun KK hK => ?_) (AllReadyH.cons rfl (fun KK hK => ?_) AllReadyH.nil)
          · have l2 := HD1d.out.d2
            go_simp
            clear l2
            refine hK.out _ _ trivial (fun hHeld => ?_)
            clear hK KK
            refine wpAnyH_ready (rs := [4]) (by kernel_rfl) (by simp) ?_
            refine AllReadyH.cons rfl (fun KK hK => ?_) AllReadyH.nil
            go_simp
            go_wp2_with (first | (go_at_call 42; refine (l1Below_any c a len cap 60 _ HD1d.out.cur).mono ?_; rintro e w5 ⟨⟨y, y0, y9, rfl⟩, hC5, hK5⟩))
            have HD5 := hidP (HD1d.out.keep hC5 hK5)
            clear hC5 hK5
            refine hK.out _ _ trivial (fun hHeld => ?_)
            clear hK KK
            refine wpAnyH_take (i := 5) (oi := ⟨some 39, _, _, _, _, _⟩) (v := ?_) rfl (by kernel_rfl) (by kernel_rfl) (by kernel_rfl) (fun _ _ _ h => h) (Or.inl ⟨by rfl, ?_⟩) (by assumption) ?_
            rotate_left
            · intro w hSw
              try dsimp only at hSw
              go_simp
              try with_reducible rfl
            simp only [Act.put, List.setIfInBounds_toArray, List.set_cons_zero, List.set_cons_succ]
            refine wpAnyH_ready (rs := [6]) (by kernel_rfl) (by simp) ?_
            refine AllReadyH.cons rfl (fun KK hK => ?_) AllReadyH.nil
            go_simp
            go_wp2_with (first | (go_at_call 57; refine (sAdv12 b n d K N ls _ HN.out.1 HD5.out.own.row HN.out.2.2.2 h80 HS.out _).mono ?_; rintro e w6 ⟨b', n', d', N', ls', v', rfl, ho, hn', hs', hb6⟩))
            have HO := hidP (And.intro ho (And.intro hn' hs'))
            have HB := hidP HD5.out.sz
            have HD6 := hidP (HD5.out.below hb6)
            clear ho hn' hs' hb6
            refine hK.out _ _ trivial (fun hHeld => ?_)
            clear hK KK
            refine wpAnyH_take (i := 7) (oi := ⟨some 33, _, _, _, _, _⟩) (v := ?_) rfl (by kernel_rfl) (by kernel_rfl) (by kernel_rfl) (fun _ _ _ h => h) (Or.inl ⟨by rfl, ?_⟩) (by assumption) ?_
            rotate_left
            · intro w hSw
              try dsimp only at hSw
              go_simp
              try with_reducible rfl
            simp only [Act.put, List.setIfInBounds_toArray, List.set_cons_zero, List.set_cons_succ]
            refine wpAnyH_take (i := 8) (oi := ⟨some 41, _, _, _, _, _⟩) (v := ?_) rfl (by kernel_rfl) (by kernel_rfl) (by kernel_rfl) (fun _ _ _ h => h) (Or.inl ⟨by rfl, ?_⟩) (by assumption) ?_
            rotate_left
            · intro w hSw
              try dsimp only at hSw
              go_simp
              try with_reducible rfl
            simp only [Act.put, List.setIfInBounds_toArray, List.set_cons_zero, List.set_cons_succ]
            refine wpAnyH_take (i := 9) (oi := ⟨some 42, _, _, _, _, _⟩) (v := ?_) rfl (by kernel_rfl) (by kernel_rfl) (by kernel_rfl) (fun _ _ _ h => h) (Or.inl ⟨by rfl, ?_⟩) (by assumption) ?_
            rotate_left
            · intro w hSw
              try dsimp only at hSw
              go_simp
              try with_reducible rfl
            simp only [Act.put, List.setIfInBounds_toArray, List.set_cons_zero, List.set_cons_succ]
            refine wpAnyH_ready (rs := [10]) (by kernel_rfl) (by simp) ?_
            refine AllReadyH.cons rfl (fun KK hK => ?_) AllReadyH.nil
            have s0 := HD6.out.d0
            have s1 := HD6.out.d1
            have s2 := HD6.out.d2
            have sF := HD6.out.dF
            go_simp
            clear s0 s1 s2 sF
            refine hK.out _ _ trivial (fun hHeld => ?_)
            clear hK KK
            refine wpAnyH_done (by kernel_rfl) ?_ _
            clear hHeld
            go_wp2_with fail
            go_roundw
            case rel => exact ⟨i - 1, b', n', d', K, N', ls', by go_num, by omega, HO.out.2.1, HD6.out.put HB.out HO.out.1 (by have := HO.out.2.1; omega) HO.out.2.2⟩
            case measure => simp [intOf]; omega
          · go_simp
            go_wp2_with (first | (go_at_call 42; refine (l1Below_any c a len cap 60 _ HD1d.out.cur).mono ?_; rintro e w5 ⟨⟨y, y0, y9, rfl⟩, hC5, hK5⟩))
            have HD5 := hidP (HD1d.out.keep hC5 hK5)
            clear hC5 hK5
            refine hK.out _ _ trivial (fun hHeld => ?_)
            clear hK KK
            refine wpAnyH_ready (rs := [2]) (by kernel_rfl) (by simp) ?_
            refine AllReadyH.cons rfl (fun KK hK => ?_) AllReadyH.nil
            have l2 := HD5.out.d2
            go_simp
            clear l2
            refine hK.out _ _ trivial (fun hHeld => ?_)
            clear hK KK
            refine wpAnyH_take (i := 5) (oi := ⟨some 39, _, _, _, _, _⟩) (v := ?_) rfl (by kernel_rfl) (by kernel_rfl) (by kernel_rfl) (fun _ _ _ h => h) (Or.inl ⟨by rfl, ?_⟩) (by assumption) ?_
            rotate_left
            · intro w hSw
              try dsimp only at hSw
              go_simp
              try with_reducible rfl
            simp only [Act.put, List.setIfInBounds_toArray, List.set_cons_zero, List.set_cons_succ]
            refine wpAnyH_ready (rs := [6]) (by kernel_rfl) (by simp) ?_
            refine AllReadyH.cons rfl (fun KK hK => ?_) AllReadyH.nil
            go_simp
            go_wp2_with (first | (go_at_call 57; refine (sAdv12 b n d K N ls _ HN.out.1 HD5.out.own.row HN.out.2.2.2 h80 HS.out _).mono ?_; rintro e w6 ⟨b', n', d', N', ls', v', rfl, ho, hn', hs', hb6⟩))
            have HO := hidP (And.intro ho (And.intro hn' hs'))
            have HB := hidP HD5.out.sz
            have HD6 := hidP (HD5.out.below hb6)
            clear ho hn' hs' hb6
            refine hK.out _ _ trivial (fun hHeld => ?_)
            clear hK KK
            refine wpAnyH_take (i := 7) (oi := ⟨some 33, _, _, _, _, _⟩) (v := ?_) rfl (by kernel_rfl) (by kernel_rfl) (by kernel_rfl) (fun _ _ _ h => h) (Or.inl ⟨by rfl, ?_⟩) (by assumption) ?_
            rotate_left
            · intro w hSw
              try dsimp only at hSw
              go_simp
              try with_reducible rfl
            simp only [Act.put, List.setIfInBounds_toArray, List.set_cons_zero, List.set_cons_succ]
            refine wpAnyH_take (i := 8) (oi := ⟨some 41, _, _, _, _, _⟩) (v := ?_) rfl (by kernel_rfl) (by kernel_rfl) (by kernel_rfl) (fun _ _ _ h => h) (Or.inl ⟨by rfl, ?_⟩) (by assumption) ?_
            rotate_left
            · intro w hSw
              try dsimp only at hSw
              go_simp
              try with_reducible rfl
            simp only [Act.put, List.setIfInBounds_toArray, List.set_cons_zero, List.set_cons_succ]
            refine wpAnyH_take (i := 9) (oi := ⟨some 42, _, _, _, _, _⟩) (v := ?_) rfl (by kernel_rfl) (by kernel_rfl) (by kernel_rfl) (fun _ _ _ h => h) (Or.inl ⟨by rfl, ?_⟩) (by assumption) ?_
            rotate_left
            · intro w hSw
              try dsimp only at hSw
              go_simp
              try with_reducible rfl
            simp only [Act.put, List.setIfInBounds_toArray, List.set_cons_zero, List.set_cons_succ]
            refine wpAnyH_ready (rs := [10]) (by kernel_rfl) (by simp) ?_
            refine AllReadyH.cons rfl (fun KK hK => ?_) AllReadyH.nil
            have s0 := HD6.out.d0
            have s1 := HD6.out.d1
            have s2 := HD6.out.d2
            have sF := HD6.out.dF
            go_simp
            clear s0 s1 s2 sF
            refine hK.out _ _ trivial (fun hHeld => ?_)
            clear hK KK
            refine wpAnyH_done (by kernel_rfl) ?_ _
            clear hHeld
            go_wp2_with fail
            go_roundw
            case rel => exact ⟨i - 1, b', n', d', K, N', ls', by go_num, by omega, HO.out.2.1, HD6.out.put HB.out HO.out.1 (by have := HO.out.2.1; omega) HO.out.2.2⟩
            case measure => simp [intOf]; omega
        · have l2 := HD1d.out.d2
          go_simp
          clear l2
          refine hK.out _ _ trivial (fun hHeld => ?_)
          clear hK KK
          refine wpAnyH_ready (rs := [0, 4]) (by kernel_rfl) (by simp) ?_
          refine AllReadyH.cons rfl (fun KK hK => ?_) (AllReadyH.cons rfl (fun KK hK => ?_) AllReadyH.nil)
          · have l0 := HD1d.out.d0
            have l1 := HD1d.out.d1
            have l2 := HD1d.out.d2
            go_simp
            clear l0 l1 l2
            refine hK.out _ _ trivial (fun hHeld => ?_)
            clear hK KK
            refine wpAnyH_ready (rs := [4]) (by kernel_rfl) (by simp) ?_
            refine AllReadyH.cons rfl (fun KK hK => ?_) AllReadyH.nil
            go_simp
            go_wp2_with (first | (go_at_call 42; refine (l1Below_any c a len cap 60 _ HD1d.out.cur).mono ?_; rintro e w5 ⟨⟨y, y0, y9, rfl⟩, hC5, hK5⟩))
            have HD5 := hidP (HD1d.out.keep hC5 hK5)
            clear hC5 hK5
            refine hK.out _ _ trivial (fun hHeld => ?_)
            clear hK KK
            refine wpAnyH_take (i := 5) (oi := ⟨some 39, _, _, _, _, _⟩) (v := ?_) rfl (by kernel_rfl) (by kernel_rfl) (by kernel_rfl) (fun _ _ _ h => h) (Or.inl ⟨by rfl, ?_⟩) (by assumption) ?_
            rotate_left
            · intro w hSw
              try dsimp only at hSw
              go_simp
              try with_reducible rfl
            simp only [Act.put, List.setIfInBounds_toArray, List.set_cons_zero, List.set_cons_succ]
            refine wpAnyH_ready (rs := [6]) (by kernel_rfl) (by simp) ?_
            refine AllReadyH.cons rfl (fun KK hK => ?_) AllReadyH.nil
            go_simp
            go_wp2_with (first | (go_at_call 57; refine (sAdv12 b n d K N ls _ HN.out.1 HD5.out.own.row HN.out.2.2.2 h80 HS.out _).mono ?_; rintro e w6 ⟨b', n', d', N', ls', v', rfl, ho, hn', hs', hb6⟩))
            have HO := hidP (And.intro ho (And.intro hn' hs'))
            have HB := hidP HD5.out.sz
            have HD6 := hidP (HD5.out.below hb6)
            clear ho hn' hs' hb6
            refine hK.out _ _ trivial (fun hHeld => ?_)
            clear hK KK
            refine wpAnyH_take (i := 7) (oi := ⟨some 33, _, _, _, _, _⟩) (v := ?_) rfl (by kernel_rfl) (by kernel_rfl) (by kernel_rfl) (fun _ _ _ h => h) (Or.inl ⟨by rfl, ?_⟩) (by assumption) ?_
            rotate_left
            · intro w hSw
              try dsimp only at hSw
              go_simp
              try with_reducible rfl
            simp only [Act.put, List.setIfInBounds_toArray, List.set_cons_zero, List.set_cons_succ]
            refine wpAnyH_take (i := 8) (oi := ⟨some 41, _, _, _, _, _⟩) (v := ?_) rfl (by kernel_rfl) (by kernel_rfl) (by kernel_rfl) (fun _ _ _ h => h) (Or.inl ⟨by rfl, ?_⟩) (by assumption) ?_
            rotate_left
            · intro w hSw
              try dsimp only at hSw
              go_simp
              try with_reducible rfl
            simp only [Act.put, List.setIfInBounds_toArray, List.set_cons_zero, List.set_cons_succ]
            refine wpAnyH_take (i := 9) (oi := ⟨some 42, _, _, _, _, _⟩) (v := ?_) rfl (by kernel_rfl) (by kernel_rfl) (by kernel_rfl) (fun _ _ _ h => h) (Or.inl ⟨by rfl, ?_⟩) (by assumption) ?_
            rotate_left
            · intro w hSw
              try dsimp only at hSw
              go_simp
              try with_reducible rfl
            simp only [Act.put, List.setIfInBounds_toArray, List.set_cons_zero, List.set_cons_succ]
            refine wpAnyH_ready (rs := [10]) (by kernel_rfl) (by simp) ?_
            refine AllReadyH.cons rfl (fun KK hK => ?_) AllReadyH.nil
            have s0 := HD6.out.d0
            have s1 := HD6.out.d1
            have s2 := HD6.out.d2
            have sF := HD6.out.dF
            go_simp
            clear s0 s1 s2 sF
            refine hK.out _ _ trivial (fun hHeld => ?_)
            clear hK KK
            refine wpAnyH_done (by kernel_rfl) ?_ _
            clear hHeld
            go_wp2_with fail
            go_roundw
            case rel => exact ⟨i - 1, b', n', d', K, N', ls', by go_num, by omega, HO.out.2.1, HD6.out.put HB.out HO.out.1 (by have := HO.out.2.1; omega) HO.out.2.2⟩
            case measure => simp [intOf]; omega
          · go_simp
            go_wp2_with (first | (go_at_call 42; refine (l1Below_any c a len cap 60 _ HD1d.out.cur).mono ?_; rintro e w5 ⟨⟨y, y0, y9, rfl⟩, hC5, hK5⟩))
            have HD5 := hidP (HD1d.out.keep hC5 hK5)
            clear hC5 hK5
            refine hK.out _ _ trivial (fun hHeld => ?_)
            clear hK KK
            refine wpAnyH_take (i := 5) (oi := ⟨some 39, _, _, _, _, _⟩) (v := ?_) rfl (by kernel_rfl) (by kernel_rfl) (by kernel_rfl) (fun _ _ _ h => h) (Or.inl ⟨by rfl, ?_⟩) (by assumption) ?_
            rotate_left
            · intro w hSw
              try dsimp only at hSw
              go_simp
              try with_reducible rfl
            simp only [Act.put, List.setIfInBounds_toArray, List.set_cons_zero, List.set_cons_succ]
            refine wpAnyH_ready (rs := [0]) (by kernel_rfl) (by simp) ?_
            refine AllReadyH.cons rfl (fun KK hK => ?_) AllReadyH.nil
            have l0 := HD5.out.d0
            have l1 := HD5.out.d1
            have l2 := HD5.out.d2
            go_simp
            clear l0 l1 l2
            refine hK.out _ _ trivial (fun hHeld => ?_)
            clear hK KK
            refine wpAnyH_ready (rs := [6]) (by kernel_rfl) (by simp) ?_
            refine AllReadyH.cons rfl (fun KK hK => ?_) AllReadyH.nil
            go_simp
            go_wp2_with (first | (go_at_call 57; refine (sAdv12 b n d K N ls _ HN.out.1 HD5.out.own.row HN.out.2.2.2 h80 HS.out _).mono ?_; rintro e w6 ⟨b', n', d', N', ls', v', rfl, ho, hn', hs', hb6⟩))
            have HO := hidP (And.intro ho (And.intro hn' hs'))
            have HB := hidP HD5.out.sz
            have HD6 := hidP (HD5.out.below hb6)
            clear ho hn' hs' hb6
            refine hK.out _ _ trivial (fun hHeld => ?_)
            clear hK KK
            refine wpAnyH_take (i := 7) (oi := ⟨some 33, _, _, _, _, _⟩) (v := ?_) rfl (by kernel_rfl) (by kernel_rfl) (by kernel_rfl) (fun _ _ _ h => h) (Or.inl ⟨by rfl, ?_⟩) (by assumption) ?_
            rotate_left
            · intro w hSw
              try dsimp only at hSw
              go_simp
              try with_reducible rfl
            simp only [Act.put, List.setIfInBounds_toArray, List.set_cons_zero, List.set_cons_succ]
            refine wpAnyH_take (i := 8) (oi := ⟨some 41, _, _, _, _, _⟩) (v := ?_) rfl (by kernel_rfl) (by kernel_rfl) (by kernel_rfl) (fun _ _ _ h => h) (Or.inl ⟨by rfl, ?_⟩) (by assumption) ?_
            rotate_left
            · intro w hSw
              try dsimp only at hSw
              go_simp
              try with_reducible rfl
            simp only [Act.put, List.setIfInBounds_toArray, List.set_cons_zero, List.set_cons_succ]
            refine wpAnyH_take (i := 9) (oi := ⟨some 42, _, _, _, _, _⟩) (v := ?_) rfl (by kernel_rfl) (by kernel_rfl) (by kernel_rfl) (fun _ _ _ h => h) (Or.inl ⟨by rfl, ?_⟩) (by assumption) ?_
            rotate_left
            · intro w hSw
              try dsimp only at hSw
              go_simp
              try with_reducible rfl
            simp only [Act.put, List.setIfInBounds_toArray, List.set_cons_zero, List.set_cons_succ]
            refine wpAnyH_ready (rs := [10]) (by kernel_rfl) (by simp) ?_
            refine AllReadyH.cons rfl (fun KK hK => ?_) AllReadyH.nil
            have s0 := HD6.out.d0
            have s1 := HD6.out.d1
            have s2 := HD6.out.d2
            have sF := HD6.out.dF
            go_simp
            clear s0 s1 s2 sF
            refine hK.out _ _ trivial (fun hHeld => ?_)
            clear hK KK
            refine wpAnyH_done (by kernel_rfl) ?_ _
            clear hHeld
            go_wp2_with fail
            go_roundw
            case rel => exact ⟨i - 1, b', n', d', K, N', ls', by go_num, by omega, HO.out.2.1, HD6.out.put HB.out HO.out.1 (by have := HO.out.2.1; omega) HO.out.2.2⟩
            case measure => simp [intOf]; omega
        · go_simp
          go_wp2_with (first | (go_at_call 42; refine (l1Below_any c a len cap 60 _ HD1d.out.cur).mono ?_; rintro e w5 ⟨⟨y, y0, y9, rfl⟩, hC5, hK5⟩))
          have HD5 := hidP (HD1d.out.keep hC5 hK5)
          clear hC5 hK5
          refine hK.out _ _ trivial (fun hHeld => ?_)
          clear hK KK
          refine wpAnyH_ready (rs := [0, 2]) (by kernel_rfl) (by simp) ?_
          refine AllReadyH.cons rfl (fun KK hK => ?_) (AllReadyH.cons rfl (fun KK hK => ?_) AllReadyH.nil)
          · have l0 := HD5.out.d0
            have l1 := HD5.out.d1
            have l2 := HD5.out.d2
            go_simp
            clear l0 l1 l2
            refine hK.out _ _ trivial (fun hHeld => ?_)
            clear hK KK
            refine wpAnyH_ready (rs := [2]) (by kernel_rfl) (by simp) ?_
            refine AllReadyH.cons rfl (fun KK hK => ?_) AllReadyH.nil
            have l2 := HD5.out.d2
            go_simp
            clear l2
            refine hK.out _ _ trivial (fun hHeld => ?_)
            clear hK KK
            refine wpAnyH_take (i := 5) (oi := ⟨some 39, _, _, _, _, _⟩) (v := ?_) rfl (by kernel_rfl) (by kernel_rfl) (by kernel_rfl) (fun _ _ _ h => h) (Or.inl ⟨by rfl, ?_⟩) (by assumption) ?_
            rotate_left
            · intro w hSw
              try dsimp only at hSw
              go_simp
              try with_reducible rfl
            simp only [Act.put, List.setIfInBounds_toArray, List.set_cons_zero, List.set_cons_succ]
            refine wpAnyH_ready (rs := [6]) (by kernel_rfl) (by simp) ?_
            refine AllReadyH.cons rfl (fun KK hK => ?_) AllReadyH.nil
            go_simp
            go_wp2_with (first | (go_at_call 57; refine (sAdv12 b n d K N ls _ HN.out.1 HD5.out.own.row HN.out.2.2.2 h80 HS.out _).mono ?_; rintro e w6 ⟨b', n', d', N', ls', v', rfl, ho, hn', hs', hb6⟩))
            have HO := hidP (And.intro ho (And.intro hn' hs'))
            have HB := hidP HD5.out.sz
            have HD6 := hidP (HD5.out.below hb6)
            clear ho hn' hs' hb6
            refine hK.out _ _ trivial (fun hHeld => ?_)
            clear hK KK
            refine wpAnyH_take (i := 7) (oi := ⟨some 33, _, _, _, _, _⟩) (v := ?_) rfl (by kernel_rfl) (by kernel_rfl) (by kernel_rfl) (fun _ _ _ h => h) (Or.inl ⟨by rfl, ?_⟩) (by assumption) ?_
            rotate_left
            · intro w hSw
              try dsimp only at hSw
              go_simp
              try with_reducible rfl
            simp only [Act.put, List.setIfInBounds_toArray, List.set_cons_zero, List.set_cons_succ]
            refine wpAnyH_take (i := 8) (oi := ⟨some 41, _, _, _, _, _⟩) (v := ?_) rfl (by kernel_rfl) (by kernel_rfl) (by kernel_rfl) (fun _ _ _ h => h) (Or.inl ⟨by rfl, ?_⟩) (by assumption) ?_
            rotate_left
            · intro w hSw
              try dsimp only at hSw
              go_simp
              try with_reducible rfl
            simp only [Act.put, List.setIfInBounds_toArray, List.set_cons_zero, List.set_cons_succ]
            refine wpAnyH_take (i := 9) (oi := ⟨some 42, _, _, _, _, _⟩) (v := ?_) rfl (by kernel_rfl) (by kernel_rfl) (by kernel_rfl) (fun _ _ _ h => h) (Or.inl ⟨by rfl, ?_⟩) (by assumption) ?_
            rotate_left
            · intro w hSw
              try dsimp only at hSw
              go_simp
              try with_reducible rfl
            simp only [Act.put, List.setIfInBounds_toArray, List.set_cons_zero, List.set_cons_succ]
            refine wpAnyH_ready (rs := [10]) (by kernel_rfl) (by simp) ?_
            refine AllReadyH.cons rfl (fun KK hK => ?_) AllReadyH.nil
            have s0 := HD6.out.d0
            have s1 := HD6.out.d1
            have s2 := HD6.out.d2
            have sF := HD6.out.dF
            go_simp
            clear s0 s1 s2 sF
            refine hK.out _ _ trivial (fun hHeld => ?_)
            clear hK KK
            refine wpAnyH_done (by kernel_rfl) ?_ _
            clear hHeld
            go_wp2_with fail
            go_roundw
            case rel => exact ⟨i - 1, b', n', d', K, N', ls', by go_num, by omega, HO.out.2.1, HD6.out.put HB.out HO.out.1 (by have := HO.out.2.1; omega) HO.out.2.2⟩
            case measure => simp [intOf]; omega
          · have l2 := HD5.out.d2
            go_simp
            clear l2
            refine hK.out _ _ trivial (fun hHeld => ?_)
            clear hK KK
            refine wpAnyH_take (i := 5) (oi := ⟨some 39, _, _, _, _, _⟩) (v := ?_) rfl (by kernel_rfl) (by kernel_rfl) (by kernel_rfl) (fun _ _ _ h => h) (Or.inl ⟨by rfl, ?_⟩) (by assumption) ?_
            rotate_left
            · intro w hSw
              try dsimp only at hSw
              go_simp
              try with_reducible rfl
            simp only [Act.put, List.setIfInBounds_toArray, List.set_cons_zero, List.set_cons_succ]
            refine wpAnyH_ready (rs := [0]) (by kernel_rfl) (by simp) ?_
            refine AllReadyH.cons rfl (fun KK hK => ?_) AllReadyH.nil
            have l0 := HD5.out.d0
            have l1 := HD5.out.d1
            have l2 := HD5.out.d2
            go_simp
            clear l0 l1 l2
            refine hK.out _ _ trivial (fun hHeld => ?_)
            clear hK KK
            refine wpAnyH_ready (rs := [6]) (by kernel_rfl) (by simp) ?_
            refine AllReadyH.cons rfl (fun KK hK => ?_) AllReadyH.nil
            go_simp
            go_wp2_with (first | (go_at_call 57; refine (sAdv12 b n d K N ls _ HN.out.1 HD5.out.own.row HN.out.2.2.2 h80 HS.out _).mono ?_; rintro e w6 ⟨b', n', d', N', ls', v', rfl, ho, hn', hs', hb6⟩))
            have HO := hidP (And.intro ho (And.intro hn' hs'))
            have HB := hidP HD5.out.sz
            have HD6 := hidP (HD5.out.below hb6)
            clear ho hn' hs' hb6
            refine hK.out _ _ trivial (fun hHeld => ?_)
            clear hK KK
            refine wpAnyH_take (i := 7) (oi := ⟨some 33, _, _, _, _, _⟩) (v := ?_) rfl (by kernel_rfl) (by kernel_rfl) (by kernel_rfl) (fun _ _ _ h => h) (Or.inl ⟨by rfl, ?_⟩) (by assumption) ?_
            rotate_left
            · intro w hSw
              try dsimp only at hSw
              go_simp
              try with_reducible rfl
            simp only [Act.put, List.setIfInBounds_toArray, List.set_cons_zero, List.set_cons_succ]
            refine wpAnyH_take (i := 8) (oi := ⟨some 41, _, _, _, _, _⟩) (v := ?_) rfl (by kernel_rfl) (by kernel_rfl) (by kernel_rfl) (fun _ _ _ h => h) (Or.inl ⟨by rfl, ?_⟩) (by assumption) ?_
            rotate_left
            · intro w hSw
              try dsimp only at hSw
              go_simp
              try with_reducible rfl
            simp only [Act.put, List.setIfInBounds_toArray, List.set_cons_zero, List.set_cons_succ]
            refine wpAnyH_take (i := 9) (oi := ⟨some 42, _, _, _, _, _⟩) (v := ?_) rfl (by kernel_rfl) (by kernel_rfl) (by kernel_rfl) (fun _ _ _ h => h) (Or.inl ⟨by rfl, ?_⟩) (by assumption) ?_
            rotate_left
            · intro w hSw
              try dsimp only at hSw
              go_simp
              try with_reducible rfl
            simp only [Act.put, List.setIfInBounds_toArray, List.set_cons_zero, List.set_cons_succ]
            refine wpAnyH_ready (rs := [10]) (by kernel_rfl) (by simp) ?_
            refine AllReadyH.cons rfl (fun KK hK => ?_) AllReadyH.nil
            have s0 := HD6.out.d0
            have s1 := HD6.out.d1
            have s2 := HD6.out.d2
            have sF := HD6.out.dF
            go_simp
            clear s0 s1 s2 sF
            refine hK.out _ _ trivial (fun hHeld => ?_)
            clear hK KK
            refine wpAnyH_done (by kernel_rfl) ?_ _
            clear hHeld
            go_wp2_with fail
            go_roundw
            case rel => exact ⟨i - 1, b', n', d', K, N', ls', by go_num, by omega, HO.out.2.1, HD6.out.put HB.out HO.out.1 (by have := HO.out.2.1; omega) HO.out.2.2⟩
            case measure => simp [intOf]; omega
    · have g0 : decide ((0 : Int) < (i : Int)) = false := decide_eq_false (by omega)
      have p0 := HD0.out.d0
      have p1 := HD0.out.d1
      have p2 := HD0.out.d2
      have q0 := HD0.out.r0
      have q1 := HD0.out.r1
      have q2 := HD0.out.r2
      have qF := HD0.out.rF
      go_wp2_with fail
      refine bodyPost_ret (v := .agg #[.slice b n d, .int .i64 K, .int .i64 N]) (by simp [results, Tryz.results40, go_sem, q0, q1, q2]) rfl ⟨b, n, d, K, N, ls, rfl, HN.out.1, h80, HS.out, (HD0.out.fin _ _ _).2.2, (HD0.out.fin _ _ _).1, (HD0.out.fin _ _ _).2.1⟩

end Go.Proofs.YtddnofonodgneaaGreatDoor
