/-
  For every row of prefixes the two Collapses answer alike, in rows of their own, and leave the argument as it was, so the exact law of Collapse returns true; no condition.
-/
import Derived.Test.YtgohffeneibhdaaVColS
import Derived.Test.YtgohffeneibhdaaMOpn
import Derived.ProofKit
import Derived.Lib.SmallJoins
import Derived.Test.YtgohffeneibhdaaMEqP
namespace Go.Proofs.Ytgohffeneibhdaa
open Go.ChangeShapes Go.WideShapes Go.ChangeAt Go.RowKit Go.Joins Go.Deep

theorem OwnR.kept {t : TypeId} {w w' : World} {B : Nat} {v u : Value} {ps : List Pf} (h : OwnR t w B v ps) (hg : w.grownBy w' u.ownBlock) (hne : ∀ k, v.ownBlock = some k → u.ownBlock = some k → False) : OwnR t w' B v ps := by
  refine ⟨h.1, ?_⟩
  rcases h.2 with h1 | ⟨g, cap, cur, hv, hb, hr, hr'⟩
  · exact Or.inl h1
  · have hlt : g < w.heap.size := by
      rcases Nat.lt_or_ge g w.heap.size with hlt | hge
      · exact hlt
      · rw [Array.getElem?_eq_none hge] at hr; cases hr
    exact Or.inr ⟨g, cap, cur, hv, hb, (hg.block g hlt (fun e => hne g (by rw [hv]; rfl) e.symm)).trans hr, hr'⟩

set_option maxHeartbeats 1000000 in
theorem szPrefixS_any (a : Option Addr) (n cap : Nat) (hn : n ≤ 1048576) (w : World) :
    Calls Try.prog 17 #[.slice a n cap, .int .i64 1048576] w fun e w' => e = .returned (.int .i64 (1048576 - (n : Int))) ∧ w = w' := by
  have d : decide (1048576 - (n : Int) < 0) = false := decide_eq_false (by omega)
  go_enter Try.func17, Try.ntmps17
  go_wp2
  go_ret
  exact ⟨rfl, rfl⟩
set_option maxHeartbeats 1000000 in
theorem szPrefixS_big (a : Option Addr) (n cap : Nat) (hn : 1048576 < n) (h9 : n ≤ 9223372036854775807) (w : World) :
    Calls Try.prog 17 #[.slice a n cap, .int .i64 1048576] w fun e w' => e = .returned (.int .i64 (-1)) ∧ w = w' := by
  have d : decide (1048576 - (n : Int) < 0) = true := decide_eq_true (by omega)
  go_enter Try.func17, Try.ntmps17
  go_wp2
  go_ret
  exact ⟨rfl, rfl⟩

theorem toS (a : Option Addr) (n cap : Nat) (ps : List Pf) (w : World) (hn : n = ps.length) (hB : Row w a ps) (hl : n ≤ 1048576) :
    Calls Try.prog 18 #[.slice a n cap] w fun e w' => ∃ g, e = .returned (.slice (some ⟨g, 0, none⟩) n n) ∧ OwnR 31 w' w.heap.size (.slice (some ⟨g, 0, none⟩) n n) ps ∧ Below w.heap.size w w' := by
  subst hn; exact toPrefixS_any a cap ps w hB hl
theorem eqR9 (a b : Option Addr) (n c d : Nat) (ps : List Pf) (w : World) (hn : n = ps.length) (ha : Row w a ps) (hb : Row w b ps) (hl : n ≤ 9000000000) :
    Calls Try.prog 19 #[.slice a n c, .slice b n d] w fun e w' => e = .returned (.bool true) ∧ Below w.heap.size w w' := by
  subst hn; exact eqPrefixS_same a b c d ps w ha hb hl
theorem mkS (a : Option Addr) (n cap B : Nat) (ps : List Pf) (w : World) (hn : n = ps.length) (h : OwnR 31 w B (.slice a n cap) ps) (hl : n ≤ 9000000000) :
    Calls Try.prog 20 #[.slice a n cap, .int .i64 1] w fun e w' => e = .returned (.int .i64 (1 + 4 * (n : Int))) ∧ OwnR 31 w' B (.slice a n cap) (mksP 1 n) ∧ w.grownBy w' (Value.slice a n cap).ownBlock := by
  subst hn; exact markPrefixS_any a cap B ps 1 w h hl (by omega) (by omega)
theorem heS (a : Option Addr) (cap n : Nat) (w : World) (h : Row w a (mksP 1 n)) (hl : n ≤ 9000000000) :
    Calls Try.prog 21 #[.slice a n cap, .int .i64 1] w fun e w' => e = .returned (.int .i64 (1 + 4 * (n : Int))) ∧ Below w.heap.size w w' := heldPrefixS_any a cap n 1 w h hl (by omega) (by omega)

set_option maxRecDepth 10000 in
set_option maxHeartbeats 8000000 in
theorem lawColl_core (a : Option Addr) (n cap : Nat) (ps R : List Pf) (w : World) (hB : Row w a ps) (hn : n = ps.length) (hl : n ≤ 1048576) (m : Nat) (hm : m = R.length) (hR : m ≤ 1048576)
    (hS : ∀ (g : Nat) (wx : World), Row wx (some ⟨g, 0, none⟩) ps → Calls Try.prog 9 #[.slice (some ⟨g, 0, none⟩) n n] wx fun e w' => ∃ a' c', e = .returned (.slice a' m c') ∧ OwnR 31 w' wx.heap.size (.slice a' m c') R ∧ Below wx.heap.size wx w')
    (hI : ∀ (g : Nat) (wx : World), Row wx (some ⟨g, 0, none⟩) ps → Calls Try.prog 8 #[.slice (some ⟨g, 0, none⟩) n n] wx fun e w' => ∃ a' c', e = .returned (.slice a' m c') ∧ OwnR 31 w' wx.heap.size (.slice a' m c') R ∧ Below wx.heap.size wx w') :
    Calls Try.prog 5 #[.slice a n cap] w fun e w' => e = .returned (.bool true) ∧ Below w.heap.size w w' := by
  have HN := hidP hn
  have HM := hidP hm
  have HS := hidP hS
  have HI := hidP hI
  have d1 : decide (1048576 - (n : Int) < 0) = false := decide_eq_false (by omega)
  have d2 : decide (1 + 4 * (n : Int) < 0) = false := decide_eq_false (by omega)
  have d3 : decide (1 + 4 * (m : Int) < 0) = false := decide_eq_false (by omega)
  have d4 : ((1 + 4 * (m : Int)) != (1 + 4 * (m : Int))) = false := by simp
  have HRW := hidP hB
  clear hB hn hm hS hI
  go_enter Try.func5, Try.ntmps5
  go_wp2_with fail
  refine (szPrefixS_any a n cap hl _).mono ?_
  rintro e w1 ⟨rfl, rfl⟩
  have acc0 := hidP (Below.refl w.heap.size w)
  go_wp2_with fail
  refine (toS a n cap ps w HN.out (HRW.out.later acc0.out) hl).mono ?_
  rintro e w1 ⟨gt, rfl, ot, b1'⟩
  have acc1 := hidP (acc0.out.trans (b1'.mono acc0.out.size))
  have ac_t := acc0.out.size
  have t_1 := hidP ot
  clear b1' ot
  go_wp2_with fail
  refine (HS.out gt w1 (OwnR.row t_1.out)).mono ?_
  rintro e w2 ⟨av, cv, rfl, ov, b2'⟩
  have acc2 := hidP (acc1.out.trans (b2'.mono acc1.out.size))
  have lt_t_v := hidP fun q hq => (OwnR.lt t_1.out q hq).2
  have ac_v := acc1.out.size
  have t_2 := hidP (OwnR.later t_1.out b2')
  have v_2 := hidP ov
  clear b2' ov
  go_wp2_with fail
  refine (toS a n cap ps w2 HN.out (HRW.out.later acc2.out) hl).mono ?_
  rintro e w3 ⟨gx, rfl, ox, b3'⟩
  have acc3 := hidP (acc2.out.trans (b3'.mono acc2.out.size))
  have lt_t_x := hidP fun q hq => (OwnR.lt t_2.out q hq).2
  have lt_v_x := hidP fun q hq => (OwnR.lt v_2.out q hq).2
  have ac_x := acc2.out.size
  have t_3 := hidP (OwnR.later t_2.out b3')
  have v_3 := hidP (OwnR.later v_2.out b3')
  have x_3 := hidP ox
  clear b3' ox
  go_wp2_with fail
  refine (HI.out gx w3 (OwnR.row x_3.out)).mono ?_
  rintro e w4 ⟨ag, cg, rfl, og, b4'⟩
  have acc4 := hidP (acc3.out.trans (b4'.mono acc3.out.size))
  have lt_t_g := hidP fun q hq => (OwnR.lt t_3.out q hq).2
  have lt_v_g := hidP fun q hq => (OwnR.lt v_3.out q hq).2
  have lt_x_g := hidP fun q hq => (OwnR.lt x_3.out q hq).2
  have ac_g := acc3.out.size
  have t_4 := hidP (OwnR.later t_3.out b4')
  have v_4 := hidP (OwnR.later v_3.out b4')
  have x_4 := hidP (OwnR.later x_3.out b4')
  have g_4 := hidP og
  clear b4' og
  go_wp2_with fail
  refine (eqR9 _ _ m _ _ R w4 HM.out (OwnR.row g_4.out) (OwnR.row v_4.out) (by omega)).mono ?_
  rintro e w5 ⟨rfl, b5'⟩
  have acc5 := hidP (acc4.out.trans (b5'.mono acc4.out.size))
  have t_5 := hidP (OwnR.later t_4.out b5')
  have v_5 := hidP (OwnR.later v_4.out b5')
  have x_5 := hidP (OwnR.later x_4.out b5')
  have g_5 := hidP (OwnR.later g_4.out b5')
  clear b5' 
  go_wp2_with fail
  refine (toS a n cap ps w5 HN.out (HRW.out.later acc5.out) hl).mono ?_
  rintro e w6 ⟨gk, rfl, ok, b6'⟩
  have acc6 := hidP (acc5.out.trans (b6'.mono acc5.out.size))
  have lt_t_k := hidP fun q hq => (OwnR.lt t_5.out q hq).2
  have lt_v_k := hidP fun q hq => (OwnR.lt v_5.out q hq).2
  have lt_x_k := hidP fun q hq => (OwnR.lt x_5.out q hq).2
  have lt_g_k := hidP fun q hq => (OwnR.lt g_5.out q hq).2
  have ac_k := acc5.out.size
  have t_6 := hidP (OwnR.later t_5.out b6')
  have v_6 := hidP (OwnR.later v_5.out b6')
  have x_6 := hidP (OwnR.later x_5.out b6')
  have g_6 := hidP (OwnR.later g_5.out b6')
  have k_6 := hidP ok
  clear b6' ok
  go_wp2_with fail
  refine (eqR9 _ _ n _ _ ps w6 HN.out (OwnR.row x_6.out) (OwnR.row k_6.out) (by omega)).mono ?_
  rintro e w7 ⟨rfl, b7'⟩
  have acc7 := hidP (acc6.out.trans (b7'.mono acc6.out.size))
  have t_7 := hidP (OwnR.later t_6.out b7')
  have v_7 := hidP (OwnR.later v_6.out b7')
  have x_7 := hidP (OwnR.later x_6.out b7')
  have g_7 := hidP (OwnR.later g_6.out b7')
  have k_7 := hidP (OwnR.later k_6.out b7')
  clear b7' 
  go_wp2_with fail
  refine (mkS _ n _ _ ps w7 HN.out x_7.out (by omega)).mono ?_
  rintro e w8 ⟨rfl, omx, g8'⟩
  have acc8 := hidP (below_appR acc7.out (OwnR.mono x_7.out ac_x) acc7.out.size g8')
  have t_8 := hidP (OwnR.kept t_7.out g8' (fun q h1 h2 => by have q1 := lt_t_x.out q h1; have q2 := (OwnR.lt x_7.out q h2).1; omega))
  have v_8 := hidP (OwnR.kept v_7.out g8' (fun q h1 h2 => by have q1 := lt_v_x.out q h1; have q2 := (OwnR.lt x_7.out q h2).1; omega))
  have g_8 := hidP (OwnR.kept g_7.out g8' (fun q h1 h2 => by have q1 := lt_x_g.out q h2; have q2 := (OwnR.lt g_7.out q h1).1; omega))
  have k_8 := hidP (OwnR.kept k_7.out g8' (fun q h1 h2 => by have q1 := lt_x_k.out q h2; have q2 := (OwnR.lt k_7.out q h1).1; omega))
  have x_8 := hidP omx
  clear g8' omx
  go_wp2_with fail
  refine (eqR9 _ _ m _ _ R w8 HM.out (OwnR.row g_8.out) (OwnR.row v_8.out) (by omega)).mono ?_
  rintro e w9 ⟨rfl, b9'⟩
  have acc9 := hidP (acc8.out.trans (b9'.mono acc8.out.size))
  have t_9 := hidP (OwnR.later t_8.out b9')
  have v_9 := hidP (OwnR.later v_8.out b9')
  have x_9 := hidP (OwnR.later x_8.out b9')
  have g_9 := hidP (OwnR.later g_8.out b9')
  have k_9 := hidP (OwnR.later k_8.out b9')
  clear b9' 
  go_wp2_with fail
  refine (mkS _ m _ _ R w9 HM.out g_9.out (by omega)).mono ?_
  rintro e w10 ⟨rfl, omg, g10'⟩
  have acc10 := hidP (below_appR acc9.out (OwnR.mono g_9.out ac_g) acc9.out.size g10')
  have t_10 := hidP (OwnR.kept t_9.out g10' (fun q h1 h2 => by have q1 := lt_t_g.out q h1; have q2 := (OwnR.lt g_9.out q h2).1; omega))
  have v_10 := hidP (OwnR.kept v_9.out g10' (fun q h1 h2 => by have q1 := lt_v_g.out q h1; have q2 := (OwnR.lt g_9.out q h2).1; omega))
  have x_10 := hidP (OwnR.kept x_9.out g10' (fun q h1 h2 => by have q1 := lt_x_g.out q h1; have q2 := (OwnR.lt g_9.out q h2).1; omega))
  have k_10 := hidP (OwnR.kept k_9.out g10' (fun q h1 h2 => by have q1 := lt_g_k.out q h2; have q2 := (OwnR.lt k_9.out q h1).1; omega))
  have g_10 := hidP omg
  clear g10' omg
  go_wp2_with fail
  refine (heS _ _ m w10 (OwnR.row g_10.out) (by omega)).mono ?_
  rintro e w11 ⟨rfl, b11'⟩
  have acc11 := hidP (acc10.out.trans (b11'.mono acc10.out.size))
  have t_11 := hidP (OwnR.later t_10.out b11')
  have v_11 := hidP (OwnR.later v_10.out b11')
  have x_11 := hidP (OwnR.later x_10.out b11')
  have g_11 := hidP (OwnR.later g_10.out b11')
  have k_11 := hidP (OwnR.later k_10.out b11')
  clear b11' 
  go_wp2_with fail
  refine (toS a n cap ps w11 HN.out (HRW.out.later acc11.out) hl).mono ?_
  rintro e w12 ⟨gy, rfl, oy, b12'⟩
  have acc12 := hidP (acc11.out.trans (b12'.mono acc11.out.size))
  have lt_t_y := hidP fun q hq => (OwnR.lt t_11.out q hq).2
  have lt_v_y := hidP fun q hq => (OwnR.lt v_11.out q hq).2
  have lt_x_y := hidP fun q hq => (OwnR.lt x_11.out q hq).2
  have lt_g_y := hidP fun q hq => (OwnR.lt g_11.out q hq).2
  have lt_k_y := hidP fun q hq => (OwnR.lt k_11.out q hq).2
  have ac_y := acc11.out.size
  have t_12 := hidP (OwnR.later t_11.out b12')
  have v_12 := hidP (OwnR.later v_11.out b12')
  have x_12 := hidP (OwnR.later x_11.out b12')
  have g_12 := hidP (OwnR.later g_11.out b12')
  have k_12 := hidP (OwnR.later k_11.out b12')
  have y_12 := hidP oy
  clear b12' oy
  go_wp2_with fail
  refine (HI.out gy w12 (OwnR.row y_12.out)).mono ?_
  rintro e w13 ⟨ah, ch, rfl, oh, b13'⟩
  have acc13 := hidP (acc12.out.trans (b13'.mono acc12.out.size))
  have lt_t_h := hidP fun q hq => (OwnR.lt t_12.out q hq).2
  have lt_v_h := hidP fun q hq => (OwnR.lt v_12.out q hq).2
  have lt_x_h := hidP fun q hq => (OwnR.lt x_12.out q hq).2
  have lt_g_h := hidP fun q hq => (OwnR.lt g_12.out q hq).2
  have lt_k_h := hidP fun q hq => (OwnR.lt k_12.out q hq).2
  have lt_y_h := hidP fun q hq => (OwnR.lt y_12.out q hq).2
  have ac_h := acc12.out.size
  have t_13 := hidP (OwnR.later t_12.out b13')
  have v_13 := hidP (OwnR.later v_12.out b13')
  have x_13 := hidP (OwnR.later x_12.out b13')
  have g_13 := hidP (OwnR.later g_12.out b13')
  have k_13 := hidP (OwnR.later k_12.out b13')
  have y_13 := hidP (OwnR.later y_12.out b13')
  have h_13 := hidP oh
  clear b13' oh
  go_wp2_with fail
  refine (eqR9 _ _ m _ _ R w13 HM.out (OwnR.row h_13.out) (OwnR.row v_13.out) (by omega)).mono ?_
  rintro e w14 ⟨rfl, b14'⟩
  have acc14 := hidP (acc13.out.trans (b14'.mono acc13.out.size))
  have t_14 := hidP (OwnR.later t_13.out b14')
  have v_14 := hidP (OwnR.later v_13.out b14')
  have x_14 := hidP (OwnR.later x_13.out b14')
  have g_14 := hidP (OwnR.later g_13.out b14')
  have k_14 := hidP (OwnR.later k_13.out b14')
  have y_14 := hidP (OwnR.later y_13.out b14')
  have h_14 := hidP (OwnR.later h_13.out b14')
  clear b14' 
  go_wp2_with fail
  refine (heS _ _ m w14 (OwnR.row g_14.out) (by omega)).mono ?_
  rintro e w15 ⟨rfl, b15'⟩
  have acc15 := hidP (acc14.out.trans (b15'.mono acc14.out.size))
  have t_15 := hidP (OwnR.later t_14.out b15')
  have v_15 := hidP (OwnR.later v_14.out b15')
  have x_15 := hidP (OwnR.later x_14.out b15')
  have g_15 := hidP (OwnR.later g_14.out b15')
  have k_15 := hidP (OwnR.later k_14.out b15')
  have y_15 := hidP (OwnR.later y_14.out b15')
  have h_15 := hidP (OwnR.later h_14.out b15')
  clear b15' 
  go_wp2_with fail
  go_ret
  exact ⟨rfl, acc15.out⟩

theorem pre_list : ∀ ps : List Pf, ps.all Pf.pok = true → ∃ xs : List Sp, (∀ t ∈ xs, t.ok) ∧ xs.map Sp.pre = ps
  | [], _ => ⟨[], (fun _ h => by cases h), rfl⟩
  | p :: t, h => by
      rw [List.all_cons, Bool.and_eq_true] at h
      obtain ⟨x, hx, rfl⟩ := Sp.of_pok (p := p) h.1
      obtain ⟨xs, hxs, rfl⟩ := pre_list t h.2
      refine ⟨x :: xs, fun u hu => ?_, rfl⟩
      rcases List.mem_cons.1 hu with rfl | hu
      · exact hx
      · exact hxs u hu
theorem coll_len (ys : List Sp) (hy : ∀ y ∈ ys, y.ok) : (collP ys).length ≤ ys.length := by
  have h := (fold_okl ys hy ys.length).2
  rw [List.take_length] at h
  unfold collP
  rw [List.length_reverse]; exact h
theorem foldJK : ∀ (ks J : List Sp), (∀ x ∈ ks, x.ok) → (∀ x ∈ J, x.ok) → ks.foldl pushJ J = ks.foldl pushK J
  | [], _, _, _ => rfl
  | k :: ks, J, hk, hJ => by
    have h0 := hk k (List.mem_cons_self ..)
    rw [List.foldl_cons, List.foldl_cons, push_one J k hJ h0]
    exact foldJK ks _ (fun x hx => hk x (List.mem_cons_of_mem _ hx)) (pushK_okl J k hJ h0).1
/-- The row that both make. -/
theorem coll_both (xs : List Sp) (hx : ∀ x ∈ xs, x.ok) (hl : xs.length ≤ 300) : ∃ ys : List Sp, ys.Perm xs ∧ Srd ys ∧
    (∀ (a : Option Addr) (n cap : Nat) (w : World), n = xs.length → Row w a (xs.map Sp.pre) → Calls Try.prog 9 #[.slice a n cap] w fun e w' => ∃ a' c', e = .returned (.slice a' (collP ys).length c') ∧ OwnR 31 w' w.heap.size (.slice a' (collP ys).length c') ((collP ys).map Sp.pre) ∧ Below w.heap.size w w') ∧
    (∀ (a : Option Addr) (n cap : Nat) (w : World), n = xs.length → Row w a (xs.map Sp.pre) → Calls Try.prog 8 #[.slice a n cap] w fun e w' => ∃ a' c', e = .returned (.slice a' (collP ys).length c') ∧ OwnR 31 w' w.heap.size (.slice a' (collP ys).length c') ((collP ys).map Sp.pre) ∧ Below w.heap.size w w') := by
  obtain ⟨ys, hp, hs⟩ := sorted_ex xs
  have hy : ∀ y ∈ ys, y.ok := fun y hym => hx y (hp.mem_iff.1 hym)
  refine ⟨ys, hp, hs, fun a n cap w hn hB => ?_, fun a n cap w hn hB => ?_⟩
  · have hkl : ∀ x ∈ (ys.foldl keepP []).reverse, x.ok := fun x hxm => keep_ok ys [] hy (fun _ h => by cases h) x (List.mem_reverse.1 hxm)
    have hco : ((ys.foldl keepP []).reverse.foldl pushK []).reverse = collP ys := by
      unfold collP
      rw [coll_one ys hy hs, foldJK _ [] hkl (fun _ h => by cases h)]
    have hln : (ys.foldl keepP []).reverse.length ≤ 300 := by
      have h1 := keepF_len (ys.map Sp.pre) []
      have h2 := keepF_P ys [] hy (fun _ h => by cases h)
      rw [List.map_nil] at h2
      rw [h2, List.length_map, List.length_map] at h1
      rw [List.length_reverse]
      have := hp.length_eq
      simp at h1
      omega
    have key := sColl_core (ys.foldl keepP []).reverse hkl hln a n cap w (fun W hb => ?_) (fun W hb => ?_)
    · refine key.mono ?_
      rintro e w' ⟨a', m, c', rfl, hm, ho, hb⟩
      have hm2 : m = (collP ys).length := by rw [hm, ← hco, List.length_reverse]
      rw [hco] at ho
      subst hm2
      exact ⟨a', c', rfl, ho, hb⟩
    · have h := l2Right_any a cap (xs.map Sp.pre) W (hB.later hb) (by rw [List.length_map]; omega)
      rw [List.length_map, ← hn] at h
      have e1 : ((xs.map Sp.pre).all (fun p => pokB p.s p.H p.L p.b) && decide (n ≤ 300)) = true := by
        have h1 : (xs.map Sp.pre).all (fun p => pokB p.s p.H p.L p.b) = true := pre_pok hx
        rw [h1, decide_eq_true (by omega)]; rfl
      rw [e1] at h
      exact h
    · refine (l2Sorted_any (xs.map Sp.pre) (fun p hpm => by obtain ⟨x, hxm, rfl⟩ := List.mem_map.1 hpm; exact (hx x hxm).1) a n cap (by rw [List.length_map]; exact hn) (by omega) W (hB.later hb)).mono ?_
      rintro e w' ⟨S, a', n', c', hSp, hSs, hn', he, ho, hb'⟩
      obtain ⟨zs, z1, z2⟩ := perm_pre hx hSp
      rw [← z2] at hSs
      have hzy : zs = ys := srd_uniq z1 hp (srd_sr2 hSs) hs
      subst hzy
      have h2 := keepF_P zs [] hy (fun _ h => by cases h)
      rw [List.map_nil, z2] at h2
      rw [h2, ← List.map_reverse] at ho
      refine ⟨a', n', c', ?_, he, ho, hb'⟩
      rw [hn', h2, List.length_map, List.length_reverse]
  · refine (iColl_yes xs ys hx hl hp hs a n cap hn w hB).mono ?_
    rintro e w' ⟨g, he, ho, hb⟩
    exact ⟨_, _, he, ho, hb⟩

set_option maxRecDepth 10000 in
set_option maxHeartbeats 1000000 in
theorem sColl_no (a : Option Addr) (n cap : Nat) (ps : List Pf) (hn : n = ps.length) (hl : n ≤ 1048576) (hr : rightP ps = false) (w : World) (hB : Row w a ps) :
    Calls Try.prog 9 #[.slice a n cap] w fun e w' => ∃ a' c', e = .returned (.slice a' 0 c') ∧ OwnR 31 w' w.heap.size (.slice a' 0 c') [] ∧ Below w.heap.size w w' := by
  subst hn
  have HZ := hidP (own_zero w w.heap.size 31 (Nat.le_refl _))
  have HZB := hidP (alloc_b w (.cells #[] 31))
  have key := l2Right_any a cap ps (w.alloc (.cells #[] 31)) (hB.later HZB.out) hl
  have hr' : (ps.all (fun p => pokB p.s p.H p.L p.b) && decide (ps.length ≤ 300)) = false := hr
  rw [hr'] at key
  have HR := hidP key
  clear hB hr hr' key
  generalize ps.length = n at *
  go_enter Try.func9, Try.ntmps9
  go_wp2_with fail
  generalize w.alloc (.cells #[] 31) = W1 at *
  refine HR.out.mono ?_
  rintro e w2 ⟨rfl, hb2⟩
  have HF := hidP (And.intro (HZ.out.later hb2) (HZB.out.trans (hb2.mono HZB.out.size)))
  clear hb2
  go_wp2_with fail
  go_ret
  exact ⟨_, _, rfl, HF.out.1, HF.out.2⟩

set_option maxRecDepth 10000 in
set_option maxHeartbeats 1000000 in
theorem lawCollapse (a : Option Addr) (n cap : Nat) (ps : List Pf) (w : World) (hB : Row w a ps) (hn : n = ps.length) (h9 : n ≤ 9223372036854775807) :
    Calls Try.prog 5 #[.slice a n cap] w fun e w' => e = .returned (.bool true) ∧ Below w.heap.size w w' := by
  by_cases hl : n ≤ 1048576
  · cases hr : rightP ps
    · exact lawColl_core a n cap ps [] w hB hn hl 0 rfl (by omega) (fun g wx h => sColl_no _ n n ps hn hl hr wx h) (fun g wx h => (iColl_no _ n n ps hn hl hr wx h).mono fun e w' ⟨g', he, ho, hb⟩ => ⟨_, _, he, ho, hb⟩)
    · have h2 := hr
      unfold rightP at h2
      rw [Bool.and_eq_true, decide_eq_true_eq] at h2
      obtain ⟨xs, hxs, rfl⟩ := pre_list ps h2.1
      have hl3 : xs.length ≤ 300 := by have := h2.2; rw [List.length_map] at this; exact this
      rw [List.length_map] at hn
      obtain ⟨ys, hp, hs, cS, cI⟩ := coll_both xs hxs hl3
      have hcl := coll_len ys (fun y hym => hxs y (hp.mem_iff.1 hym))
      have hpl := hp.length_eq
      exact lawColl_core a n cap (xs.map Sp.pre) ((collP ys).map Sp.pre) w hB (by rw [List.length_map]; exact hn) hl (collP ys).length (by rw [List.length_map]) (by omega) (fun g wx h => cS _ n n wx hn h) (fun g wx h => cI _ n n wx hn h)
  · clear hB hn
    have HZ := hidP (szPrefixS_big a n cap (by omega) h9)
    go_enter Try.func5, Try.ntmps5
    go_wp2_with fail
    refine (HZ.out _).mono ?_
    rintro e w1 ⟨rfl, rfl⟩
    go_wp2_with fail
    go_ret
    exact ⟨rfl, Below.refl _ _⟩

set_option maxRecDepth 100000 in
theorem collapse_lifted (os : Os) (started : os.Started) (H : Type) (enc : TypeId × Value → H) :
    ReturnsInHanded {} Try.checked os 5 .any (Rows.fnExactCollapseSpec.pre6 enc Try.prog Try.f5 Rows.fnExactCollapseRow.domain false) (Rows.fnExactCollapseSpec.post enc Try.prog Try.f5 false true false false) := by
  refine returnsInHanded_of_change (C := Try.checked) Try.ownP started (by kernel_rfl) Try.func5
    (ChangeSpec.witness6 (enc := enc) (C := Try.checked) false ⟨#[], #[.slice none 0 0], []⟩ 8 (by kernel_rfl) (by kernel_rfl) (by kernel_rfl) (by kernel_rfl)) ?_
  intro W base args ds gs before hval0 hW _ _
  have hval : ∀ (j : Nat) t v, Try.f5.params[j]? = some t → args[j]? = some v → Value.okWide Try.prog W .any base t v := hval0
  have hW' := hW
  obtain ⟨p, q, hA0, hV, rfl, _, _⟩ := hW
  have hA : DataW.TrodAll enc Try.prog W 0 (fun _ => true) true Try.f5.params.toList args.toList ds p := hA0
  rw [Try.params5] at hA hval
  obtain ⟨v1, d1, rfl, rfl, h1⟩ := trodAll_one hA
  obtain ⟨rfl, rfl⟩ := trodVars_none hV
  obtain ⟨a1, len1, cap1, rfl⟩ := okWide_slice Try.underlying37 (hval 0 37 v1 rfl rfl)
  clear hA0 hval0
  simp only [List.append_nil] at hW'
  have hlt : ∀ x ∈ p, x.block < W.heap.size := fun x hx => by simpa using hW'.lt x hx
  obtain ⟨ps, hlen, hmax, hB⟩ := row_open h1
  refine (lawCollapse a1 len1 cap1 ps W hB hlen.symm hmax).mono fun e W' ⟨he, hb⟩ => ?_
  subst he
  exact ⟨_, rfl, ⟨_, _, _, [], p, [], hW', trodAll_mk1 (shut_bool Try.underlying4 true), trodAll_mk1 (Below.trod Try.laidOutP (by kernel_rfl) (of_decide_eq_true (by kernel_rfl)) h1 hb hlt), rfl, hb.frame _, fun h => by cases h⟩⟩

theorem collapse_holds : Rows.FnExactCollapseSaid :=
  OpenClaim.holds_of_wide 5 Try.f5 rfl rfl rfl rfl rfl rfl rfl ⟨rfl, rfl, rfl, rfl, rfl⟩ rfl rfl rfl rfl rfl (by kernel_rfl) Try.func5 (by kernel_rfl)
    (of_decide_eq_true (by kernel_rfl)) (by unfold Func.isWrapper; rw [if_neg (of_decide_eq_false (by kernel_rfl))]; exact ⟨rfl, rfl⟩)
    (fun os started H enc _ => collapse_lifted os started H enc)

end Go.Proofs.Ytgohffeneibhdaa
