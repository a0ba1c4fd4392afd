/-
  For every prefix and every row of prefixes the two Withouts answer alike, in rows of their own, and leave the arguments as they were, so the exact law of Without returns true; no condition.
-/
import Derived.Test.YtamocbkamjnonaaPWoS
import Derived.Test.YtamocbkamjnonaaPEq
namespace Go.Proofs.Ytamocbkamjnonaa
open Go.RowKit

theorem OwnR.kept {t : TypeId} {w w' : World} {B : Nat} {v u : Value} {ps : List Pf} (h : OwnR t w B v ps) (hg : w.grownBy w' u.ownBlock) (hne : ∀ k, v.ownBlock = some k → u.ownBlock = some k → False) : OwnR t w' B v ps := by
  refine ⟨h.1, ?_⟩
  rcases h.2 with h1 | ⟨g, cap, cur, hv, hb, hr, hr'⟩
  · exact Or.inl h1
  · have hlt : g < w.heap.size := by
      rcases Nat.lt_or_ge g w.heap.size with hlt | hge
      · exact hlt
      · rw [Array.getElem?_eq_none hge] at hr; cases hr
    exact Or.inr ⟨g, cap, cur, hv, hb, (hg.block g hlt (fun e => hne g (by rw [hv]; rfl) e.symm)).trans hr, hr'⟩

set_option maxHeartbeats 1000000 in
theorem szPrefixS_any (a : Option Addr) (n cap : Nat) (hn : n ≤ 1048576) (w : World) :
    Calls Try.prog 9 #[.slice a n cap, .int .i64 1048576] w fun e w' => e = .returned (.int .i64 (1048576 - (n : Int))) ∧ w = w' := by
  have d : decide (1048576 - (n : Int) < 0) = false := decide_eq_false (by omega)
  go_enter Try.func9, Try.ntmps9
  go_wp2
  go_ret
  exact ⟨rfl, rfl⟩
set_option maxHeartbeats 1000000 in
theorem szPrefixS_big (a : Option Addr) (n cap : Nat) (hn : 1048576 < n) (h9 : n ≤ 9223372036854775807) (w : World) :
    Calls Try.prog 9 #[.slice a n cap, .int .i64 1048576] w fun e w' => e = .returned (.int .i64 (-1)) ∧ w = w' := by
  have d : decide (1048576 - (n : Int) < 0) = true := decide_eq_true (by omega)
  go_enter Try.func9, Try.ntmps9
  go_wp2
  go_ret
  exact ⟨rfl, rfl⟩

theorem toS (a : Option Addr) (n cap : Nat) (ps : List Pf) (w : World) (hn : n = ps.length) (hB : Row w a ps) (hl : n ≤ 1048576) :
    Calls Try.prog 11 #[.slice a n cap] w fun e w' => ∃ g, e = .returned (.slice (some ⟨g, 0, none⟩) n n) ∧ OwnR 37 w' w.heap.size (.slice (some ⟨g, 0, none⟩) n n) ps ∧ Below w.heap.size w w' := by
  subst hn; exact toPrefixS_any a cap ps w hB hl
theorem eqS (a b : Option Addr) (n c d : Nat) (ps : List Pf) (w : World) (hn : n = ps.length) (ha : Row w a ps) (hb : Row w b ps) (hl : n ≤ 9000000000) :
    Calls Try.prog 13 #[.slice a n c, .slice b n d] w fun e w' => e = .returned (.bool true) ∧ Below w.heap.size w w' := by
  subst hn; exact eqPrefixS_same a b c d ps w ha hb hl
theorem mkS (a : Option Addr) (n cap B : Nat) (ps : List Pf) (w : World) (hn : n = ps.length) (h : OwnR 37 w B (.slice a n cap) ps) (hl : n ≤ 9000000000) :
    Calls Try.prog 14 #[.slice a n cap, .int .i64 1] w fun e w' => e = .returned (.int .i64 (1 + 4 * (n : Int))) ∧ OwnR 37 w' B (.slice a n cap) (mksP 1 n) ∧ w.grownBy w' (Value.slice a n cap).ownBlock := by
  subst hn; exact markPrefixS_any a cap B ps 1 w h hl (by omega) (by omega)
theorem heS (a : Option Addr) (cap n : Nat) (w : World) (h : Row w a (mksP 1 n)) (hl : n ≤ 9000000000) :
    Calls Try.prog 15 #[.slice a n cap, .int .i64 1] w fun e w' => e = .returned (.int .i64 (1 + 4 * (n : Int))) ∧ Below w.heap.size w w' := heldPrefixS_any a cap n 1 w h hl (by omega) (by omega)

set_option maxRecDepth 10000 in
set_option maxHeartbeats 8000000 in
theorem lawWout_core (p : Pf) (a : Option Addr) (n cap : Nat) (ps R : List Pf) (w : World) (hB : Row w a ps) (hn : n = ps.length) (hl : n ≤ 1048576) (m : Nat) (hm : m = R.length) (hR : m ≤ 1048576)
    (hS : ∀ (g : Nat) (wx : World), Row wx (some ⟨g, 0, none⟩) ps → Calls Try.prog 16 #[.agg #[.bool p.s, .int .i64 p.H.toInt, .int .i64 p.L.toInt, .int .i64 p.b], .slice (some ⟨g, 0, none⟩) n n] wx fun e w' => ∃ a' c', e = .returned (.slice a' m c') ∧ OwnR 37 w' wx.heap.size (.slice a' m c') R ∧ Below wx.heap.size wx w')
    (hI : ∀ (g : Nat) (wx : World), Row wx (some ⟨g, 0, none⟩) ps → Calls Try.prog 18 #[.agg #[.bool p.s, .int .i64 p.H.toInt, .int .i64 p.L.toInt, .int .i64 p.b], .slice (some ⟨g, 0, none⟩) n n] wx fun e w' => ∃ a' c', e = .returned (.slice a' m c') ∧ OwnR 37 w' wx.heap.size (.slice a' m c') R ∧ Below wx.heap.size wx w') :
    Calls Try.prog 4 #[.agg #[.bool p.s, .int .i64 p.H.toInt, .int .i64 p.L.toInt, .int .i64 p.b], .slice a n cap] w fun e w' => e = .returned (.bool true) ∧ Below w.heap.size w w' := by
  have HN := hidP hn
  have HM := hidP hm
  have HS := hidP hS
  have HI := hidP hI
  have d1 : decide (1048576 - (n : Int) < 0) = false := decide_eq_false (by omega)
  have d2 : decide (1 + 4 * (n : Int) < 0) = false := decide_eq_false (by omega)
  have d3 : decide (1 + 4 * (m : Int) < 0) = false := decide_eq_false (by omega)
  have d4 : ((1 + 4 * (m : Int)) != (1 + 4 * (m : Int))) = false := by simp
  have HW0 := hidP ((Below.refl _ w).alloc (Nat.le_refl _) (.cells #[.bool p.s, .int .i64 p.H.toInt, .int .i64 p.L.toInt, .int .i64 p.b] 33))
  have HRW := hidP (hB.later HW0.out)
  obtain ⟨b0, b1, b2, b3⟩ := box_cells w 33 p
  have hsW := heap_size_alloc' w (.cells #[.bool p.s, .int .i64 p.H.toInt, .int .i64 p.L.toInt, .int .i64 p.b] 33)
  clear hB hn hm hS hI
  go_enter Try.func4, Try.ntmps4
  go_wp2_with fail
  refine (szPrefixS_any a n cap hl _).mono ?_
  rintro e w1 ⟨rfl, rfl⟩
  generalize w.alloc (.cells #[.bool p.s, .int .i64 p.H.toInt, .int .i64 p.L.toInt, .int .i64 p.b] 33) = W at *
  have hgW : w.heap.size < W.heap.size := by omega
  have HC := hidP (And.intro b0 (And.intro b1 (And.intro b2 b3)))
  have acc0 := hidP (Below.refl W.heap.size W)
  have z0 := (acc0.out.cell hgW).trans HC.out.1
  have z1 := (acc0.out.cell hgW).trans HC.out.2.1
  have z2 := (acc0.out.cell hgW).trans HC.out.2.2.1
  have z3 := (acc0.out.cell hgW).trans HC.out.2.2.2
  go_wp2_with fail
  refine (toPrefix_any p.s p.H.toInt p.L.toInt p.b _).mono ?_
  rintro e w1 ⟨rfl, b1'⟩
  clear z0 z1 z2 z3
  have acc1 := hidP (acc0.out.trans (b1'.mono acc0.out.size))
  clear b1' 
  go_wp2_with fail
  refine (toS a n cap ps w1 HN.out (HRW.out.later acc1.out) hl).mono ?_
  rintro e w2 ⟨gt, rfl, ot, b2'⟩
  have acc2 := hidP (acc1.out.trans (b2'.mono acc1.out.size))
  have ac_t := acc1.out.size
  have t_2 := hidP ot
  clear b2' ot
  go_wp2_with fail
  refine (HS.out gt w2 (OwnR.row t_2.out)).mono ?_
  rintro e w3 ⟨av, cv, rfl, ov, b3'⟩
  have acc3 := hidP (acc2.out.trans (b3'.mono acc2.out.size))
  have lt_t_v := hidP fun q hq => (OwnR.lt t_2.out q hq).2
  have ac_v := acc2.out.size
  have t_3 := hidP (OwnR.later t_2.out b3')
  have v_3 := hidP ov
  clear b3' ov
  go_wp2_with fail
  refine (toS a n cap ps w3 HN.out (HRW.out.later acc3.out) hl).mono ?_
  rintro e w4 ⟨gx, rfl, ox, b4'⟩
  have acc4 := hidP (acc3.out.trans (b4'.mono acc3.out.size))
  have lt_t_x := hidP fun q hq => (OwnR.lt t_3.out q hq).2
  have lt_v_x := hidP fun q hq => (OwnR.lt v_3.out q hq).2
  have ac_x := acc3.out.size
  have t_4 := hidP (OwnR.later t_3.out b4')
  have v_4 := hidP (OwnR.later v_3.out b4')
  have x_4 := hidP ox
  clear b4' ox
  have z0 := (acc4.out.cell hgW).trans HC.out.1
  have z1 := (acc4.out.cell hgW).trans HC.out.2.1
  have z2 := (acc4.out.cell hgW).trans HC.out.2.2.1
  have z3 := (acc4.out.cell hgW).trans HC.out.2.2.2
  go_wp2_with fail
  refine (toPrefix_any p.s p.H.toInt p.L.toInt p.b _).mono ?_
  rintro e w5 ⟨rfl, b5'⟩
  clear z0 z1 z2 z3
  have acc5 := hidP (acc4.out.trans (b5'.mono acc4.out.size))
  have t_5 := hidP (OwnR.later t_4.out b5')
  have v_5 := hidP (OwnR.later v_4.out b5')
  have x_5 := hidP (OwnR.later x_4.out b5')
  clear b5' 
  go_wp2_with fail
  refine (HI.out gx w5 (OwnR.row x_5.out)).mono ?_
  rintro e w6 ⟨ag, cg, rfl, og, b6'⟩
  have acc6 := hidP (acc5.out.trans (b6'.mono acc5.out.size))
  have lt_t_g := hidP fun q hq => (OwnR.lt t_5.out q hq).2
  have lt_v_g := hidP fun q hq => (OwnR.lt v_5.out q hq).2
  have lt_x_g := hidP fun q hq => (OwnR.lt x_5.out q hq).2
  have ac_g := acc5.out.size
  have t_6 := hidP (OwnR.later t_5.out b6')
  have v_6 := hidP (OwnR.later v_5.out b6')
  have x_6 := hidP (OwnR.later x_5.out b6')
  have g_6 := hidP og
  clear b6' og
  go_wp2_with fail
  refine (eqS _ _ m _ _ R w6 HM.out (OwnR.row g_6.out) (OwnR.row v_6.out) (by omega)).mono ?_
  rintro e w7 ⟨rfl, b7'⟩
  have acc7 := hidP (acc6.out.trans (b7'.mono acc6.out.size))
  have t_7 := hidP (OwnR.later t_6.out b7')
  have v_7 := hidP (OwnR.later v_6.out b7')
  have x_7 := hidP (OwnR.later x_6.out b7')
  have g_7 := hidP (OwnR.later g_6.out b7')
  clear b7' 
  go_wp2_with fail
  refine (toS a n cap ps w7 HN.out (HRW.out.later acc7.out) hl).mono ?_
  rintro e w8 ⟨gk, rfl, ok, b8'⟩
  have acc8 := hidP (acc7.out.trans (b8'.mono acc7.out.size))
  have lt_t_k := hidP fun q hq => (OwnR.lt t_7.out q hq).2
  have lt_v_k := hidP fun q hq => (OwnR.lt v_7.out q hq).2
  have lt_x_k := hidP fun q hq => (OwnR.lt x_7.out q hq).2
  have lt_g_k := hidP fun q hq => (OwnR.lt g_7.out q hq).2
  have ac_k := acc7.out.size
  have t_8 := hidP (OwnR.later t_7.out b8')
  have v_8 := hidP (OwnR.later v_7.out b8')
  have x_8 := hidP (OwnR.later x_7.out b8')
  have g_8 := hidP (OwnR.later g_7.out b8')
  have k_8 := hidP ok
  clear b8' ok
  go_wp2_with fail
  refine (eqS _ _ n _ _ ps w8 HN.out (OwnR.row x_8.out) (OwnR.row k_8.out) (by omega)).mono ?_
  rintro e w9 ⟨rfl, b9'⟩
  have acc9 := hidP (acc8.out.trans (b9'.mono acc8.out.size))
  have t_9 := hidP (OwnR.later t_8.out b9')
  have v_9 := hidP (OwnR.later v_8.out b9')
  have x_9 := hidP (OwnR.later x_8.out b9')
  have g_9 := hidP (OwnR.later g_8.out b9')
  have k_9 := hidP (OwnR.later k_8.out b9')
  clear b9' 
  go_wp2_with fail
  refine (mkS _ n _ _ ps w9 HN.out x_9.out (by omega)).mono ?_
  rintro e w10 ⟨rfl, omx, g10'⟩
  have acc10 := hidP (below_appR acc9.out (OwnR.mono x_9.out ac_x) acc9.out.size g10')
  have t_10 := hidP (OwnR.kept t_9.out g10' (fun q h1 h2 => by have q1 := lt_t_x.out q h1; have q2 := (OwnR.lt x_9.out q h2).1; omega))
  have v_10 := hidP (OwnR.kept v_9.out g10' (fun q h1 h2 => by have q1 := lt_v_x.out q h1; have q2 := (OwnR.lt x_9.out q h2).1; omega))
  have g_10 := hidP (OwnR.kept g_9.out g10' (fun q h1 h2 => by have q1 := lt_x_g.out q h2; have q2 := (OwnR.lt g_9.out q h1).1; omega))
  have k_10 := hidP (OwnR.kept k_9.out g10' (fun q h1 h2 => by have q1 := lt_x_k.out q h2; have q2 := (OwnR.lt k_9.out q h1).1; omega))
  have x_10 := hidP omx
  clear g10' omx
  go_wp2_with fail
  refine (eqS _ _ m _ _ R w10 HM.out (OwnR.row g_10.out) (OwnR.row v_10.out) (by omega)).mono ?_
  rintro e w11 ⟨rfl, b11'⟩
  have acc11 := hidP (acc10.out.trans (b11'.mono acc10.out.size))
  have t_11 := hidP (OwnR.later t_10.out b11')
  have v_11 := hidP (OwnR.later v_10.out b11')
  have x_11 := hidP (OwnR.later x_10.out b11')
  have g_11 := hidP (OwnR.later g_10.out b11')
  have k_11 := hidP (OwnR.later k_10.out b11')
  clear b11' 
  go_wp2_with fail
  refine (mkS _ m _ _ R w11 HM.out g_11.out (by omega)).mono ?_
  rintro e w12 ⟨rfl, omg, g12'⟩
  have acc12 := hidP (below_appR acc11.out (OwnR.mono g_11.out ac_g) acc11.out.size g12')
  have t_12 := hidP (OwnR.kept t_11.out g12' (fun q h1 h2 => by have q1 := lt_t_g.out q h1; have q2 := (OwnR.lt g_11.out q h2).1; omega))
  have v_12 := hidP (OwnR.kept v_11.out g12' (fun q h1 h2 => by have q1 := lt_v_g.out q h1; have q2 := (OwnR.lt g_11.out q h2).1; omega))
  have x_12 := hidP (OwnR.kept x_11.out g12' (fun q h1 h2 => by have q1 := lt_x_g.out q h1; have q2 := (OwnR.lt g_11.out q h2).1; omega))
  have k_12 := hidP (OwnR.kept k_11.out g12' (fun q h1 h2 => by have q1 := lt_g_k.out q h2; have q2 := (OwnR.lt k_11.out q h1).1; omega))
  have g_12 := hidP omg
  clear g12' omg
  go_wp2_with fail
  refine (heS _ _ m w12 (OwnR.row g_12.out) (by omega)).mono ?_
  rintro e w13 ⟨rfl, b13'⟩
  have acc13 := hidP (acc12.out.trans (b13'.mono acc12.out.size))
  have t_13 := hidP (OwnR.later t_12.out b13')
  have v_13 := hidP (OwnR.later v_12.out b13')
  have x_13 := hidP (OwnR.later x_12.out b13')
  have g_13 := hidP (OwnR.later g_12.out b13')
  have k_13 := hidP (OwnR.later k_12.out b13')
  clear b13' 
  have z0 := (acc13.out.cell hgW).trans HC.out.1
  have z1 := (acc13.out.cell hgW).trans HC.out.2.1
  have z2 := (acc13.out.cell hgW).trans HC.out.2.2.1
  have z3 := (acc13.out.cell hgW).trans HC.out.2.2.2
  go_wp2_with fail
  refine (toPrefix_any p.s p.H.toInt p.L.toInt p.b _).mono ?_
  rintro e w14 ⟨rfl, b14'⟩
  clear z0 z1 z2 z3
  have acc14 := hidP (acc13.out.trans (b14'.mono acc13.out.size))
  have t_14 := hidP (OwnR.later t_13.out b14')
  have v_14 := hidP (OwnR.later v_13.out b14')
  have x_14 := hidP (OwnR.later x_13.out b14')
  have g_14 := hidP (OwnR.later g_13.out b14')
  have k_14 := hidP (OwnR.later k_13.out b14')
  clear b14' 
  go_wp2_with fail
  refine (toS a n cap ps w14 HN.out (HRW.out.later acc14.out) hl).mono ?_
  rintro e w15 ⟨gy, rfl, oy, b15'⟩
  have acc15 := hidP (acc14.out.trans (b15'.mono acc14.out.size))
  have lt_t_y := hidP fun q hq => (OwnR.lt t_14.out q hq).2
  have lt_v_y := hidP fun q hq => (OwnR.lt v_14.out q hq).2
  have lt_x_y := hidP fun q hq => (OwnR.lt x_14.out q hq).2
  have lt_g_y := hidP fun q hq => (OwnR.lt g_14.out q hq).2
  have lt_k_y := hidP fun q hq => (OwnR.lt k_14.out q hq).2
  have ac_y := acc14.out.size
  have t_15 := hidP (OwnR.later t_14.out b15')
  have v_15 := hidP (OwnR.later v_14.out b15')
  have x_15 := hidP (OwnR.later x_14.out b15')
  have g_15 := hidP (OwnR.later g_14.out b15')
  have k_15 := hidP (OwnR.later k_14.out b15')
  have y_15 := hidP oy
  clear b15' oy
  go_wp2_with fail
  refine (HI.out gy w15 (OwnR.row y_15.out)).mono ?_
  rintro e w16 ⟨ah, ch, rfl, oh, b16'⟩
  have acc16 := hidP (acc15.out.trans (b16'.mono acc15.out.size))
  have lt_t_h := hidP fun q hq => (OwnR.lt t_15.out q hq).2
  have lt_v_h := hidP fun q hq => (OwnR.lt v_15.out q hq).2
  have lt_x_h := hidP fun q hq => (OwnR.lt x_15.out q hq).2
  have lt_g_h := hidP fun q hq => (OwnR.lt g_15.out q hq).2
  have lt_k_h := hidP fun q hq => (OwnR.lt k_15.out q hq).2
  have lt_y_h := hidP fun q hq => (OwnR.lt y_15.out q hq).2
  have ac_h := acc15.out.size
  have t_16 := hidP (OwnR.later t_15.out b16')
  have v_16 := hidP (OwnR.later v_15.out b16')
  have x_16 := hidP (OwnR.later x_15.out b16')
  have g_16 := hidP (OwnR.later g_15.out b16')
  have k_16 := hidP (OwnR.later k_15.out b16')
  have y_16 := hidP (OwnR.later y_15.out b16')
  have h_16 := hidP oh
  clear b16' oh
  go_wp2_with fail
  refine (eqS _ _ m _ _ R w16 HM.out (OwnR.row h_16.out) (OwnR.row v_16.out) (by omega)).mono ?_
  rintro e w17 ⟨rfl, b17'⟩
  have acc17 := hidP (acc16.out.trans (b17'.mono acc16.out.size))
  have t_17 := hidP (OwnR.later t_16.out b17')
  have v_17 := hidP (OwnR.later v_16.out b17')
  have x_17 := hidP (OwnR.later x_16.out b17')
  have g_17 := hidP (OwnR.later g_16.out b17')
  have k_17 := hidP (OwnR.later k_16.out b17')
  have y_17 := hidP (OwnR.later y_16.out b17')
  have h_17 := hidP (OwnR.later h_16.out b17')
  clear b17' 
  go_wp2_with fail
  refine (heS _ _ m w17 (OwnR.row g_17.out) (by omega)).mono ?_
  rintro e w18 ⟨rfl, b18'⟩
  have acc18 := hidP (acc17.out.trans (b18'.mono acc17.out.size))
  have t_18 := hidP (OwnR.later t_17.out b18')
  have v_18 := hidP (OwnR.later v_17.out b18')
  have x_18 := hidP (OwnR.later x_17.out b18')
  have g_18 := hidP (OwnR.later g_17.out b18')
  have k_18 := hidP (OwnR.later k_17.out b18')
  have y_18 := hidP (OwnR.later y_17.out b18')
  have h_18 := hidP (OwnR.later h_17.out b18')
  clear b18' 
  go_wp2_with fail
  go_ret
  exact ⟨rfl, HW0.out.trans (acc18.out.mono (by omega))⟩

end Go.Proofs.Ytamocbkamjnonaa
