/-
  For every message the two MsgOk answer alike and leave it as it was, so the exact law of MsgOk returns true; the condition: the program's table of forms holds what the program's text lays there.
-/
import Derived.Test.YtgenjjhchnnpnaaDoorV14B
import Derived.Test.YtgenjjhchnnpnaaDoorV14O
import Derived.Test.YtgenjjhchnnpnaaDoorTie
import Derived.Test.YtgenjjhchnnpnaaDoorCards
import Derived.ProofKit
import Derived.OpenShut
import Derived.OpenVars
import Derived.Lib.SmallJoins
import Derived.Deep.DeepHandedRow
import Derived.Lib.LaidTab
import Derived.LaidSub
import Derived.ChangeVars
import Derived.Lib.LaidU8
namespace Go.Proofs.YtgenjjhchnnpnaaDoor
open Go.ChangeShapes Go.WideShapes Go.ChangeAt Go.RowKit Go.Joins Go.Deep

theorem sumE_mem : ∀ {es : List En} {e : En}, e ∈ es → (e.n : Int) ≤ sumE es
  | x :: t, e, h => by
      have h0 := sumE_nn t
      show (e.n : Int) ≤ x.n + sumE t
      rcases List.mem_cons.1 h with rfl | h
      · omega
      · have := sumE_mem h
        omega
theorem MgE.comp {m k l : Mg} (h : MgE m k) (g : MgE m l) : MgE k l := ⟨g.K.trans h.K.symm, g.F.trans h.F.symm, g.T.trans h.T.symm, g.M.trans h.M.symm, g.I.trans h.I.symm, g.L.trans h.L.symm, g.C.trans h.C.symm, g.O.trans h.O.symm, g.en.trans h.en.symm, g.dn.trans h.dn.symm, g.gn.trans h.gn.symm, g.hn.trans h.hn.symm, g.es.trans h.es.symm, g.ds.trans h.ds.symm, g.ps.trans h.ps.symm, g.bs.trans h.bs.symm⟩

set_option maxRecDepth 10000 in
set_option maxHeartbeats 20000000 in
theorem lawMsgOk (m : Mg) (w : World) (hr : MgR w m) (h1 : m.en ≤ 9223372036854775807) (h2 : ∀ e ∈ m.es, e.n ≤ 9223372036854775807) (h3 : m.dn ≤ 9223372036854775807) (h4 : m.gn ≤ 9223372036854775807) (h5 : m.hn ≤ 9223372036854775807) (hG : FmG w) :
    Calls Tryd.prog 3 #[m.v] w fun e w' => e = .returned (.bool true) ∧ Below w.heap.size w w' := by
  have HSz := hidP (fun W (hb : Below w.heap.size w W) => szMsg_any m W (hr.later hb) h1 h2 h3 h4 h5)
  have hG2 := hidP hG
  by_cases ht : totM m ≤ 1048576
  · rw [szR_yes ht] at HSz
    have hs : MgS m := by
      have h0 := sumE_nn m.es
      unfold totM at ht
      exact ⟨by omega, fun e he => by have := sumE_mem he; omega, by omega, by omega, by omega⟩
    have HTo := hidP (fun W (hb : Below w.heap.size w W) => toMsg_any m W (hr.later hb) hs)
    have HSp := hidP (fun (k : Mg) (W : World) (hk : MgE m k) (hq : MgR W k) (hf : ∀ e ∈ k.es, EnF e) => (mB_same hk ▸ sMsg_any k W hq (hk.s hs) hf : Calls Tryd.prog 5 #[k.v] W fun e w' => e = .returned (.bool (mB m)) ∧ Below W.heap.size W w'))
    have HIm := hidP (fun (k : Mg) (W : World) (hk : MgE m k) (hq : MgR W k) (hb : Below w.heap.size w W) => (mB_same hk ▸ iMsg_any k W hq (hk.s hs) (hG2.out.later hb) : Calls Tryd.prog 7 #[k.v] W fun e w' => e = .returned (.bool (mB m)) ∧ Below W.heap.size W w'))
    have HEq := hidP (fun (k l : Mg) (W : World) (hk : MgE m k) (hl : MgE m l) (hq : MgR W k) (hp : MgR W l) => eqMsg_same k l W hq hp (hk.comp hl) (hk.s hs))
    have d1 : decide (1048576 - totM m < 0) = false := decide_eq_false (by omega)
    have d2 : ¬ (1048576 - totM m < 0) := by omega
    generalize 1048576 - totM m = z at *
    generalize mB m = R at *
    clear hr h1 h2 h3 h4 h5 hG hs ht
    obtain ⟨K, F, T, M, I, L, ea, en, ec, C, O, da, dn, dc, ga, gn, gc, ha, hn, hc, es, ds, ps, bs⟩ := m
    go_enter Tryd.func3, Tryd.ntmps3
    go_wp2_with fail
    obtain ⟨a0, a1, a2, a3, a4, a5, a6, a7, a8, a9, a10, a11⟩ := box12z w 28 (.int .i64 K) (.int .i64 F) (.int .i64 T) (.int .i64 M) (.int .i64 I) (.int .i64 L) (.slice ea en ec) (.int .i64 C) (.bool O) (.slice da dn dc) (.slice ga gn gc) (.slice ha hn hc)
    have bB := alloc_below w (.cells #[.int .i64 K, .int .i64 F, .int .i64 T, .int .i64 M, .int .i64 I, .int .i64 L, .slice ea en ec, .int .i64 C, .bool O, .slice da dn dc, .slice ga gn gc, .slice ha hn hc] 28)
    have aL : w.heap.size < (w.alloc (.cells #[.int .i64 K, .int .i64 F, .int .i64 T, .int .i64 M, .int .i64 I, .int .i64 L, .slice ea en ec, .int .i64 C, .bool O, .slice da dn dc, .slice ga gn gc, .slice ha hn hc] 28)).heap.size := by simp
    generalize w.alloc (.cells #[.int .i64 K, .int .i64 F, .int .i64 T, .int .i64 M, .int .i64 I, .int .i64 L, .slice ea en ec, .int .i64 C, .bool O, .slice da dn dc, .slice ga gn gc, .slice ha hn hc] 28) = W1 at *
    have A1 := hidP bB
    clear bB
    have a0_W1 := a0
    have a1_W1 := a1
    have a2_W1 := a2
    have a3_W1 := a3
    have a4_W1 := a4
    have a5_W1 := a5
    have a6_W1 := a6
    have a7_W1 := a7
    have a8_W1 := a8
    have a9_W1 := a9
    have a10_W1 := a10
    have a11_W1 := a11
    have aL_W1 := aL
    clear a0 a1 a2 a3 a4 a5 a6 a7 a8 a9 a10 a11 aL
    refine (HSz.out _ A1.out).mono ?_
    rintro e w2 ⟨rfl, hb2⟩
    have a0_w2 := (hb2.cell aL_W1).trans a0_W1
    have a1_w2 := (hb2.cell aL_W1).trans a1_W1
    have a2_w2 := (hb2.cell aL_W1).trans a2_W1
    have a3_w2 := (hb2.cell aL_W1).trans a3_W1
    have a4_w2 := (hb2.cell aL_W1).trans a4_W1
    have a5_w2 := (hb2.cell aL_W1).trans a5_W1
    have a6_w2 := (hb2.cell aL_W1).trans a6_W1
    have a7_w2 := (hb2.cell aL_W1).trans a7_W1
    have a8_w2 := (hb2.cell aL_W1).trans a8_W1
    have a9_w2 := (hb2.cell aL_W1).trans a9_W1
    have a10_w2 := (hb2.cell aL_W1).trans a10_W1
    have a11_w2 := (hb2.cell aL_W1).trans a11_W1
    have aL_w2 := Nat.lt_of_lt_of_le aL_W1 hb2.size
    have A2 := hidP (A1.out.trans (hb2.mono A1.out.size))
    clear hb2 a0_W1 a1_W1 a2_W1 a3_W1 a4_W1 a5_W1 a6_W1 a7_W1 a8_W1 a9_W1 a10_W1 a11_W1 aL_W1 A1
    go_wp2_with fail
    refine (HTo.out _ A2.out).mono ?_
    rintro e w3 ⟨k1, rfl, hk1, ⟨hq1, hf1⟩, hb3⟩
    have a0_w3 := (hb3.cell aL_w2).trans a0_w2
    have a1_w3 := (hb3.cell aL_w2).trans a1_w2
    have a2_w3 := (hb3.cell aL_w2).trans a2_w2
    have a3_w3 := (hb3.cell aL_w2).trans a3_w2
    have a4_w3 := (hb3.cell aL_w2).trans a4_w2
    have a5_w3 := (hb3.cell aL_w2).trans a5_w2
    have a6_w3 := (hb3.cell aL_w2).trans a6_w2
    have a7_w3 := (hb3.cell aL_w2).trans a7_w2
    have a8_w3 := (hb3.cell aL_w2).trans a8_w2
    have a9_w3 := (hb3.cell aL_w2).trans a9_w2
    have a10_w3 := (hb3.cell aL_w2).trans a10_w2
    have a11_w3 := (hb3.cell aL_w2).trans a11_w2
    have aL_w3 := Nat.lt_of_lt_of_le aL_w2 hb3.size
    have A3 := hidP (A2.out.trans (hb3.mono A2.out.size))
    clear hb3 a0_w2 a1_w2 a2_w2 a3_w2 a4_w2 a5_w2 a6_w2 a7_w2 a8_w2 a9_w2 a10_w2 a11_w2 aL_w2 A2
    have HS1 := hidP (HSp.out k1 w3 hk1 hq1 hf1)
    clear hk1 hq1 hf1 HSp
    obtain ⟨K1, F1, T1, M1, I1, L1, ea1, en1, ec1, C1, O1, da1, dn1, dc1, ga1, gn1, gc1, ha1, hn1, hc1, es1, ds1, ps1, bs1⟩ := k1
    go_wp2_with fail
    refine HS1.out.mono ?_
    rintro e w4 ⟨rfl, hb4⟩
    have a0_w4 := (hb4.cell aL_w3).trans a0_w3
    have a1_w4 := (hb4.cell aL_w3).trans a1_w3
    have a2_w4 := (hb4.cell aL_w3).trans a2_w3
    have a3_w4 := (hb4.cell aL_w3).trans a3_w3
    have a4_w4 := (hb4.cell aL_w3).trans a4_w3
    have a5_w4 := (hb4.cell aL_w3).trans a5_w3
    have a6_w4 := (hb4.cell aL_w3).trans a6_w3
    have a7_w4 := (hb4.cell aL_w3).trans a7_w3
    have a8_w4 := (hb4.cell aL_w3).trans a8_w3
    have a9_w4 := (hb4.cell aL_w3).trans a9_w3
    have a10_w4 := (hb4.cell aL_w3).trans a10_w3
    have a11_w4 := (hb4.cell aL_w3).trans a11_w3
    have aL_w4 := Nat.lt_of_lt_of_le aL_w3 hb4.size
    have A4 := hidP (A3.out.trans (hb4.mono A3.out.size))
    clear hb4 a0_w3 a1_w3 a2_w3 a3_w3 a4_w3 a5_w3 a6_w3 a7_w3 a8_w3 a9_w3 a10_w3 a11_w3 aL_w3 A3 HS1
    go_wp2_with fail
    refine (HTo.out _ A4.out).mono ?_
    rintro e w5 ⟨k2, rfl, hk2, ⟨hq2, hf2⟩, hb5⟩
    have a0_w5 := (hb5.cell aL_w4).trans a0_w4
    have a1_w5 := (hb5.cell aL_w4).trans a1_w4
    have a2_w5 := (hb5.cell aL_w4).trans a2_w4
    have a3_w5 := (hb5.cell aL_w4).trans a3_w4
    have a4_w5 := (hb5.cell aL_w4).trans a4_w4
    have a5_w5 := (hb5.cell aL_w4).trans a5_w4
    have a6_w5 := (hb5.cell aL_w4).trans a6_w4
    have a7_w5 := (hb5.cell aL_w4).trans a7_w4
    have a8_w5 := (hb5.cell aL_w4).trans a8_w4
    have a9_w5 := (hb5.cell aL_w4).trans a9_w4
    have a10_w5 := (hb5.cell aL_w4).trans a10_w4
    have a11_w5 := (hb5.cell aL_w4).trans a11_w4
    have aL_w5 := Nat.lt_of_lt_of_le aL_w4 hb5.size
    have A5 := hidP (A4.out.trans (hb5.mono A4.out.size))
    clear hb5 a0_w4 a1_w4 a2_w4 a3_w4 a4_w4 a5_w4 a6_w4 a7_w4 a8_w4 a9_w4 a10_w4 a11_w4 aL_w4 A4
    have HI2 := hidP (fun W (hb : Below w5.heap.size w5 W) => HIm.out k2 W hk2 (hq2.later hb) (A5.out.trans (hb.mono A5.out.size)))
    have HE2 := hidP (fun l W (hb : Below w5.heap.size w5 W) hl hp => HEq.out k2 l W hk2 hl (hq2.later hb) hp)
    clear hk2 hq2 hf2 HIm HEq
    obtain ⟨K2, F2, T2, M2, I2, L2, ea2, en2, ec2, C2, O2, da2, dn2, dc2, ga2, gn2, gc2, ha2, hn2, hc2, es2, ds2, ps2, bs2⟩ := k2
    go_wp2_with fail
    obtain ⟨x0_W6, x1_W6, x2_W6, x3_W6, x4_W6, x5_W6, x6_W6, x7_W6, x8_W6, x9_W6, x10_W6, x11_W6⟩ := box12z w5 34 (.int .i64 K2) (.int .i64 F2) (.int .i64 T2) (.int .i64 M2) (.int .i64 I2) (.int .i64 L2) (.slice ea2 en2 ec2) (.int .i64 C2) (.bool O2) (.slice da2 dn2 dc2) (.slice ga2 gn2 gc2) (.slice ha2 hn2 hc2)
    have bB := alloc_below w5 (.cells #[.int .i64 K2, .int .i64 F2, .int .i64 T2, .int .i64 M2, .int .i64 I2, .int .i64 L2, .slice ea2 en2 ec2, .int .i64 C2, .bool O2, .slice da2 dn2 dc2, .slice ga2 gn2 gc2, .slice ha2 hn2 hc2] 34)
    have xL_W6 : w5.heap.size < (w5.alloc (.cells #[.int .i64 K2, .int .i64 F2, .int .i64 T2, .int .i64 M2, .int .i64 I2, .int .i64 L2, .slice ea2 en2 ec2, .int .i64 C2, .bool O2, .slice da2 dn2 dc2, .slice ga2 gn2 gc2, .slice ha2 hn2 hc2] 34)).heap.size := by simp
    generalize w5.alloc (.cells #[.int .i64 K2, .int .i64 F2, .int .i64 T2, .int .i64 M2, .int .i64 I2, .int .i64 L2, .slice ea2 en2 ec2, .int .i64 C2, .bool O2, .slice da2 dn2 dc2, .slice ga2 gn2 gc2, .slice ha2 hn2 hc2] 34) = W6 at *
    have a0_W6 := (bB.cell aL_w5).trans a0_w5
    have a1_W6 := (bB.cell aL_w5).trans a1_w5
    have a2_W6 := (bB.cell aL_w5).trans a2_w5
    have a3_W6 := (bB.cell aL_w5).trans a3_w5
    have a4_W6 := (bB.cell aL_w5).trans a4_w5
    have a5_W6 := (bB.cell aL_w5).trans a5_w5
    have a6_W6 := (bB.cell aL_w5).trans a6_w5
    have a7_W6 := (bB.cell aL_w5).trans a7_w5
    have a8_W6 := (bB.cell aL_w5).trans a8_w5
    have a9_W6 := (bB.cell aL_w5).trans a9_w5
    have a10_W6 := (bB.cell aL_w5).trans a10_w5
    have a11_W6 := (bB.cell aL_w5).trans a11_w5
    have aL_W6 := Nat.lt_of_lt_of_le aL_w5 bB.size
    have A6 := hidP (A5.out.trans (bB.mono A5.out.size))
    have D6 := hidP bB
    clear bB a0_w5 a1_w5 a2_w5 a3_w5 a4_w5 a5_w5 a6_w5 a7_w5 a8_w5 a9_w5 a10_w5 a11_w5 aL_w5
    refine (HI2.out _ D6.out).mono ?_
    rintro e w7 ⟨rfl, hb7⟩
    have a0_w7 := (hb7.cell aL_W6).trans a0_W6
    have a1_w7 := (hb7.cell aL_W6).trans a1_W6
    have a2_w7 := (hb7.cell aL_W6).trans a2_W6
    have a3_w7 := (hb7.cell aL_W6).trans a3_W6
    have a4_w7 := (hb7.cell aL_W6).trans a4_W6
    have a5_w7 := (hb7.cell aL_W6).trans a5_W6
    have a6_w7 := (hb7.cell aL_W6).trans a6_W6
    have a7_w7 := (hb7.cell aL_W6).trans a7_W6
    have a8_w7 := (hb7.cell aL_W6).trans a8_W6
    have a9_w7 := (hb7.cell aL_W6).trans a9_W6
    have a10_w7 := (hb7.cell aL_W6).trans a10_W6
    have a11_w7 := (hb7.cell aL_W6).trans a11_W6
    have aL_w7 := Nat.lt_of_lt_of_le aL_W6 hb7.size
    have x0_w7 := (hb7.cell xL_W6).trans x0_W6
    have x1_w7 := (hb7.cell xL_W6).trans x1_W6
    have x2_w7 := (hb7.cell xL_W6).trans x2_W6
    have x3_w7 := (hb7.cell xL_W6).trans x3_W6
    have x4_w7 := (hb7.cell xL_W6).trans x4_W6
    have x5_w7 := (hb7.cell xL_W6).trans x5_W6
    have x6_w7 := (hb7.cell xL_W6).trans x6_W6
    have x7_w7 := (hb7.cell xL_W6).trans x7_W6
    have x8_w7 := (hb7.cell xL_W6).trans x8_W6
    have x9_w7 := (hb7.cell xL_W6).trans x9_W6
    have x10_w7 := (hb7.cell xL_W6).trans x10_W6
    have x11_w7 := (hb7.cell xL_W6).trans x11_W6
    have xL_w7 := Nat.lt_of_lt_of_le xL_W6 hb7.size
    have A7 := hidP (A6.out.trans (hb7.mono A6.out.size))
    have D7 := hidP (D6.out.trans (hb7.mono D6.out.size))
    clear hb7 a0_W6 a1_W6 a2_W6 a3_W6 a4_W6 a5_W6 a6_W6 a7_W6 a8_W6 a9_W6 a10_W6 a11_W6 aL_W6 x0_W6 x1_W6 x2_W6 x3_W6 x4_W6 x5_W6 x6_W6 x7_W6 x8_W6 x9_W6 x10_W6 x11_W6 xL_W6 A6 D6 HI2
    go_wp2_with fail
    have E7 := hidP ((Below.refl w7.heap.size w7).drew)
    go_region_with (first | (go_at_call 6; refine (HTo.out _ (A7.out.trans (E7.out.mono A7.out.size))).mono ?_; rintro e w8 ⟨k3, rfl, hk3, ⟨hq3, hf3⟩, hb8⟩; have E8 := hidP (E7.out.trans (hb8.mono E7.out.size)); have x0_w8 := (E8.out.cell xL_w7).trans x0_w7; have x1_w8 := (E8.out.cell xL_w7).trans x1_w7; have x2_w8 := (E8.out.cell xL_w7).trans x2_w7; have x3_w8 := (E8.out.cell xL_w7).trans x3_w7; have x4_w8 := (E8.out.cell xL_w7).trans x4_w7; have x5_w8 := (E8.out.cell xL_w7).trans x5_w7; have x6_w8 := (E8.out.cell xL_w7).trans x6_w7; have x7_w8 := (E8.out.cell xL_w7).trans x7_w7; have x8_w8 := (E8.out.cell xL_w7).trans x8_w7; have x9_w8 := (E8.out.cell xL_w7).trans x9_w7; have x10_w8 := (E8.out.cell xL_w7).trans x10_w7; have x11_w8 := (E8.out.cell xL_w7).trans x11_w7; have HQ3 := hidP (HE2.out k3 w8 (D7.out.trans (E8.out.mono D7.out.size)) hk3 hq3); clear hk3 hq3 hf3 hb8; obtain ⟨K3, F3, T3, M3, I3, L3, ea3, en3, ec3, C3, O3, da3, dn3, dc3, ga3, gn3, gc3, ha3, hn3, hc3, es3, ds3, ps3, bs3⟩ := k3) | (go_at_call 8; refine HQ3.out.mono ?_; rintro e w9 ⟨rfl, hb9⟩; have E9 := hidP (E8.out.trans (hb9.mono E8.out.size)); clear hb9))
    all_goals
      go_wp2_with fail
      go_ret
      exact ⟨rfl, A7.out.trans (E9.out.mono A7.out.size)⟩
  · rw [szR_no ht] at HSz
    clear hr h1 h2 h3 h4 h5 hG ht hG2
    obtain ⟨K, F, T, M, I, L, ea, en, ec, C, O, da, dn, dc, ga, gn, gc, ha, hn, hc, es, ds, ps, bs⟩ := m
    go_enter Tryd.func3, Tryd.ntmps3
    go_wp2_with fail
    refine (HSz.out _ (alloc_below w _)).mono ?_
    rintro e w2 ⟨rfl, hb2⟩
    go_wp2_with fail
    go_ret
    exact ⟨rfl, (alloc_below w _).trans (hb2.mono (alloc_below w _).size)⟩

theorem at_take14 {cs : List Value} {k : Nat} {v : Value} (h : (cs.drop k).take 1 = [v]) : cs[k]? = some v := by
  have := congrArg (·[0]?) h
  simpa [List.getElem?_take, List.getElem?_drop] using this
set_option maxRecDepth 100000 in
/-- A form that reads as seven values holds them, cell for cell. -/
theorem formCells {H : Type} {enc : TypeId × Value → H} {W : World} {base : Nat} {sp : Nat → Bool} {held : Bool} {fuel : Nat} {cs : List Value} {p : List MemPlace} {z0 z1 z2 z3 z4 : Int} {z5 z6 : Bool}
    (h : DataW.trod enc Tryd.prog W base sp held fuel 53 cs = some (.agg [.lit (.int .i64 z0), .lit (.int .i64 z1), .lit (.int .i64 z2), .lit (.int .i64 z3), .lit (.int .i64 z4), .lit (.bool z5), .lit (.bool z6)], p)) :
    cs = [.int .i64 z0, .int .i64 z1, .int .i64 z2, .int .i64 z3, .int .i64 z4, .bool z5, .bool z6] := by
  obtain ⟨xs, n, _, hx, hl, hxl, hall⟩ := DataW.trod_struct Tryd.underlying53 h
  have hC : Tryd.prog.cellsOf 53 = 7 := by kernel_rfl
  have ki : Tryd.prog.cellsOf 3 = 1 := by kernel_rfl
  have kb : Tryd.prog.cellsOf 4 = 1 := by kernel_rfl
  rw [hC] at hl
  have hx3 : xs.map (·.1) = [.lit (.int .i64 z0), .lit (.int .i64 z1), .lit (.int .i64 z2), .lit (.int .i64 z3), .lit (.int .i64 z4), .lit (.bool z5), .lit (.bool z6)] := by
    have := congrArg Prod.fst hx
    simpa using this.symm
  obtain ⟨y0, y1, y2, y3, y4, y5, y6, rfl⟩ : ∃ y0 y1 y2 y3 y4 y5 y6, xs = [y0, y1, y2, y3, y4, y5, y6] := by
    match xs, hxl with
    | [y0, y1, y2, y3, y4, y5, y6], _ => exact ⟨y0, y1, y2, y3, y4, y5, y6, rfl⟩
  match cs, hl with
  | [c0, c1, c2, c3, c4, c5, c6], _ =>
    simp only [List.map_cons, List.map_nil, List.cons.injEq, and_true] at hx3
    obtain ⟨e0, e1, e2, e3, e4, e5, e6⟩ := hx3
    have f0 := hall 0 _ rfl; have f1 := hall 1 _ rfl; have f2 := hall 2 _ rfl; have f3 := hall 3 _ rfl; have f4 := hall 4 _ rfl; have f5 := hall 5 _ rfl; have f6 := hall 6 _ rfl
    simp [ki, kb] at f0 f1 f2 f3 f4 f5 f6
    obtain ⟨a0, i0, j0, _⟩ := DataW.trod_int Tryd.underlying3 f0
    obtain ⟨a1, i1, j1, _⟩ := DataW.trod_int Tryd.underlying3 f1
    obtain ⟨a2, i2, j2, _⟩ := DataW.trod_int Tryd.underlying3 f2
    obtain ⟨a3, i3, j3, _⟩ := DataW.trod_int Tryd.underlying3 f3
    obtain ⟨a4, i4, j4, _⟩ := DataW.trod_int Tryd.underlying3 f4
    obtain ⟨a5, i5, j5⟩ := DataW.trod_bool Tryd.underlying4 f5
    obtain ⟨a6, i6, j6⟩ := DataW.trod_bool Tryd.underlying4 f6
    subst j0 j1 j2 j3 j4 j5 j6
    simp at i0 i1 i2 i3 i4 i5 i6 e0 e1 e2 e3 e4 e5 e6
    subst i0 i1 i2 i3 i4 i5 i6 e0 e1 e2 e3 e4 e5 e6
    rfl
theorem gForms : Tryd.prog.globalNamed "loop.example/g00113/impl.msgForms" = some 0 := by kernel_rfl
set_option maxRecDepth 100000 in
theorem forms_of {W : World} (h : laidMetH Tryd.prog Rows.fnExactMsgOkRow.laid W) : FmG W := by
  have h' : laidMet Tryd.prog Rows.fnExactMsgOkRow.laid W := h
  obtain ⟨ps, ⟨g', t', cs, fuel, p, q, hg', ht', hvar, hd, _, _⟩, _⟩ := h'
  obtain rfl := Option.some.inj (gForms.symm.trans hg')
  have ht : (Tryd.prog.globals[0]?).map (·.type) = some 54 := by kernel_rfl
  obtain rfl := Option.some.inj (ht.symm.trans ht')
  have hC : Tryd.prog.cellsOf 53 = 7 := by kernel_rfl
  have hcell := fun j => World.var?_cell gForms hvar j
  have row : ∀ (i : Nat) (hi : i < 6) (z0 z1 z2 z3 z4 : Int) (z5 z6 : Bool), ([.agg [.lit (.int .i64 0), .lit (.int .i64 0), .lit (.int .i64 0), .lit (.int .i64 0), .lit (.int .i64 0), .lit (.bool false), .lit (.bool false)], .agg [.lit (.int .i64 1000000), .lit (.int .i64 1000000), .lit (.int .i64 0), .lit (.int .i64 0), .lit (.int .i64 0), .lit (.bool false), .lit (.bool false)], .agg [.lit (.int .i64 0), .lit (.int .i64 0), .lit (.int .i64 0), .lit (.int .i64 0), .lit (.int .i64 0), .lit (.bool true), .lit (.bool false)], .agg [.lit (.int .i64 1000000), .lit (.int .i64 1000000), .lit (.int .i64 8), .lit (.int .i64 1000000), .lit (.int .i64 0), .lit (.bool false), .lit (.bool false)], .agg [.lit (.int .i64 1000000), .lit (.int .i64 0), .lit (.int .i64 0), .lit (.int .i64 0), .lit (.int .i64 0), .lit (.bool true), .lit (.bool false)], .agg [.lit (.int .i64 1000000), .lit (.int .i64 1000000), .lit (.int .i64 0), .lit (.int .i64 0), .lit (.int .i64 20000), .lit (.bool false), .lit (.bool true)]] : List (DataW Unit))[i]? = some (.agg [.lit (.int .i64 z0), .lit (.int .i64 z1), .lit (.int .i64 z2), .lit (.int .i64 z3), .lit (.int .i64 z4), .lit (.bool z5), .lit (.bool z6)]) →
      (cs.toList.drop (i * 7)).take 7 = [.int .i64 z0, .int .i64 z1, .int .i64 z2, .int .i64 z3, .int .i64 z4, .bool z5, .bool z6] := by
    intro i hi z0 z1 z2 z3 z4 z5 z6 hz
    obtain ⟨fuel', d', q', hd', htr⟩ := Lib.array_elem Tryd.underlying54 hd i hi
    rw [hC] at htr
    obtain rfl := Option.some.inj (hd'.symm.trans hz)
    exact formCells htr
  have pick : ∀ (i j : Nat) (l : List Value) (v : Value), (cs.toList.drop (i * 7)).take 7 = l → j < 7 → l[j]? = some v → W.cell? ⟨0, i * 7 + j, none⟩ = some v := by
    intro i j l v hl hj hv
    rw [hcell]
    rw [← hl, List.getElem?_take, if_pos hj, List.getElem?_drop] at hv
    simpa using hv
  intro i v hv
  have hi : i < 42 := by
    rcases Nat.lt_or_ge i 42 with h1 | h1
    · exact h1
    · have : fmC[i]? = none := List.getElem?_eq_none (by show (42 : Nat) ≤ i; exact h1)
      rw [this] at hv; cases hv
  have r0 := row 0 (by omega) _ _ _ _ _ _ _ rfl
  have r1 := row 1 (by omega) _ _ _ _ _ _ _ rfl
  have r2 := row 2 (by omega) _ _ _ _ _ _ _ rfl
  have r3 := row 3 (by omega) _ _ _ _ _ _ _ rfl
  have r4 := row 4 (by omega) _ _ _ _ _ _ _ rfl
  have r5 := row 5 (by omega) _ _ _ _ _ _ _ rfl
  have all : ∀ i : Fin 42, ∀ v, fmC[i.1]? = some v → W.cell? ⟨0, i.1, none⟩ = some v := by
    intro ⟨i, hi⟩ v hv
    have e : i = (i / 7) * 7 + i % 7 := by omega
    have hm : i % 7 < 7 := by omega
    have hd7 : i / 7 = 0 ∨ i / 7 = 1 ∨ i / 7 = 2 ∨ i / 7 = 3 ∨ i / 7 = 4 ∨ i / 7 = 5 := by omega
    show W.cell? ⟨_, i, none⟩ = some v
    have hv2 : fmC[i]? = some v := hv
    rw [e] at hv2 ⊢
    generalize i % 7 = j at *
    rcases hd7 with h | h | h | h | h | h <;> rw [h] at hv2 ⊢
    · exact pick 0 j _ v r0 hm (by rw [← hv2]; rcases j with _ | _ | _ | _ | _ | _ | _ | j <;> first | rfl | omega)
    · exact pick 1 j _ v r1 hm (by rw [← hv2]; rcases j with _ | _ | _ | _ | _ | _ | _ | j <;> first | rfl | omega)
    · exact pick 2 j _ v r2 hm (by rw [← hv2]; rcases j with _ | _ | _ | _ | _ | _ | _ | j <;> first | rfl | omega)
    · exact pick 3 j _ v r3 hm (by rw [← hv2]; rcases j with _ | _ | _ | _ | _ | _ | _ | j <;> first | rfl | omega)
    · exact pick 4 j _ v r4 hm (by rw [← hv2]; rcases j with _ | _ | _ | _ | _ | _ | _ | j <;> first | rfl | omega)
    · exact pick 5 j _ v r5 hm (by rw [← hv2]; rcases j with _ | _ | _ | _ | _ | _ | _ | j <;> first | rfl | omega)
  exact all ⟨i, hi⟩ v hv

theorem contractM (H : Type) (enc : TypeId × Value → H) (W : World) (base : Nat) (args : Array Value) (ds gs : List (DataW H)) (before : List MemPlace)
    (hval : ∀ (j : Nat) t v, Tryd.f3.params[j]? = some t → args[j]? = some v → Value.okWide Tryd.prog W .any base t v)
    (hW : DataW.Whole enc Tryd.prog Tryd.f3.params.toList Rows.fnExactMsgOkSpec.vars false W args.toList ds gs before) (hL : laidMetH Tryd.prog Rows.fnExactMsgOkRow.laid W) :
    Calls Tryd.prog 3 args W fun e W' => ∃ v, e = .returned v ∧ Rows.fnExactMsgOkSpec.post enc Tryd.prog Tryd.f3 false true false false W args v W' := by
  have hW' := hW
  obtain ⟨p, q, hA0, hV, rfl, _, _⟩ := hW
  have hA : DataW.TrodAll enc Tryd.prog W 0 (fun _ => true) true Tryd.f3.params.toList args.toList ds p := hA0
  rw [Tryd.params3] at hA hval
  obtain ⟨v0, d0, rfl, rfl, h0⟩ := trodAll_one hA
  obtain ⟨g, t, cs, fuel, d, p2, rfl, _, _, _, _, _⟩ := trodVars_one hV
  obtain ⟨m, rfl, hr, h1, h2, h3, h4, h5⟩ := openMsg (hval 0 28 v0 rfl rfl) h0
  clear hA0
  have hlt0 : ∀ x ∈ p, x.block < W.heap.size := fun x hx => by
    have := hW'.lt x (List.mem_append_left _ hx)
    simpa using this
  refine (lawMsgOk m W hr h1 h2 h3 h4 h5 (forms_of hL)).mono fun e W' ⟨he, hb⟩ => ?_
  subst he
  exact ⟨_, rfl, ⟨_, _, _, [], p, _, hW', trodAll_mk1 (shut_bool Tryd.underlying4 true), trodAll_mk1 (Below.trod Tryd.laidOutG (by kernel_rfl) (of_decide_eq_true (by kernel_rfl)) h0 hb hlt0), hb.trodVars Tryd.laidOutG (by kernel_rfl) hV, hb.frame _, fun h => by cases h⟩⟩

/-- A block of cells laid anew. -/
def layAs (cs : Array Value) : Obj → Obj
  | .cells _ t frozen => .cells cs t frozen
  | o => o
/-- A world for the witness: the settled one, the forms holding what their initialiser lays. -/
noncomputable def laidWorld (os : Os) : World :=
  { World.holding Tryd.prog os ⟨#[], #[], []⟩ with heap := (World.holding Tryd.prog os ⟨#[], #[], []⟩).heap.modify 0 (layAs #[.int .i64 0, .int .i64 0, .int .i64 0, .int .i64 0, .int .i64 0, .bool false, .bool false, .int .i64 1000000, .int .i64 1000000, .int .i64 0, .int .i64 0, .int .i64 0, .bool false, .bool false, .int .i64 0, .int .i64 0, .int .i64 0, .int .i64 0, .int .i64 0, .bool true, .bool false, .int .i64 1000000, .int .i64 1000000, .int .i64 8, .int .i64 1000000, .int .i64 0, .bool false, .bool false, .int .i64 1000000, .int .i64 0, .int .i64 0, .int .i64 0, .int .i64 0, .bool true, .bool false, .int .i64 1000000, .int .i64 1000000, .int .i64 0, .int .i64 0, .int .i64 20000, .bool false, .bool true]) }
theorem laid_met (os : Os) : laidMet Tryd.prog Rows.fnExactMsgOkRow.laid ((laidWorld os).forCall (fun _ _ => 0) ⟨#[], #[.agg #[.int .i64 0, .int .i64 0, .int .i64 0, .int .i64 0, .int .i64 0, .int .i64 0, .slice none 0 0, .int .i64 0, .bool false, .slice none 0 0, .slice none 0 0, .slice none 0 0]], []⟩).memory :=
  laidMet_of_run' 8 (by kernel_rfl) (by kernel_rfl)
theorem readsM (os : Os) {H : Type} (enc : TypeId × Value → H) : ∃ places, DataW.whole enc Tryd.prog ((laidWorld os).forCall (fun _ _ => 0) ⟨#[], #[.agg #[.int .i64 0, .int .i64 0, .int .i64 0, .int .i64 0, .int .i64 0, .int .i64 0, .slice none 0 0, .int .i64 0, .bool false, .slice none 0 0, .slice none 0 0, .slice none 0 0]], []⟩).memory Tryd.f3.params.toList Rows.fnExactMsgOkSpec.vars false (#[.agg #[.int .i64 0, .int .i64 0, .int .i64 0, .int .i64 0, .int .i64 0, .int .i64 0, .slice none 0 0, .int .i64 0, .bool false, .slice none 0 0, .slice none 0 0, .slice none 0 0]] : Array Value).toList 8 = some ([.agg [.lit (.int .i64 0), .lit (.int .i64 0), .lit (.int .i64 0), .lit (.int .i64 0), .lit (.int .i64 0), .lit (.int .i64 0), .nil, .lit (.int .i64 0), .lit (.bool false), .nil, .agg [.nil, .nil]]], [Rows.laid_loop_example_g00113_impl_msgForms], places) :=
  ⟨MemPlace.row ⟨0, 0, none⟩ 42, by kernel_rfl⟩

set_option maxRecDepth 100000 in
theorem liftedM (os : Os) (started : os.Started) (H : Type) (enc : TypeId × Value → H) (F : Stop.Interp) :
    ReturnsInHanded {} Tryd.checked os 3 .any ((OpenSpec.ofChange Rows.fnExactMsgOkSpec).preRow enc Tryd.prog Tryd.f3 Rows.fnExactMsgOkRow.domain false Rows.fnExactMsgOkRow.laid) (((OpenSpec.ofChange Rows.fnExactMsgOkSpec).at F).post enc Tryd.prog Tryd.f3 false true false false) := by
  obtain ⟨places, hx⟩ := readsM os enc
  refine returnsInHanded_of_row (C := Tryd.checked) (s := OpenSpec.ofChange Rows.fnExactMsgOkSpec) Tryd.ownG12 started (by kernel_rfl) Tryd.func3
    (witness_row_at (enc := enc) (C := Tryd.checked) false (laidWorld os) #[.agg #[.int .i64 0, .int .i64 0, .int .i64 0, .int .i64 0, .int .i64 0, .int .i64 0, .slice none 0 0, .int .i64 0, .bool false, .slice none 0 0, .slice none 0 0, .slice none 0 0]] rfl (by kernel_rfl) (by kernel_rfl) (by kernel_rfl)
      (OpenSpec.preRow_of_cond 8 hx (by kernel_rfl) (fun k hk => by cases hk) (by kernel_rfl) (laid_met os))) ?_
  intro W base args ds gs before hval hW _ _ _ hL _ _
  exact contractM H enc W base args ds gs before hval hW hL

theorem saidM : Rows.FnExactMsgOkSaid :=
  OpenClaim.holds_of_cond 3 Tryd.f3 rfl rfl rfl rfl rfl rfl rfl ⟨rfl, rfl, rfl, rfl, rfl⟩ rfl rfl rfl rfl rfl (by kernel_rfl) Tryd.func3 (by kernel_rfl)
    (of_decide_eq_true (by kernel_rfl)) (by unfold Func.isWrapper; rw [if_neg (of_decide_eq_false (by kernel_rfl))]; exact ⟨rfl, rfl⟩)
    (fun os started H enc _ F => by rw [OpenClaim.pre_eq_preRow]; exact liftedM os started H enc F)

theorem plainM (f : FuncId) (fn : Func) (hf : Tryd.pinned.checked.prog.funcNamed "loop.example/g00113/laws.FnExactMsgOk" = some f) (hfn : Tryd.pinned.checked.prog.funcs[f]? = some fn) :
    false = Tryd.pinned.checked.prog.looks [] ∧ ∀ (j : Nat) t, fn.params[j]? = some t → Tryd.pinned.checked.prog.wantsStandIn t = false := by
  obtain rfl : f = 3 := Option.some.inj ((show Tryd.prog.funcNamed "loop.example/g00113/laws.FnExactMsgOk" = some 3 by kernel_rfl).symm.trans hf) |>.symm
  obtain rfl : fn = Tryd.f3 := (Option.some.inj (Tryd.func3.symm.trans hfn)).symm
  refine ⟨by kernel_rfl, fun j t ht => ?_⟩
  rw [Tryd.params3] at ht
  obtain rfl : t = 28 := by simpa using Array.mem_of_getElem? ht
  exact (show Tryd.prog.wantsStandIn 28 = false by kernel_rfl)

theorem msgOk_card : Rows.FnExactMsgOkCardSaid :=
  Claim7.holds_tied_plain_at .later [] _ _ _ _ saidM (fun _ h => by cases h) (by kernel_rfl) (fun _ h => by cases h) fnExactMsgOk_row_tie rfl ⟨rfl, rfl⟩ (by kernel_rfl) rfl plainM (by kernel_rfl)

end Go.Proofs.YtgenjjhchnnpnaaDoor
