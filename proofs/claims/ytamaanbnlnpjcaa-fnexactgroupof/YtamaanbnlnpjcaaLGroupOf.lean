/-
  For every Keep the two GroupOf answer alike, in rows of their own, and leave it as it was, so the exact law of GroupOf returns true; no condition.
-/
import Derived.Test.YtamaanbnlnpjcaaV15J
import Derived.Test.YtamaanbnlnpjcaaV15O
import Derived.Test.YtamaanbnlnpjcaaRows
import Derived.ProofKit
import Derived.OpenShut
import Derived.Lib.SmallJoins
import Derived.Deep.DeepHandedRow
namespace Go.Proofs.Ytamaanbnlnpjcaa
open Go.ChangeShapes Go.WideShapes Go.ChangeAt Go.RowKit Go.Joins Go.Deep

theorem sum_key : ∀ {es fs : List En}, es.map En.key = fs.map En.key → sumE es = sumE fs
  | [], [], _ => rfl
  | [], _ :: _, h => by simp at h
  | _ :: _, [], h => by simp at h
  | e :: t, f :: u, h => by
    simp only [List.map_cons, List.cons.injEq] at h
    have h1 := sum_key h.2
    have h2 : e.n = f.n := congrArg (fun x : Int × Int × Nat × List Int => x.2.2.1) h.1
    show (e.n : Int) + sumE t = f.n + sumE u
    rw [h1, h2]
theorem tot_key {m k : Kv} (h : KvE m k) : totK k = totK m := by
  unfold totK
  rw [h.gn, h.hn, h.sn, h.ln, sum_key h.es]
set_option maxRecDepth 10000 in
set_option maxHeartbeats 20000000 in
theorem lawGroupOf (k : Kv) (ss : List Int) (w : World) (hr : KvF w k ss) (hx : KvL k) :
    Calls Try.prog 7 #[k.v] w fun e w' => e = .returned (.bool true) ∧ Below w.heap.size w w' := by
  have HSz := hidP (fun W (hb : Below w.heap.size w W) => szKeep_any k W (hr.later hb).r hx)
  by_cases ht : totK k ≤ 1048576
  · rw [szR_yes ht] at HSz
    have hs := KvS.of ht
    have HTo := hidP (fun W (hb : Below w.heap.size w W) => toKeep_dst k ss W (hr.later hb) hs)
    have hPl := gr_len (k := k) (by rw [← hr.r.hg]; exact hs.hg) (by rw [← hr.r.hh]; exact hs.hh)
    rcases hP : grA k with ⟨PS, BS⟩
    rw [hP] at hPl
    obtain ⟨NP, hNP⟩ : ∃ NP, NP = PS.length := ⟨_, rfl⟩
    obtain ⟨NB, hNB⟩ : ∃ NB, NB = BS.length := ⟨_, rfl⟩
    have hL1 : NP ≤ 1048576 := by rw [hNP]; exact hPl.1
    have hL2 : NB ≤ 1048576 := by rw [hNB]; exact hPl.2
    have HSp := hidP (fun (q : Kv) (W : World) (D : Nat) (hk : KvE k q) (hq : KvO W D q ss) => spec_gr hk hs hq hP hNP hNB)
    have HIm := hidP (fun (q : Kv) (W : World) (D : Nat) (hk : KvE k q) (hq : KvO W D q ss) => impl_gr hk hs hq hP hNP hNB)
    have HEq := hidP (fun (q l : Kv) (W : World) (hk : KvE k q) (hl : KvE k l) (hq : KvF W q ss) (hp : KvF W l ss) => eqKeep_same q l ss W hq hp (hk.comp hl) (hk.s hs))
    have HMq := hidP (fun (q : Kv) (X W : World) (D : Nat) (hk : KvE k q) (hq : KvO X D q ss) (hd : KvD q) (hb : Below X.heap.size X W) => markKeep_any q ss D X W hq hd hb (hk.s hs) (by rw [tot_key hk]; exact ht))
    have HEr := hidP (fun W a c b d a' c' b' d' e1 e2 e3 e4 => eqGroup_same a a' NP c c' b b' NB d d' PS BS W hNP hNB e1 e2 e3 e4 (by omega) (by omega))
    have HMr := hidP (fun W a c b d B o1 o2 ne => markGroup_any a NP c b NB d PS BS B 1 W hNP hNB o1 o2 ne (by omega) (by omega) (by omega) (by omega))
    have HHd := hidP (fun W a c b d e1 e2 => heldGroup_any a NP c b NB d 1 W e1 e2 (by omega) (by omega) (by omega) (by omega))
    have d1 : decide (1048576 - totK k < 0) = false := decide_eq_false (by omega)
    have d2 : ¬ (1048576 - totK k < 0) := by omega
    have d5 : decide ((1 : Int) + (NP : Int) + (NB : Int) < 0) = false := decide_eq_false (by omega)
    have d6 : ¬ ((1 : Int) + (NP : Int) + (NB : Int) < 0) := by omega
    generalize 1048576 - totK k = z at *
    clear hr hx hs ht hP hPl hNP hNB
    obtain ⟨T, V, B, E, ga, gn, gc, ha, hn, hc, sa, sn, sc, la, ln, lc, ps, bs, es⟩ := k
    go_enter Try.func7, Try.ntmps7
    go_wp2_with fail
    obtain ⟨lb0_W1, lb1_W1, lb2_W1, lb3_W1, lb4_W1, lb5_W1, lb6_W1, lb7_W1⟩ := box8K w 42 (.int .i64 T) (.int .i64 V) (.int .i64 B) (.int .i64 E) (.slice ga gn gc) (.slice ha hn hc) (.slice sa sn sc) (.slice la ln lc)
    have lbF_W1 : ∀ o, (w.alloc (.cells #[.int .i64 T, .int .i64 V, .int .i64 B, .int .i64 E, .slice ga gn gc, .slice ha hn hc, .slice sa sn sc, .slice la ln lc] 42)).frozen? ⟨w.heap.size, o, none⟩ = false := fun o => by simp [go_sem]
    have lbL_W1 : w.heap.size < (w.alloc (.cells #[.int .i64 T, .int .i64 V, .int .i64 B, .int .i64 E, .slice ga gn gc, .slice ha hn hc, .slice sa sn sc, .slice la ln lc] 42)).heap.size := by simp
    have ab_W1 := alloc_below w (.cells #[.int .i64 T, .int .i64 V, .int .i64 B, .int .i64 E, .slice ga gn gc, .slice ha hn hc, .slice sa sn sc, .slice la ln lc] 42)
    have as_W1 : Hid ((w.alloc (.cells #[.int .i64 T, .int .i64 V, .int .i64 B, .int .i64 E, .slice ga gn gc, .slice ha hn hc, .slice sa sn sc, .slice la ln lc] 42)).heap.size = w.heap.size + 1) := hidP (by simp)
    generalize w.alloc (.cells #[.int .i64 T, .int .i64 V, .int .i64 B, .int .i64 E, .slice ga gn gc, .slice ha hn hc, .slice sa sn sc, .slice la ln lc] 42) = W1 at *
    have acc_W1 := hidP (ab_W1)
    have sz_W1 : Hid (w.heap.size ≤ W1.heap.size) := hidP ab_W1.size
    clear ab_W1 
    refine (HSz.out _ acc_W1.out).mono ?_
    rintro e w2 ⟨rfl, hb2⟩
    have lb0_w2 := (hb2.cell lbL_W1).trans lb0_W1
    have lb1_w2 := (hb2.cell lbL_W1).trans lb1_W1
    have lb2_w2 := (hb2.cell lbL_W1).trans lb2_W1
    have lb3_w2 := (hb2.cell lbL_W1).trans lb3_W1
    have lb4_w2 := (hb2.cell lbL_W1).trans lb4_W1
    have lb5_w2 := (hb2.cell lbL_W1).trans lb5_W1
    have lb6_w2 := (hb2.cell lbL_W1).trans lb6_W1
    have lb7_w2 := (hb2.cell lbL_W1).trans lb7_W1
    have lbF_w2 : ∀ o, w2.frozen? ⟨w.heap.size, o, none⟩ = false := fun o => (hb2.frozen lbL_W1).trans (lbF_W1 o)
    have lbL_w2 : w.heap.size < w2.heap.size := Nat.lt_of_lt_of_le lbL_W1 hb2.size
    have acc_w2 := hidP (acc_W1.out.trans (hb2.mono acc_W1.out.size))
    have sz_w2 : Hid (W1.heap.size ≤ w2.heap.size) := hidP hb2.size
    clear hb2 lb0_W1 lb1_W1 lb2_W1 lb3_W1 lb4_W1 lb5_W1 lb6_W1 lb7_W1 lbF_W1 lbL_W1 acc_W1
    go_wp2_with fail
    refine (HTo.out _ acc_w2.out).mono ?_
    rintro e w3 ⟨k1, rfl, hk1, hq1, -, hb3⟩
    have HS1 := hidP (HSp.out k1 w3 _ hk1 hq1)
    clear hk1 hq1 HSp
    obtain ⟨T1, V1, B1, E1, ga1, gn1, gc1, ha1, hn1, hc1, sa1, sn1, sc1, la1, ln1, lc1, ps1, bs1, es1⟩ := k1
    have lb0_w3 := (hb3.cell lbL_w2).trans lb0_w2
    have lb1_w3 := (hb3.cell lbL_w2).trans lb1_w2
    have lb2_w3 := (hb3.cell lbL_w2).trans lb2_w2
    have lb3_w3 := (hb3.cell lbL_w2).trans lb3_w2
    have lb4_w3 := (hb3.cell lbL_w2).trans lb4_w2
    have lb5_w3 := (hb3.cell lbL_w2).trans lb5_w2
    have lb6_w3 := (hb3.cell lbL_w2).trans lb6_w2
    have lb7_w3 := (hb3.cell lbL_w2).trans lb7_w2
    have lbF_w3 : ∀ o, w3.frozen? ⟨w.heap.size, o, none⟩ = false := fun o => (hb3.frozen lbL_w2).trans (lbF_w2 o)
    have lbL_w3 : w.heap.size < w3.heap.size := Nat.lt_of_lt_of_le lbL_w2 hb3.size
    have acc_w3 := hidP (acc_w2.out.trans (hb3.mono acc_w2.out.size))
    have sz_w3 : Hid (w2.heap.size ≤ w3.heap.size) := hidP hb3.size
    clear hb3 lb0_w2 lb1_w2 lb2_w2 lb3_w2 lb4_w2 lb5_w2 lb6_w2 lb7_w2 lbF_w2 lbL_w2 acc_w2
    go_wp2_with fail
    refine (HS1.out).mono ?_
    rintro e w4 ⟨a4, c4, b4, d4, rfl, og4, oh4, nq4, hb4⟩
    have OX := hidP (And.intro og4 (And.intro oh4 nq4))
    clear og4 oh4 nq4
    have lb0_w4 := (hb4.cell lbL_w3).trans lb0_w3
    have lb1_w4 := (hb4.cell lbL_w3).trans lb1_w3
    have lb2_w4 := (hb4.cell lbL_w3).trans lb2_w3
    have lb3_w4 := (hb4.cell lbL_w3).trans lb3_w3
    have lb4_w4 := (hb4.cell lbL_w3).trans lb4_w3
    have lb5_w4 := (hb4.cell lbL_w3).trans lb5_w3
    have lb6_w4 := (hb4.cell lbL_w3).trans lb6_w3
    have lb7_w4 := (hb4.cell lbL_w3).trans lb7_w3
    have lbF_w4 : ∀ o, w4.frozen? ⟨w.heap.size, o, none⟩ = false := fun o => (hb4.frozen lbL_w3).trans (lbF_w3 o)
    have lbL_w4 : w.heap.size < w4.heap.size := Nat.lt_of_lt_of_le lbL_w3 hb4.size
    have acc_w4 := hidP (acc_w3.out.trans (hb4.mono acc_w3.out.size))
    have sz_w4 : Hid (w3.heap.size ≤ w4.heap.size) := hidP hb4.size
    clear hb4 lb0_w3 lb1_w3 lb2_w3 lb3_w3 lb4_w3 lb5_w3 lb6_w3 lb7_w3 lbF_w3 lbL_w3 acc_w3
    have oS_w4 := hidP (OX.out.1)
    have lhS : Hid (∀ k, (Value.slice a4 NP c4).ownBlock = some k → w3.heap.size ≤ k ∧ k < w4.heap.size) := hidP (fun k hk => OwnG.lt oS_w4.out k hk)
    have oT_w4 := hidP (OX.out.2.1)
    have lhT : Hid (∀ k, (Value.slice b4 NB d4).ownBlock = some k → w3.heap.size ≤ k ∧ k < w4.heap.size) := hidP (fun k hk => OwnG.lt oT_w4.out k hk)
    have ne4 := hidP OX.out.2.2
    clear OX
    clear HS1
    go_wp2_with fail
    obtain ⟨sp0_W5, sp1_W5⟩ := box2D w4 26 (.slice a4 NP c4) (.slice b4 NB d4)
    have spF_W5 : ∀ o, (w4.alloc (.cells #[.slice a4 NP c4, .slice b4 NB d4] 26)).frozen? ⟨w4.heap.size, o, none⟩ = false := fun o => by simp [go_sem]
    have spL_W5 : w4.heap.size < (w4.alloc (.cells #[.slice a4 NP c4, .slice b4 NB d4] 26)).heap.size := by simp
    have ab_W5 := alloc_below w4 (.cells #[.slice a4 NP c4, .slice b4 NB d4] 26)
    have as_W5 : Hid ((w4.alloc (.cells #[.slice a4 NP c4, .slice b4 NB d4] 26)).heap.size = w4.heap.size + 1) := hidP (by simp)
    generalize w4.alloc (.cells #[.slice a4 NP c4, .slice b4 NB d4] 26) = W5 at *
    have lb0_W5 := (ab_W5.cell lbL_w4).trans lb0_w4
    have lb1_W5 := (ab_W5.cell lbL_w4).trans lb1_w4
    have lb2_W5 := (ab_W5.cell lbL_w4).trans lb2_w4
    have lb3_W5 := (ab_W5.cell lbL_w4).trans lb3_w4
    have lb4_W5 := (ab_W5.cell lbL_w4).trans lb4_w4
    have lb5_W5 := (ab_W5.cell lbL_w4).trans lb5_w4
    have lb6_W5 := (ab_W5.cell lbL_w4).trans lb6_w4
    have lb7_W5 := (ab_W5.cell lbL_w4).trans lb7_w4
    have lbF_W5 : ∀ o, W5.frozen? ⟨w.heap.size, o, none⟩ = false := fun o => (ab_W5.frozen lbL_w4).trans (lbF_w4 o)
    have lbL_W5 : w.heap.size < W5.heap.size := Nat.lt_of_lt_of_le lbL_w4 ab_W5.size
    have oS_W5 := hidP (OwnG.later oS_w4.out ab_W5)
    have oT_W5 := hidP (OwnG.later oT_w4.out ab_W5)
    have acc_W5 := hidP (acc_w4.out.trans (ab_W5.mono acc_w4.out.size))
    have sz_W5 : Hid (w4.heap.size ≤ W5.heap.size) := hidP ab_W5.size
    clear ab_W5 lb0_w4 lb1_w4 lb2_w4 lb3_w4 lb4_w4 lb5_w4 lb6_w4 lb7_w4 lbF_w4 lbL_w4 oS_w4 oT_w4 acc_w4
    refine (HTo.out _ acc_W5.out).mono ?_
    rintro e w6 ⟨k2, rfl, hk2, hq2, hd2, hb6⟩
    have HI2 := hidP (fun W (hb : Below w6.heap.size w6 W) => HIm.out k2 W _ hk2 (hq2.later hb))
    have HE2 := hidP (fun l W (hb : Below w6.heap.size w6 W) hl hp => HEq.out k2 l W hk2 hl (hq2.later hb).f hp)
    have HM2 := hidP (fun W (hb : Below w6.heap.size w6 W) => HMq.out k2 w6 W _ hk2 hq2 hd2 hb)
    clear hk2 hq2 hd2 HEq HMq
    obtain ⟨T2, V2, B2, E2, ga2, gn2, gc2, ha2, hn2, hc2, sa2, sn2, sc2, la2, ln2, lc2, ps2, bs2, es2⟩ := k2
    have lb0_w6 := (hb6.cell lbL_W5).trans lb0_W5
    have lb1_w6 := (hb6.cell lbL_W5).trans lb1_W5
    have lb2_w6 := (hb6.cell lbL_W5).trans lb2_W5
    have lb3_w6 := (hb6.cell lbL_W5).trans lb3_W5
    have lb4_w6 := (hb6.cell lbL_W5).trans lb4_W5
    have lb5_w6 := (hb6.cell lbL_W5).trans lb5_W5
    have lb6_w6 := (hb6.cell lbL_W5).trans lb6_W5
    have lb7_w6 := (hb6.cell lbL_W5).trans lb7_W5
    have lbF_w6 : ∀ o, w6.frozen? ⟨w.heap.size, o, none⟩ = false := fun o => (hb6.frozen lbL_W5).trans (lbF_W5 o)
    have lbL_w6 : w.heap.size < w6.heap.size := Nat.lt_of_lt_of_le lbL_W5 hb6.size
    have sp0_w6 := (hb6.cell spL_W5).trans sp0_W5
    have sp1_w6 := (hb6.cell spL_W5).trans sp1_W5
    have spF_w6 : ∀ o, w6.frozen? ⟨w4.heap.size, o, none⟩ = false := fun o => (hb6.frozen spL_W5).trans (spF_W5 o)
    have spL_w6 : w4.heap.size < w6.heap.size := Nat.lt_of_lt_of_le spL_W5 hb6.size
    have oS_w6 := hidP (OwnG.later oS_W5.out hb6)
    have oT_w6 := hidP (OwnG.later oT_W5.out hb6)
    have acc_w6 := hidP (acc_W5.out.trans (hb6.mono acc_W5.out.size))
    have sz_w6 : Hid (W5.heap.size ≤ w6.heap.size) := hidP hb6.size
    clear hb6 lb0_W5 lb1_W5 lb2_W5 lb3_W5 lb4_W5 lb5_W5 lb6_W5 lb7_W5 lbF_W5 lbL_W5 sp0_W5 sp1_W5 spF_W5 spL_W5 oS_W5 oT_W5 acc_W5
    have dx_w6 := hidP (Below.refl w6.heap.size w6)
    go_wp2_with fail
    obtain ⟨xa0_W7, xa1_W7, xa2_W7, xa3_W7, xa4_W7, xa5_W7, xa6_W7, xa7_W7⟩ := box8K w6 29 (.int .i64 T2) (.int .i64 V2) (.int .i64 B2) (.int .i64 E2) (.slice ga2 gn2 gc2) (.slice ha2 hn2 hc2) (.slice sa2 sn2 sc2) (.slice la2 ln2 lc2)
    have xaF_W7 : ∀ o, (w6.alloc (.cells #[.int .i64 T2, .int .i64 V2, .int .i64 B2, .int .i64 E2, .slice ga2 gn2 gc2, .slice ha2 hn2 hc2, .slice sa2 sn2 sc2, .slice la2 ln2 lc2] 29)).frozen? ⟨w6.heap.size, o, none⟩ = false := fun o => by simp [go_sem]
    have xaL_W7 : w6.heap.size < (w6.alloc (.cells #[.int .i64 T2, .int .i64 V2, .int .i64 B2, .int .i64 E2, .slice ga2 gn2 gc2, .slice ha2 hn2 hc2, .slice sa2 sn2 sc2, .slice la2 ln2 lc2] 29)).heap.size := by simp
    have ab_W7 := alloc_below w6 (.cells #[.int .i64 T2, .int .i64 V2, .int .i64 B2, .int .i64 E2, .slice ga2 gn2 gc2, .slice ha2 hn2 hc2, .slice sa2 sn2 sc2, .slice la2 ln2 lc2] 29)
    have as_W7 : Hid ((w6.alloc (.cells #[.int .i64 T2, .int .i64 V2, .int .i64 B2, .int .i64 E2, .slice ga2 gn2 gc2, .slice ha2 hn2 hc2, .slice sa2 sn2 sc2, .slice la2 ln2 lc2] 29)).heap.size = w6.heap.size + 1) := hidP (by simp)
    generalize w6.alloc (.cells #[.int .i64 T2, .int .i64 V2, .int .i64 B2, .int .i64 E2, .slice ga2 gn2 gc2, .slice ha2 hn2 hc2, .slice sa2 sn2 sc2, .slice la2 ln2 lc2] 29) = W7 at *
    have dx_W7 := hidP (dx_w6.out.trans (ab_W7.mono dx_w6.out.size))
    clear dx_w6
    have lb0_W7 := (ab_W7.cell lbL_w6).trans lb0_w6
    have lb1_W7 := (ab_W7.cell lbL_w6).trans lb1_w6
    have lb2_W7 := (ab_W7.cell lbL_w6).trans lb2_w6
    have lb3_W7 := (ab_W7.cell lbL_w6).trans lb3_w6
    have lb4_W7 := (ab_W7.cell lbL_w6).trans lb4_w6
    have lb5_W7 := (ab_W7.cell lbL_w6).trans lb5_w6
    have lb6_W7 := (ab_W7.cell lbL_w6).trans lb6_w6
    have lb7_W7 := (ab_W7.cell lbL_w6).trans lb7_w6
    have lbF_W7 : ∀ o, W7.frozen? ⟨w.heap.size, o, none⟩ = false := fun o => (ab_W7.frozen lbL_w6).trans (lbF_w6 o)
    have lbL_W7 : w.heap.size < W7.heap.size := Nat.lt_of_lt_of_le lbL_w6 ab_W7.size
    have sp0_W7 := (ab_W7.cell spL_w6).trans sp0_w6
    have sp1_W7 := (ab_W7.cell spL_w6).trans sp1_w6
    have spF_W7 : ∀ o, W7.frozen? ⟨w4.heap.size, o, none⟩ = false := fun o => (ab_W7.frozen spL_w6).trans (spF_w6 o)
    have spL_W7 : w4.heap.size < W7.heap.size := Nat.lt_of_lt_of_le spL_w6 ab_W7.size
    have oS_W7 := hidP (OwnG.later oS_w6.out ab_W7)
    have oT_W7 := hidP (OwnG.later oT_w6.out ab_W7)
    have acc_W7 := hidP (acc_w6.out.trans (ab_W7.mono acc_w6.out.size))
    have sz_W7 : Hid (w6.heap.size ≤ W7.heap.size) := hidP ab_W7.size
    clear ab_W7 lb0_w6 lb1_w6 lb2_w6 lb3_w6 lb4_w6 lb5_w6 lb6_w6 lb7_w6 lbF_w6 lbL_w6 sp0_w6 sp1_w6 spF_w6 spL_w6 oS_w6 oT_w6 acc_w6
    refine (HI2.out _ dx_W7.out).mono ?_
    rintro e w8 ⟨a8, c8, b8, d8, rfl, og8, oh8, nq8, hb8⟩
    have OX := hidP (And.intro og8 (And.intro oh8 nq8))
    clear og8 oh8 nq8
    have dx_w8 := hidP (dx_W7.out.trans (hb8.mono dx_W7.out.size))
    clear dx_W7
    have lb0_w8 := (hb8.cell lbL_W7).trans lb0_W7
    have lb1_w8 := (hb8.cell lbL_W7).trans lb1_W7
    have lb2_w8 := (hb8.cell lbL_W7).trans lb2_W7
    have lb3_w8 := (hb8.cell lbL_W7).trans lb3_W7
    have lb4_w8 := (hb8.cell lbL_W7).trans lb4_W7
    have lb5_w8 := (hb8.cell lbL_W7).trans lb5_W7
    have lb6_w8 := (hb8.cell lbL_W7).trans lb6_W7
    have lb7_w8 := (hb8.cell lbL_W7).trans lb7_W7
    have lbF_w8 : ∀ o, w8.frozen? ⟨w.heap.size, o, none⟩ = false := fun o => (hb8.frozen lbL_W7).trans (lbF_W7 o)
    have lbL_w8 : w.heap.size < w8.heap.size := Nat.lt_of_lt_of_le lbL_W7 hb8.size
    have sp0_w8 := (hb8.cell spL_W7).trans sp0_W7
    have sp1_w8 := (hb8.cell spL_W7).trans sp1_W7
    have spF_w8 : ∀ o, w8.frozen? ⟨w4.heap.size, o, none⟩ = false := fun o => (hb8.frozen spL_W7).trans (spF_W7 o)
    have spL_w8 : w4.heap.size < w8.heap.size := Nat.lt_of_lt_of_le spL_W7 hb8.size
    have xa0_w8 := (hb8.cell xaL_W7).trans xa0_W7
    have xa1_w8 := (hb8.cell xaL_W7).trans xa1_W7
    have xa2_w8 := (hb8.cell xaL_W7).trans xa2_W7
    have xa3_w8 := (hb8.cell xaL_W7).trans xa3_W7
    have xa4_w8 := (hb8.cell xaL_W7).trans xa4_W7
    have xa5_w8 := (hb8.cell xaL_W7).trans xa5_W7
    have xa6_w8 := (hb8.cell xaL_W7).trans xa6_W7
    have xa7_w8 := (hb8.cell xaL_W7).trans xa7_W7
    have xaF_w8 : ∀ o, w8.frozen? ⟨w6.heap.size, o, none⟩ = false := fun o => (hb8.frozen xaL_W7).trans (xaF_W7 o)
    have xaL_w8 : w6.heap.size < w8.heap.size := Nat.lt_of_lt_of_le xaL_W7 hb8.size
    have oS_w8 := hidP (OwnG.later oS_W7.out hb8)
    have oT_w8 := hidP (OwnG.later oT_W7.out hb8)
    have acc_w8 := hidP (acc_W7.out.trans (hb8.mono acc_W7.out.size))
    have sz_w8 : Hid (W7.heap.size ≤ w8.heap.size) := hidP hb8.size
    clear hb8 lb0_W7 lb1_W7 lb2_W7 lb3_W7 lb4_W7 lb5_W7 lb6_W7 lb7_W7 lbF_W7 lbL_W7 sp0_W7 sp1_W7 spF_W7 spL_W7 xa0_W7 xa1_W7 xa2_W7 xa3_W7 xa4_W7 xa5_W7 xa6_W7 xa7_W7 xaF_W7 xaL_W7 oS_W7 oT_W7 acc_W7
    have oI_w8 := hidP (OX.out.1)
    have lhI : Hid (∀ k, (Value.slice a8 NP c8).ownBlock = some k → W7.heap.size ≤ k ∧ k < w8.heap.size) := hidP (fun k hk => OwnG.lt oI_w8.out k hk)
    have oJ_w8 := hidP (OX.out.2.1)
    have lhJ : Hid (∀ k, (Value.slice b8 NB d8).ownBlock = some k → W7.heap.size ≤ k ∧ k < w8.heap.size) := hidP (fun k hk => OwnG.lt oJ_w8.out k hk)
    have ne8 := hidP OX.out.2.2
    clear OX
    clear HI2
    go_wp2_with fail
    obtain ⟨im0_W9, im1_W9⟩ := box2D w8 26 (.slice a8 NP c8) (.slice b8 NB d8)
    have imF_W9 : ∀ o, (w8.alloc (.cells #[.slice a8 NP c8, .slice b8 NB d8] 26)).frozen? ⟨w8.heap.size, o, none⟩ = false := fun o => by simp [go_sem]
    have imL_W9 : w8.heap.size < (w8.alloc (.cells #[.slice a8 NP c8, .slice b8 NB d8] 26)).heap.size := by simp
    have ab_W9 := alloc_below w8 (.cells #[.slice a8 NP c8, .slice b8 NB d8] 26)
    have as_W9 : Hid ((w8.alloc (.cells #[.slice a8 NP c8, .slice b8 NB d8] 26)).heap.size = w8.heap.size + 1) := hidP (by simp)
    generalize w8.alloc (.cells #[.slice a8 NP c8, .slice b8 NB d8] 26) = W9 at *
    have dx_W9 := hidP (dx_w8.out.trans (ab_W9.mono dx_w8.out.size))
    clear dx_w8
    have lb0_W9 := (ab_W9.cell lbL_w8).trans lb0_w8
    have lb1_W9 := (ab_W9.cell lbL_w8).trans lb1_w8
    have lb2_W9 := (ab_W9.cell lbL_w8).trans lb2_w8
    have lb3_W9 := (ab_W9.cell lbL_w8).trans lb3_w8
    have lb4_W9 := (ab_W9.cell lbL_w8).trans lb4_w8
    have lb5_W9 := (ab_W9.cell lbL_w8).trans lb5_w8
    have lb6_W9 := (ab_W9.cell lbL_w8).trans lb6_w8
    have lb7_W9 := (ab_W9.cell lbL_w8).trans lb7_w8
    have lbF_W9 : ∀ o, W9.frozen? ⟨w.heap.size, o, none⟩ = false := fun o => (ab_W9.frozen lbL_w8).trans (lbF_w8 o)
    have lbL_W9 : w.heap.size < W9.heap.size := Nat.lt_of_lt_of_le lbL_w8 ab_W9.size
    have sp0_W9 := (ab_W9.cell spL_w8).trans sp0_w8
    have sp1_W9 := (ab_W9.cell spL_w8).trans sp1_w8
    have spF_W9 : ∀ o, W9.frozen? ⟨w4.heap.size, o, none⟩ = false := fun o => (ab_W9.frozen spL_w8).trans (spF_w8 o)
    have spL_W9 : w4.heap.size < W9.heap.size := Nat.lt_of_lt_of_le spL_w8 ab_W9.size
    have xa0_W9 := (ab_W9.cell xaL_w8).trans xa0_w8
    have xa1_W9 := (ab_W9.cell xaL_w8).trans xa1_w8
    have xa2_W9 := (ab_W9.cell xaL_w8).trans xa2_w8
    have xa3_W9 := (ab_W9.cell xaL_w8).trans xa3_w8
    have xa4_W9 := (ab_W9.cell xaL_w8).trans xa4_w8
    have xa5_W9 := (ab_W9.cell xaL_w8).trans xa5_w8
    have xa6_W9 := (ab_W9.cell xaL_w8).trans xa6_w8
    have xa7_W9 := (ab_W9.cell xaL_w8).trans xa7_w8
    have xaF_W9 : ∀ o, W9.frozen? ⟨w6.heap.size, o, none⟩ = false := fun o => (ab_W9.frozen xaL_w8).trans (xaF_w8 o)
    have xaL_W9 : w6.heap.size < W9.heap.size := Nat.lt_of_lt_of_le xaL_w8 ab_W9.size
    have oS_W9 := hidP (OwnG.later oS_w8.out ab_W9)
    have oT_W9 := hidP (OwnG.later oT_w8.out ab_W9)
    have oI_W9 := hidP (OwnG.later oI_w8.out ab_W9)
    have oJ_W9 := hidP (OwnG.later oJ_w8.out ab_W9)
    have acc_W9 := hidP (acc_w8.out.trans (ab_W9.mono acc_w8.out.size))
    have sz_W9 : Hid (w8.heap.size ≤ W9.heap.size) := hidP ab_W9.size
    clear ab_W9 lb0_w8 lb1_w8 lb2_w8 lb3_w8 lb4_w8 lb5_w8 lb6_w8 lb7_w8 lbF_w8 lbL_w8 sp0_w8 sp1_w8 spF_w8 spL_w8 xa0_w8 xa1_w8 xa2_w8 xa3_w8 xa4_w8 xa5_w8 xa6_w8 xa7_w8 xaF_w8 xaL_w8 oS_w8 oT_w8 oI_w8 oJ_w8 acc_w8
    refine (HEr.out _ a8 c8 b8 d8 a4 c4 b4 d4 oI_W9.out.row oS_W9.out.row oJ_W9.out.row oT_W9.out.row).mono ?_
    rintro e w10 ⟨rfl, hb_w10⟩
    have dx_w10 := hidP (dx_W9.out.trans (hb_w10.mono dx_W9.out.size))
    clear dx_W9
    have lb0_w10 := (hb_w10.cell lbL_W9).trans lb0_W9
    have lb1_w10 := (hb_w10.cell lbL_W9).trans lb1_W9
    have lb2_w10 := (hb_w10.cell lbL_W9).trans lb2_W9
    have lb3_w10 := (hb_w10.cell lbL_W9).trans lb3_W9
    have lb4_w10 := (hb_w10.cell lbL_W9).trans lb4_W9
    have lb5_w10 := (hb_w10.cell lbL_W9).trans lb5_W9
    have lb6_w10 := (hb_w10.cell lbL_W9).trans lb6_W9
    have lb7_w10 := (hb_w10.cell lbL_W9).trans lb7_W9
    have lbF_w10 : ∀ o, w10.frozen? ⟨w.heap.size, o, none⟩ = false := fun o => (hb_w10.frozen lbL_W9).trans (lbF_W9 o)
    have lbL_w10 : w.heap.size < w10.heap.size := Nat.lt_of_lt_of_le lbL_W9 hb_w10.size
    have sp0_w10 := (hb_w10.cell spL_W9).trans sp0_W9
    have sp1_w10 := (hb_w10.cell spL_W9).trans sp1_W9
    have spF_w10 : ∀ o, w10.frozen? ⟨w4.heap.size, o, none⟩ = false := fun o => (hb_w10.frozen spL_W9).trans (spF_W9 o)
    have spL_w10 : w4.heap.size < w10.heap.size := Nat.lt_of_lt_of_le spL_W9 hb_w10.size
    have xa0_w10 := (hb_w10.cell xaL_W9).trans xa0_W9
    have xa1_w10 := (hb_w10.cell xaL_W9).trans xa1_W9
    have xa2_w10 := (hb_w10.cell xaL_W9).trans xa2_W9
    have xa3_w10 := (hb_w10.cell xaL_W9).trans xa3_W9
    have xa4_w10 := (hb_w10.cell xaL_W9).trans xa4_W9
    have xa5_w10 := (hb_w10.cell xaL_W9).trans xa5_W9
    have xa6_w10 := (hb_w10.cell xaL_W9).trans xa6_W9
    have xa7_w10 := (hb_w10.cell xaL_W9).trans xa7_W9
    have xaF_w10 : ∀ o, w10.frozen? ⟨w6.heap.size, o, none⟩ = false := fun o => (hb_w10.frozen xaL_W9).trans (xaF_W9 o)
    have xaL_w10 : w6.heap.size < w10.heap.size := Nat.lt_of_lt_of_le xaL_W9 hb_w10.size
    have im0_w10 := (hb_w10.cell imL_W9).trans im0_W9
    have im1_w10 := (hb_w10.cell imL_W9).trans im1_W9
    have imF_w10 : ∀ o, w10.frozen? ⟨w8.heap.size, o, none⟩ = false := fun o => (hb_w10.frozen imL_W9).trans (imF_W9 o)
    have imL_w10 : w8.heap.size < w10.heap.size := Nat.lt_of_lt_of_le imL_W9 hb_w10.size
    have oS_w10 := hidP (OwnG.later oS_W9.out hb_w10)
    have oT_w10 := hidP (OwnG.later oT_W9.out hb_w10)
    have oI_w10 := hidP (OwnG.later oI_W9.out hb_w10)
    have oJ_w10 := hidP (OwnG.later oJ_W9.out hb_w10)
    have acc_w10 := hidP (acc_W9.out.trans (hb_w10.mono acc_W9.out.size))
    have sz_w10 : Hid (W9.heap.size ≤ w10.heap.size) := hidP hb_w10.size
    clear hb_w10 lb0_W9 lb1_W9 lb2_W9 lb3_W9 lb4_W9 lb5_W9 lb6_W9 lb7_W9 lbF_W9 lbL_W9 sp0_W9 sp1_W9 spF_W9 spL_W9 xa0_W9 xa1_W9 xa2_W9 xa3_W9 xa4_W9 xa5_W9 xa6_W9 xa7_W9 xaF_W9 xaL_W9 im0_W9 im1_W9 imF_W9 imL_W9 oS_W9 oT_W9 oI_W9 oJ_W9 acc_W9
    go_wp2_with fail
    have HSx : Hid (∀ x, Below w10.heap.size w10 x → (x.cell? ⟨w.heap.size, 0, none⟩ = some (.int .i64 T) ∧ x.cell? ⟨w.heap.size, 1, none⟩ = some (.int .i64 V) ∧ x.cell? ⟨w.heap.size, 2, none⟩ = some (.int .i64 B) ∧ x.cell? ⟨w.heap.size, 3, none⟩ = some (.int .i64 E) ∧ x.cell? ⟨w.heap.size, 4, none⟩ = some (.slice ga gn gc) ∧ x.cell? ⟨w.heap.size, 5, none⟩ = some (.slice ha hn hc) ∧ x.cell? ⟨w.heap.size, 6, none⟩ = some (.slice sa sn sc) ∧ x.cell? ⟨w.heap.size, 7, none⟩ = some (.slice la ln lc) ∧ x.cell? ⟨w6.heap.size, 0, none⟩ = some (.int .i64 T2) ∧ x.cell? ⟨w6.heap.size, 1, none⟩ = some (.int .i64 V2) ∧ x.cell? ⟨w6.heap.size, 2, none⟩ = some (.int .i64 B2) ∧ x.cell? ⟨w6.heap.size, 3, none⟩ = some (.int .i64 E2) ∧ x.cell? ⟨w6.heap.size, 4, none⟩ = some (.slice ga2 gn2 gc2) ∧ x.cell? ⟨w6.heap.size, 5, none⟩ = some (.slice ha2 hn2 hc2) ∧ x.cell? ⟨w6.heap.size, 6, none⟩ = some (.slice sa2 sn2 sc2) ∧ x.cell? ⟨w6.heap.size, 7, none⟩ = some (.slice la2 ln2 lc2) ∧ Below w10.heap.size w10 x)) := hidP fun x h =>
      ⟨(h.cell lbL_w10).trans lb0_w10, (h.cell lbL_w10).trans lb1_w10, (h.cell lbL_w10).trans lb2_w10, (h.cell lbL_w10).trans lb3_w10, (h.cell lbL_w10).trans lb4_w10, (h.cell lbL_w10).trans lb5_w10, (h.cell lbL_w10).trans lb6_w10, (h.cell lbL_w10).trans lb7_w10, (h.cell xaL_w10).trans xa0_w10, (h.cell xaL_w10).trans xa1_w10, (h.cell xaL_w10).trans xa2_w10, (h.cell xaL_w10).trans xa3_w10, (h.cell xaL_w10).trans xa4_w10, (h.cell xaL_w10).trans xa5_w10, (h.cell xaL_w10).trans xa6_w10, (h.cell xaL_w10).trans xa7_w10, h⟩
    refine wp_region_held_drew (S := (fun x => x.cell? ⟨w.heap.size, 0, none⟩ = some (.int .i64 T) ∧ x.cell? ⟨w.heap.size, 1, none⟩ = some (.int .i64 V) ∧ x.cell? ⟨w.heap.size, 2, none⟩ = some (.int .i64 B) ∧ x.cell? ⟨w.heap.size, 3, none⟩ = some (.int .i64 E) ∧ x.cell? ⟨w.heap.size, 4, none⟩ = some (.slice ga gn gc) ∧ x.cell? ⟨w.heap.size, 5, none⟩ = some (.slice ha hn hc) ∧ x.cell? ⟨w.heap.size, 6, none⟩ = some (.slice sa sn sc) ∧ x.cell? ⟨w.heap.size, 7, none⟩ = some (.slice la ln lc) ∧ x.cell? ⟨w6.heap.size, 0, none⟩ = some (.int .i64 T2) ∧ x.cell? ⟨w6.heap.size, 1, none⟩ = some (.int .i64 V2) ∧ x.cell? ⟨w6.heap.size, 2, none⟩ = some (.int .i64 B2) ∧ x.cell? ⟨w6.heap.size, 3, none⟩ = some (.int .i64 E2) ∧ x.cell? ⟨w6.heap.size, 4, none⟩ = some (.slice ga2 gn2 gc2) ∧ x.cell? ⟨w6.heap.size, 5, none⟩ = some (.slice ha2 hn2 hc2) ∧ x.cell? ⟨w6.heap.size, 6, none⟩ = some (.slice sa2 sn2 sc2) ∧ x.cell? ⟨w6.heap.size, 7, none⟩ = some (.slice la2 ln2 lc2) ∧ Below w10.heap.size w10 x)) (by kernel_rfl) ?_ (fun hHeld => ?_)
    · try dsimp only
      exact HSx.out _ ((Below.refl _ _).drew)
    refine wpAnyH_take (i := 0) (oi := ⟨some 27, _, _, _, _, _⟩) (v := ?_) rfl (by kernel_rfl) (by kernel_rfl) (by kernel_rfl) (fun _ _ _ h => h) (Or.inl ⟨by rfl, ?_⟩) (by assumption) ?_
    rotate_left
    · intro w hSw
      try dsimp only at hSw
      go_simp
      try with_reducible rfl
    simp only [Act.put, List.setIfInBounds_toArray, List.set_cons_zero, List.set_cons_succ]
    refine wpAnyH_take (i := 1) (oi := ⟨some 28, _, _, _, _, _⟩) (v := ?_) rfl (by kernel_rfl) (by kernel_rfl) (by kernel_rfl) (fun _ _ _ h => h) (Or.inl ⟨by rfl, ?_⟩) (by assumption) ?_
    rotate_left
    · intro w hSw
      try dsimp only at hSw
      go_simp
      try with_reducible rfl
    simp only [Act.put, List.setIfInBounds_toArray, List.set_cons_zero, List.set_cons_succ]
    refine wpAnyH_ready (rs := [2]) (by kernel_rfl) (by simp) ?_
    refine AllReadyH.cons rfl (fun K hK => ?_) AllReadyH.nil
    go_simp
    go_wp2_with (first | (go_at_call 18; refine (HTo.out _ (acc_w10.out.trans ((hHeld.2.2.2.2.2.2.2.2.2.2.2.2.2.2.2.2).mono acc_w10.out.size))).mono ?_; rintro e w11 ⟨k3, rfl, hk3, hq3, -, hb11⟩; have b11 := (hHeld.2.2.2.2.2.2.2.2.2.2.2.2.2.2.2.2).trans (hb11.mono (hHeld.2.2.2.2.2.2.2.2.2.2.2.2.2.2.2.2).size)))
    refine hK.out _ _ ?_ (fun hHeld => ?_)
    · try dsimp only
      exact HSx.out _ b11
    clear hK K
    refine wpAnyH_ready (rs := [3]) (by kernel_rfl) (by simp) ?_
    refine AllReadyH.cons rfl (fun K hK => ?_) AllReadyH.nil
    go_simp
    go_wp2_with (first | (go_at_call 19; refine (HE2.out k3 _ (dx_w10.out.trans ((hHeld.2.2.2.2.2.2.2.2.2.2.2.2.2.2.2.2).mono dx_w10.out.size)) hk3 hq3.f).mono ?_; rintro e w12 ⟨rfl, hb12⟩; have b12 := (hHeld.2.2.2.2.2.2.2.2.2.2.2.2.2.2.2.2).trans (hb12.mono (hHeld.2.2.2.2.2.2.2.2.2.2.2.2.2.2.2.2).size)))
    refine hK.out _ _ ?_ (fun hHeld => ?_)
    · try dsimp only
      exact HSx.out _ b12
    clear hK K
    refine wpAnyH_take (i := 4) (oi := ⟨some 31, _, _, _, _, _⟩) (v := ?_) rfl (by kernel_rfl) (by kernel_rfl) (by kernel_rfl) (fun _ _ _ h => h) (Or.inl ⟨by rfl, ?_⟩) (by assumption) ?_
    rotate_left
    · intro w hSw
      try dsimp only at hSw
      go_simp
      try with_reducible rfl
    simp only [Act.put, List.setIfInBounds_toArray, List.set_cons_zero, List.set_cons_succ]
    have HE := hidP (hHeld.2.2.2.2.2.2.2.2.2.2.2.2.2.2.2.2)
    refine wpAnyH_done (by kernel_rfl) ?_ _
    clear hHeld
    have hb12 := HE.out
    clear hk3 hq3 hb11 b11 b12 HSx HE
    have dx_w12 := hidP (dx_w10.out.trans (hb12.mono dx_w10.out.size))
    clear dx_w10
    have lb0_w12 := (hb12.cell lbL_w10).trans lb0_w10
    have lb1_w12 := (hb12.cell lbL_w10).trans lb1_w10
    have lb2_w12 := (hb12.cell lbL_w10).trans lb2_w10
    have lb3_w12 := (hb12.cell lbL_w10).trans lb3_w10
    have lb4_w12 := (hb12.cell lbL_w10).trans lb4_w10
    have lb5_w12 := (hb12.cell lbL_w10).trans lb5_w10
    have lb6_w12 := (hb12.cell lbL_w10).trans lb6_w10
    have lb7_w12 := (hb12.cell lbL_w10).trans lb7_w10
    have lbF_w12 : ∀ o, w12.frozen? ⟨w.heap.size, o, none⟩ = false := fun o => (hb12.frozen lbL_w10).trans (lbF_w10 o)
    have lbL_w12 : w.heap.size < w12.heap.size := Nat.lt_of_lt_of_le lbL_w10 hb12.size
    have sp0_w12 := (hb12.cell spL_w10).trans sp0_w10
    have sp1_w12 := (hb12.cell spL_w10).trans sp1_w10
    have spF_w12 : ∀ o, w12.frozen? ⟨w4.heap.size, o, none⟩ = false := fun o => (hb12.frozen spL_w10).trans (spF_w10 o)
    have spL_w12 : w4.heap.size < w12.heap.size := Nat.lt_of_lt_of_le spL_w10 hb12.size
    have xa0_w12 := (hb12.cell xaL_w10).trans xa0_w10
    have xa1_w12 := (hb12.cell xaL_w10).trans xa1_w10
    have xa2_w12 := (hb12.cell xaL_w10).trans xa2_w10
    have xa3_w12 := (hb12.cell xaL_w10).trans xa3_w10
    have xa4_w12 := (hb12.cell xaL_w10).trans xa4_w10
    have xa5_w12 := (hb12.cell xaL_w10).trans xa5_w10
    have xa6_w12 := (hb12.cell xaL_w10).trans xa6_w10
    have xa7_w12 := (hb12.cell xaL_w10).trans xa7_w10
    have xaF_w12 : ∀ o, w12.frozen? ⟨w6.heap.size, o, none⟩ = false := fun o => (hb12.frozen xaL_w10).trans (xaF_w10 o)
    have xaL_w12 : w6.heap.size < w12.heap.size := Nat.lt_of_lt_of_le xaL_w10 hb12.size
    have im0_w12 := (hb12.cell imL_w10).trans im0_w10
    have im1_w12 := (hb12.cell imL_w10).trans im1_w10
    have imF_w12 : ∀ o, w12.frozen? ⟨w8.heap.size, o, none⟩ = false := fun o => (hb12.frozen imL_w10).trans (imF_w10 o)
    have imL_w12 : w8.heap.size < w12.heap.size := Nat.lt_of_lt_of_le imL_w10 hb12.size
    have oS_w12 := hidP (OwnG.later oS_w10.out hb12)
    have oT_w12 := hidP (OwnG.later oT_w10.out hb12)
    have oI_w12 := hidP (OwnG.later oI_w10.out hb12)
    have oJ_w12 := hidP (OwnG.later oJ_w10.out hb12)
    have acc_w12 := hidP (acc_w10.out.trans (hb12.mono acc_w10.out.size))
    have sz_w12 : Hid (w10.heap.size ≤ w12.heap.size) := hidP hb12.size
    clear hb12 lb0_w10 lb1_w10 lb2_w10 lb3_w10 lb4_w10 lb5_w10 lb6_w10 lb7_w10 lbF_w10 lbL_w10 sp0_w10 sp1_w10 spF_w10 spL_w10 xa0_w10 xa1_w10 xa2_w10 xa3_w10 xa4_w10 xa5_w10 xa6_w10 xa7_w10 xaF_w10 xaL_w10 im0_w10 im1_w10 imF_w10 imL_w10 oS_w10 oT_w10 oI_w10 oJ_w10 acc_w10
    go_wp2_with fail
    refine (HM2.out _ dx_w12.out).mono ?_
    rintro e w13 ⟨⟨zq, rfl, zq0, zq1⟩, hk13⟩
    have dz1 : decide (zq < 0) = false := decide_eq_false (by omega)
    have dz2 : ¬ (zq < 0) := by omega
    clear xa0_w12 xa1_w12 xa2_w12 xa3_w12 xa4_w12 xa5_w12 xa6_w12 xa7_w12 xaF_w12 xaL_w12 dx_w12 HM2 HE2
    have nelb : Out W5.heap.size w6.heap.size w.heap.size := by have := as_W1.out; have := sz_W1.out; have := sz_w2.out; have := sz_w3.out; have := sz_w4.out; have := as_W5.out; have := sz_W5.out; have := sz_w6.out; have := as_W7.out; have := sz_W7.out; have := sz_w8.out; have := as_W9.out; have := sz_W9.out; have := sz_w10.out; have := sz_w12.out; show _ ∨ _; omega
    have lb0_w13 := (hk13.cell (p := ⟨w.heap.size, 0, none⟩) lbL_w12 nelb).trans lb0_w12
    have lb1_w13 := (hk13.cell (p := ⟨w.heap.size, 1, none⟩) lbL_w12 nelb).trans lb1_w12
    have lb2_w13 := (hk13.cell (p := ⟨w.heap.size, 2, none⟩) lbL_w12 nelb).trans lb2_w12
    have lb3_w13 := (hk13.cell (p := ⟨w.heap.size, 3, none⟩) lbL_w12 nelb).trans lb3_w12
    have lb4_w13 := (hk13.cell (p := ⟨w.heap.size, 4, none⟩) lbL_w12 nelb).trans lb4_w12
    have lb5_w13 := (hk13.cell (p := ⟨w.heap.size, 5, none⟩) lbL_w12 nelb).trans lb5_w12
    have lb6_w13 := (hk13.cell (p := ⟨w.heap.size, 6, none⟩) lbL_w12 nelb).trans lb6_w12
    have lb7_w13 := (hk13.cell (p := ⟨w.heap.size, 7, none⟩) lbL_w12 nelb).trans lb7_w12
    have lbF_w13 : ∀ o, w13.frozen? ⟨w.heap.size, o, none⟩ = false := fun o => (World.frozen?_of_block (w := w12) (a := ⟨w.heap.size, o, none⟩) (hk13.block _ lbL_w12 nelb)).trans (lbF_w12 o)
    have lbL_w13 : w.heap.size < w13.heap.size := Nat.lt_of_lt_of_le lbL_w12 hk13.size
    have nesp : Out W5.heap.size w6.heap.size w4.heap.size := by have := as_W1.out; have := sz_W1.out; have := sz_w2.out; have := sz_w3.out; have := sz_w4.out; have := as_W5.out; have := sz_W5.out; have := sz_w6.out; have := as_W7.out; have := sz_W7.out; have := sz_w8.out; have := as_W9.out; have := sz_W9.out; have := sz_w10.out; have := sz_w12.out; show _ ∨ _; omega
    have sp0_w13 := (hk13.cell (p := ⟨w4.heap.size, 0, none⟩) spL_w12 nesp).trans sp0_w12
    have sp1_w13 := (hk13.cell (p := ⟨w4.heap.size, 1, none⟩) spL_w12 nesp).trans sp1_w12
    have spF_w13 : ∀ o, w13.frozen? ⟨w4.heap.size, o, none⟩ = false := fun o => (World.frozen?_of_block (w := w12) (a := ⟨w4.heap.size, o, none⟩) (hk13.block _ spL_w12 nesp)).trans (spF_w12 o)
    have spL_w13 : w4.heap.size < w13.heap.size := Nat.lt_of_lt_of_le spL_w12 hk13.size
    have neim : Out W5.heap.size w6.heap.size w8.heap.size := by have := as_W1.out; have := sz_W1.out; have := sz_w2.out; have := sz_w3.out; have := sz_w4.out; have := as_W5.out; have := sz_W5.out; have := sz_w6.out; have := as_W7.out; have := sz_W7.out; have := sz_w8.out; have := as_W9.out; have := sz_W9.out; have := sz_w10.out; have := sz_w12.out; show _ ∨ _; omega
    have im0_w13 := (hk13.cell (p := ⟨w8.heap.size, 0, none⟩) imL_w12 neim).trans im0_w12
    have im1_w13 := (hk13.cell (p := ⟨w8.heap.size, 1, none⟩) imL_w12 neim).trans im1_w12
    have imF_w13 : ∀ o, w13.frozen? ⟨w8.heap.size, o, none⟩ = false := fun o => (World.frozen?_of_block (w := w12) (a := ⟨w8.heap.size, o, none⟩) (hk13.block _ imL_w12 neim)).trans (imF_w12 o)
    have imL_w13 : w8.heap.size < w13.heap.size := Nat.lt_of_lt_of_le imL_w12 hk13.size
    have oS_w13 := hidP (OwnG.kpt oS_w12.out hk13 (fun q hq => by have h5 := lhS.out q hq; have := as_W1.out; have := sz_W1.out; have := sz_w2.out; have := sz_w3.out; have := sz_w4.out; have := as_W5.out; have := sz_W5.out; have := sz_w6.out; have := as_W7.out; have := sz_W7.out; have := sz_w8.out; have := as_W9.out; have := sz_W9.out; have := sz_w10.out; have := sz_w12.out; show _ ∨ _; omega))
    have oT_w13 := hidP (OwnG.kpt oT_w12.out hk13 (fun q hq => by have h5 := lhT.out q hq; have := as_W1.out; have := sz_W1.out; have := sz_w2.out; have := sz_w3.out; have := sz_w4.out; have := as_W5.out; have := sz_W5.out; have := sz_w6.out; have := as_W7.out; have := sz_W7.out; have := sz_w8.out; have := as_W9.out; have := sz_W9.out; have := sz_w10.out; have := sz_w12.out; show _ ∨ _; omega))
    have oI_w13 := hidP (OwnG.kpt oI_w12.out hk13 (fun q hq => by have h5 := lhI.out q hq; have := as_W1.out; have := sz_W1.out; have := sz_w2.out; have := sz_w3.out; have := sz_w4.out; have := as_W5.out; have := sz_W5.out; have := sz_w6.out; have := as_W7.out; have := sz_W7.out; have := sz_w8.out; have := as_W9.out; have := sz_W9.out; have := sz_w10.out; have := sz_w12.out; show _ ∨ _; omega))
    have oJ_w13 := hidP (OwnG.kpt oJ_w12.out hk13 (fun q hq => by have h5 := lhJ.out q hq; have := as_W1.out; have := sz_W1.out; have := sz_w2.out; have := sz_w3.out; have := sz_w4.out; have := as_W5.out; have := sz_W5.out; have := sz_w6.out; have := as_W7.out; have := sz_W7.out; have := sz_w8.out; have := as_W9.out; have := sz_W9.out; have := sz_w10.out; have := sz_w12.out; show _ ∨ _; omega))
    have acc_w13 := hidP (acc_w12.out.trans (Kpt.below (hk13.mono (fun b (hb : b < w.heap.size) => by have := as_W1.out; have := sz_W1.out; have := sz_w2.out; have := sz_w3.out; have := sz_w4.out; have := as_W5.out; have := sz_W5.out; have := sz_w6.out; have := as_W7.out; have := sz_W7.out; have := sz_w8.out; have := as_W9.out; have := sz_W9.out; have := sz_w10.out; have := sz_w12.out; show _ ∨ _; omega)) acc_w12.out.size))
    have sz_w13 : Hid (w12.heap.size ≤ w13.heap.size) := hidP hk13.size
    clear hk13 lb0_w12 lb1_w12 lb2_w12 lb3_w12 lb4_w12 lb5_w12 lb6_w12 lb7_w12 lbF_w12 lbL_w12 nelb sp0_w12 sp1_w12 spF_w12 spL_w12 nesp im0_w12 im1_w12 imF_w12 imL_w12 neim oS_w12 oT_w12 oI_w12 oJ_w12 acc_w12
    go_wp2_with fail
    refine (HEr.out _ a8 c8 b8 d8 a4 c4 b4 d4 oI_w13.out.row oS_w13.out.row oJ_w13.out.row oT_w13.out.row).mono ?_
    rintro e w14 ⟨rfl, hb_w14⟩
    have lb0_w14 := (hb_w14.cell lbL_w13).trans lb0_w13
    have lb1_w14 := (hb_w14.cell lbL_w13).trans lb1_w13
    have lb2_w14 := (hb_w14.cell lbL_w13).trans lb2_w13
    have lb3_w14 := (hb_w14.cell lbL_w13).trans lb3_w13
    have lb4_w14 := (hb_w14.cell lbL_w13).trans lb4_w13
    have lb5_w14 := (hb_w14.cell lbL_w13).trans lb5_w13
    have lb6_w14 := (hb_w14.cell lbL_w13).trans lb6_w13
    have lb7_w14 := (hb_w14.cell lbL_w13).trans lb7_w13
    have lbF_w14 : ∀ o, w14.frozen? ⟨w.heap.size, o, none⟩ = false := fun o => (hb_w14.frozen lbL_w13).trans (lbF_w13 o)
    have lbL_w14 : w.heap.size < w14.heap.size := Nat.lt_of_lt_of_le lbL_w13 hb_w14.size
    have sp0_w14 := (hb_w14.cell spL_w13).trans sp0_w13
    have sp1_w14 := (hb_w14.cell spL_w13).trans sp1_w13
    have spF_w14 : ∀ o, w14.frozen? ⟨w4.heap.size, o, none⟩ = false := fun o => (hb_w14.frozen spL_w13).trans (spF_w13 o)
    have spL_w14 : w4.heap.size < w14.heap.size := Nat.lt_of_lt_of_le spL_w13 hb_w14.size
    have im0_w14 := (hb_w14.cell imL_w13).trans im0_w13
    have im1_w14 := (hb_w14.cell imL_w13).trans im1_w13
    have imF_w14 : ∀ o, w14.frozen? ⟨w8.heap.size, o, none⟩ = false := fun o => (hb_w14.frozen imL_w13).trans (imF_w13 o)
    have imL_w14 : w8.heap.size < w14.heap.size := Nat.lt_of_lt_of_le imL_w13 hb_w14.size
    have oS_w14 := hidP (OwnG.later oS_w13.out hb_w14)
    have oT_w14 := hidP (OwnG.later oT_w13.out hb_w14)
    have oI_w14 := hidP (OwnG.later oI_w13.out hb_w14)
    have oJ_w14 := hidP (OwnG.later oJ_w13.out hb_w14)
    have acc_w14 := hidP (acc_w13.out.trans (hb_w14.mono acc_w13.out.size))
    have sz_w14 : Hid (w13.heap.size ≤ w14.heap.size) := hidP hb_w14.size
    clear hb_w14 lb0_w13 lb1_w13 lb2_w13 lb3_w13 lb4_w13 lb5_w13 lb6_w13 lb7_w13 lbF_w13 lbL_w13 sp0_w13 sp1_w13 spF_w13 spL_w13 im0_w13 im1_w13 imF_w13 imL_w13 oS_w13 oT_w13 oI_w13 oJ_w13 acc_w13
    go_wp2_with fail
    refine (HMr.out w14 a8 c8 b8 d8 _ oI_w14.out oJ_w14.out ne8.out).mono ?_
    rintro e w15 ⟨rfl, om3, om4, wn, hgi, hgj⟩
    have OM := hidP (And.intro om3 om4)
    clear om3 om4
    clear oI_w14
    clear oJ_w14
    have nelb : ∀ k, (Value.slice a8 NP c8).ownBlock = some k → k ≠ w.heap.size := fun k hk => by have h5 := lhI.out k hk; have := as_W1.out; have := sz_W1.out; have := sz_w2.out; have := sz_w3.out; have := sz_w4.out; have := as_W5.out; have := sz_W5.out; have := sz_w6.out; have := as_W7.out; have := sz_W7.out; have := sz_w8.out; have := as_W9.out; have := sz_W9.out; have := sz_w10.out; have := sz_w12.out; have := sz_w13.out; have := sz_w14.out; omega
    have lb0_wn := cell_grown hgi lb0_w14 nelb
    have lb1_wn := cell_grown hgi lb1_w14 nelb
    have lb2_wn := cell_grown hgi lb2_w14 nelb
    have lb3_wn := cell_grown hgi lb3_w14 nelb
    have lb4_wn := cell_grown hgi lb4_w14 nelb
    have lb5_wn := cell_grown hgi lb5_w14 nelb
    have lb6_wn := cell_grown hgi lb6_w14 nelb
    have lb7_wn := cell_grown hgi lb7_w14 nelb
    have lbF_wn : ∀ o, wn.frozen? ⟨w.heap.size, o, none⟩ = false := fun o => frz_grown hgi lbL_w14 (lbF_w14 o) nelb
    have lbL_wn : w.heap.size < wn.heap.size := Nat.lt_of_lt_of_le lbL_w14 hgi.size
    have nesp : ∀ k, (Value.slice a8 NP c8).ownBlock = some k → k ≠ w4.heap.size := fun k hk => by have h5 := lhI.out k hk; have := as_W1.out; have := sz_W1.out; have := sz_w2.out; have := sz_w3.out; have := sz_w4.out; have := as_W5.out; have := sz_W5.out; have := sz_w6.out; have := as_W7.out; have := sz_W7.out; have := sz_w8.out; have := as_W9.out; have := sz_W9.out; have := sz_w10.out; have := sz_w12.out; have := sz_w13.out; have := sz_w14.out; omega
    have sp0_wn := cell_grown hgi sp0_w14 nesp
    have sp1_wn := cell_grown hgi sp1_w14 nesp
    have spF_wn : ∀ o, wn.frozen? ⟨w4.heap.size, o, none⟩ = false := fun o => frz_grown hgi spL_w14 (spF_w14 o) nesp
    have spL_wn : w4.heap.size < wn.heap.size := Nat.lt_of_lt_of_le spL_w14 hgi.size
    have neim : ∀ k, (Value.slice a8 NP c8).ownBlock = some k → k ≠ w8.heap.size := fun k hk => by have h5 := lhI.out k hk; have := as_W1.out; have := sz_W1.out; have := sz_w2.out; have := sz_w3.out; have := sz_w4.out; have := as_W5.out; have := sz_W5.out; have := sz_w6.out; have := as_W7.out; have := sz_W7.out; have := sz_w8.out; have := as_W9.out; have := sz_W9.out; have := sz_w10.out; have := sz_w12.out; have := sz_w13.out; have := sz_w14.out; omega
    have im0_wn := cell_grown hgi im0_w14 neim
    have im1_wn := cell_grown hgi im1_w14 neim
    have imF_wn : ∀ o, wn.frozen? ⟨w8.heap.size, o, none⟩ = false := fun o => frz_grown hgi imL_w14 (imF_w14 o) neim
    have imL_wn : w8.heap.size < wn.heap.size := Nat.lt_of_lt_of_le imL_w14 hgi.size
    have oS_wn := hidP (OwnG.grown oS_w14.out hgi (fun j hj he => by have h5 := lhS.out j hj; have h6 := lhI.out j he; have := as_W1.out; have := sz_W1.out; have := sz_w2.out; have := sz_w3.out; have := sz_w4.out; have := as_W5.out; have := sz_W5.out; have := sz_w6.out; have := as_W7.out; have := sz_W7.out; have := sz_w8.out; have := as_W9.out; have := sz_W9.out; have := sz_w10.out; have := sz_w12.out; have := sz_w13.out; have := sz_w14.out; omega))
    have oT_wn := hidP (OwnG.grown oT_w14.out hgi (fun j hj he => by have h5 := lhT.out j hj; have h6 := lhI.out j he; have := as_W1.out; have := sz_W1.out; have := sz_w2.out; have := sz_w3.out; have := sz_w4.out; have := as_W5.out; have := sz_W5.out; have := sz_w6.out; have := as_W7.out; have := sz_W7.out; have := sz_w8.out; have := as_W9.out; have := sz_W9.out; have := sz_w10.out; have := sz_w12.out; have := sz_w13.out; have := sz_w14.out; omega))
    have acc_wn := hidP (Below.grown acc_w14.out hgi acc_w14.out.size (fun k hk => by have h5 := lhI.out k hk; have := as_W1.out; have := sz_W1.out; have := sz_w2.out; have := sz_w3.out; have := sz_w4.out; have := as_W5.out; have := sz_W5.out; have := sz_w6.out; have := as_W7.out; have := sz_W7.out; have := sz_w8.out; have := as_W9.out; have := sz_W9.out; have := sz_w10.out; have := sz_w12.out; have := sz_w13.out; have := sz_w14.out; omega))
    have sz_wn : Hid (w14.heap.size ≤ wn.heap.size) := hidP hgi.size
    clear hgi lb0_w14 lb1_w14 lb2_w14 lb3_w14 lb4_w14 lb5_w14 lb6_w14 lb7_w14 lbF_w14 lbL_w14 nelb sp0_w14 sp1_w14 spF_w14 spL_w14 nesp im0_w14 im1_w14 imF_w14 imL_w14 neim oS_w14 oT_w14 acc_w14
    have nelb : ∀ k, (Value.slice b8 NB d8).ownBlock = some k → k ≠ w.heap.size := fun k hk => by have h5 := lhJ.out k hk; have := as_W1.out; have := sz_W1.out; have := sz_w2.out; have := sz_w3.out; have := sz_w4.out; have := as_W5.out; have := sz_W5.out; have := sz_w6.out; have := as_W7.out; have := sz_W7.out; have := sz_w8.out; have := as_W9.out; have := sz_W9.out; have := sz_w10.out; have := sz_w12.out; have := sz_w13.out; have := sz_w14.out; have := sz_wn.out; omega
    have lb0_w15 := cell_grown hgj lb0_wn nelb
    have lb1_w15 := cell_grown hgj lb1_wn nelb
    have lb2_w15 := cell_grown hgj lb2_wn nelb
    have lb3_w15 := cell_grown hgj lb3_wn nelb
    have lb4_w15 := cell_grown hgj lb4_wn nelb
    have lb5_w15 := cell_grown hgj lb5_wn nelb
    have lb6_w15 := cell_grown hgj lb6_wn nelb
    have lb7_w15 := cell_grown hgj lb7_wn nelb
    have lbF_w15 : ∀ o, w15.frozen? ⟨w.heap.size, o, none⟩ = false := fun o => frz_grown hgj lbL_wn (lbF_wn o) nelb
    have lbL_w15 : w.heap.size < w15.heap.size := Nat.lt_of_lt_of_le lbL_wn hgj.size
    have nesp : ∀ k, (Value.slice b8 NB d8).ownBlock = some k → k ≠ w4.heap.size := fun k hk => by have h5 := lhJ.out k hk; have := as_W1.out; have := sz_W1.out; have := sz_w2.out; have := sz_w3.out; have := sz_w4.out; have := as_W5.out; have := sz_W5.out; have := sz_w6.out; have := as_W7.out; have := sz_W7.out; have := sz_w8.out; have := as_W9.out; have := sz_W9.out; have := sz_w10.out; have := sz_w12.out; have := sz_w13.out; have := sz_w14.out; have := sz_wn.out; omega
    have sp0_w15 := cell_grown hgj sp0_wn nesp
    have sp1_w15 := cell_grown hgj sp1_wn nesp
    have spF_w15 : ∀ o, w15.frozen? ⟨w4.heap.size, o, none⟩ = false := fun o => frz_grown hgj spL_wn (spF_wn o) nesp
    have spL_w15 : w4.heap.size < w15.heap.size := Nat.lt_of_lt_of_le spL_wn hgj.size
    have neim : ∀ k, (Value.slice b8 NB d8).ownBlock = some k → k ≠ w8.heap.size := fun k hk => by have h5 := lhJ.out k hk; have := as_W1.out; have := sz_W1.out; have := sz_w2.out; have := sz_w3.out; have := sz_w4.out; have := as_W5.out; have := sz_W5.out; have := sz_w6.out; have := as_W7.out; have := sz_W7.out; have := sz_w8.out; have := as_W9.out; have := sz_W9.out; have := sz_w10.out; have := sz_w12.out; have := sz_w13.out; have := sz_w14.out; have := sz_wn.out; omega
    have im0_w15 := cell_grown hgj im0_wn neim
    have im1_w15 := cell_grown hgj im1_wn neim
    have imF_w15 : ∀ o, w15.frozen? ⟨w8.heap.size, o, none⟩ = false := fun o => frz_grown hgj imL_wn (imF_wn o) neim
    have imL_w15 : w8.heap.size < w15.heap.size := Nat.lt_of_lt_of_le imL_wn hgj.size
    have oS_w15 := hidP (OwnG.grown oS_wn.out hgj (fun j hj he => by have h5 := lhS.out j hj; have h6 := lhJ.out j he; have := as_W1.out; have := sz_W1.out; have := sz_w2.out; have := sz_w3.out; have := sz_w4.out; have := as_W5.out; have := sz_W5.out; have := sz_w6.out; have := as_W7.out; have := sz_W7.out; have := sz_w8.out; have := as_W9.out; have := sz_W9.out; have := sz_w10.out; have := sz_w12.out; have := sz_w13.out; have := sz_w14.out; have := sz_wn.out; omega))
    have oT_w15 := hidP (OwnG.grown oT_wn.out hgj (fun j hj he => by have h5 := lhT.out j hj; have h6 := lhJ.out j he; have := as_W1.out; have := sz_W1.out; have := sz_w2.out; have := sz_w3.out; have := sz_w4.out; have := as_W5.out; have := sz_W5.out; have := sz_w6.out; have := as_W7.out; have := sz_W7.out; have := sz_w8.out; have := as_W9.out; have := sz_W9.out; have := sz_w10.out; have := sz_w12.out; have := sz_w13.out; have := sz_w14.out; have := sz_wn.out; omega))
    have acc_w15 := hidP (Below.grown acc_wn.out hgj acc_wn.out.size (fun k hk => by have h5 := lhJ.out k hk; have := as_W1.out; have := sz_W1.out; have := sz_w2.out; have := sz_w3.out; have := sz_w4.out; have := as_W5.out; have := sz_W5.out; have := sz_w6.out; have := as_W7.out; have := sz_W7.out; have := sz_w8.out; have := as_W9.out; have := sz_W9.out; have := sz_w10.out; have := sz_w12.out; have := sz_w13.out; have := sz_w14.out; have := sz_wn.out; omega))
    have sz_w15 : Hid (wn.heap.size ≤ w15.heap.size) := hidP hgj.size
    clear hgj lb0_wn lb1_wn lb2_wn lb3_wn lb4_wn lb5_wn lb6_wn lb7_wn lbF_wn lbL_wn nelb sp0_wn sp1_wn spF_wn spL_wn nesp im0_wn im1_wn imF_wn imL_wn neim oS_wn oT_wn acc_wn
    have oI_w15 := hidP (OM.out.1)
    have oJ_w15 := hidP (OM.out.2)
    clear OM
    go_wp2_with fail
    refine (HHd.out _ a8 c8 b8 d8 oI_w15.out.row oJ_w15.out.row).mono ?_
    rintro e w16 ⟨rfl, hb_w16⟩
    have lb0_w16 := (hb_w16.cell lbL_w15).trans lb0_w15
    have lb1_w16 := (hb_w16.cell lbL_w15).trans lb1_w15
    have lb2_w16 := (hb_w16.cell lbL_w15).trans lb2_w15
    have lb3_w16 := (hb_w16.cell lbL_w15).trans lb3_w15
    have lb4_w16 := (hb_w16.cell lbL_w15).trans lb4_w15
    have lb5_w16 := (hb_w16.cell lbL_w15).trans lb5_w15
    have lb6_w16 := (hb_w16.cell lbL_w15).trans lb6_w15
    have lb7_w16 := (hb_w16.cell lbL_w15).trans lb7_w15
    have lbF_w16 : ∀ o, w16.frozen? ⟨w.heap.size, o, none⟩ = false := fun o => (hb_w16.frozen lbL_w15).trans (lbF_w15 o)
    have lbL_w16 : w.heap.size < w16.heap.size := Nat.lt_of_lt_of_le lbL_w15 hb_w16.size
    have sp0_w16 := (hb_w16.cell spL_w15).trans sp0_w15
    have sp1_w16 := (hb_w16.cell spL_w15).trans sp1_w15
    have spF_w16 : ∀ o, w16.frozen? ⟨w4.heap.size, o, none⟩ = false := fun o => (hb_w16.frozen spL_w15).trans (spF_w15 o)
    have spL_w16 : w4.heap.size < w16.heap.size := Nat.lt_of_lt_of_le spL_w15 hb_w16.size
    have im0_w16 := (hb_w16.cell imL_w15).trans im0_w15
    have im1_w16 := (hb_w16.cell imL_w15).trans im1_w15
    have imF_w16 : ∀ o, w16.frozen? ⟨w8.heap.size, o, none⟩ = false := fun o => (hb_w16.frozen imL_w15).trans (imF_w15 o)
    have imL_w16 : w8.heap.size < w16.heap.size := Nat.lt_of_lt_of_le imL_w15 hb_w16.size
    have oS_w16 := hidP (OwnG.later oS_w15.out hb_w16)
    have oT_w16 := hidP (OwnG.later oT_w15.out hb_w16)
    have oI_w16 := hidP (OwnG.later oI_w15.out hb_w16)
    have oJ_w16 := hidP (OwnG.later oJ_w15.out hb_w16)
    have acc_w16 := hidP (acc_w15.out.trans (hb_w16.mono acc_w15.out.size))
    have sz_w16 : Hid (w15.heap.size ≤ w16.heap.size) := hidP hb_w16.size
    clear hb_w16 lb0_w15 lb1_w15 lb2_w15 lb3_w15 lb4_w15 lb5_w15 lb6_w15 lb7_w15 lbF_w15 lbL_w15 sp0_w15 sp1_w15 spF_w15 spL_w15 im0_w15 im1_w15 imF_w15 imL_w15 oS_w15 oT_w15 oI_w15 oJ_w15 acc_w15
    go_wp2_with fail
    refine (HTo.out _ acc_w16.out).mono ?_
    rintro e w17 ⟨k4, rfl, hk4, hq4, -, hb17⟩
    have HI4 := hidP (HIm.out k4 w17 _ hk4 hq4)
    clear hk4 hq4
    obtain ⟨T4, V4, B4, E4, ga4, gn4, gc4, ha4, hn4, hc4, sa4, sn4, sc4, la4, ln4, lc4, ps4, bs4, es4⟩ := k4
    have lb0_w17 := (hb17.cell lbL_w16).trans lb0_w16
    have lb1_w17 := (hb17.cell lbL_w16).trans lb1_w16
    have lb2_w17 := (hb17.cell lbL_w16).trans lb2_w16
    have lb3_w17 := (hb17.cell lbL_w16).trans lb3_w16
    have lb4_w17 := (hb17.cell lbL_w16).trans lb4_w16
    have lb5_w17 := (hb17.cell lbL_w16).trans lb5_w16
    have lb6_w17 := (hb17.cell lbL_w16).trans lb6_w16
    have lb7_w17 := (hb17.cell lbL_w16).trans lb7_w16
    have lbF_w17 : ∀ o, w17.frozen? ⟨w.heap.size, o, none⟩ = false := fun o => (hb17.frozen lbL_w16).trans (lbF_w16 o)
    have lbL_w17 : w.heap.size < w17.heap.size := Nat.lt_of_lt_of_le lbL_w16 hb17.size
    have sp0_w17 := (hb17.cell spL_w16).trans sp0_w16
    have sp1_w17 := (hb17.cell spL_w16).trans sp1_w16
    have spF_w17 : ∀ o, w17.frozen? ⟨w4.heap.size, o, none⟩ = false := fun o => (hb17.frozen spL_w16).trans (spF_w16 o)
    have spL_w17 : w4.heap.size < w17.heap.size := Nat.lt_of_lt_of_le spL_w16 hb17.size
    have im0_w17 := (hb17.cell imL_w16).trans im0_w16
    have im1_w17 := (hb17.cell imL_w16).trans im1_w16
    have imF_w17 : ∀ o, w17.frozen? ⟨w8.heap.size, o, none⟩ = false := fun o => (hb17.frozen imL_w16).trans (imF_w16 o)
    have imL_w17 : w8.heap.size < w17.heap.size := Nat.lt_of_lt_of_le imL_w16 hb17.size
    have oS_w17 := hidP (OwnG.later oS_w16.out hb17)
    have oT_w17 := hidP (OwnG.later oT_w16.out hb17)
    have oI_w17 := hidP (OwnG.later oI_w16.out hb17)
    have oJ_w17 := hidP (OwnG.later oJ_w16.out hb17)
    have acc_w17 := hidP (acc_w16.out.trans (hb17.mono acc_w16.out.size))
    have sz_w17 : Hid (w16.heap.size ≤ w17.heap.size) := hidP hb17.size
    clear hb17 lb0_w16 lb1_w16 lb2_w16 lb3_w16 lb4_w16 lb5_w16 lb6_w16 lb7_w16 lbF_w16 lbL_w16 sp0_w16 sp1_w16 spF_w16 spL_w16 im0_w16 im1_w16 imF_w16 imL_w16 oS_w16 oT_w16 oI_w16 oJ_w16 acc_w16
    go_wp2_with fail
    refine (HI4.out).mono ?_
    rintro e w18 ⟨a18, c18, b18, d18, rfl, og18, oh18, nq18, hb18⟩
    have OX := hidP (And.intro og18 (And.intro oh18 nq18))
    clear og18 oh18 nq18
    have lb0_w18 := (hb18.cell lbL_w17).trans lb0_w17
    have lb1_w18 := (hb18.cell lbL_w17).trans lb1_w17
    have lb2_w18 := (hb18.cell lbL_w17).trans lb2_w17
    have lb3_w18 := (hb18.cell lbL_w17).trans lb3_w17
    have lb4_w18 := (hb18.cell lbL_w17).trans lb4_w17
    have lb5_w18 := (hb18.cell lbL_w17).trans lb5_w17
    have lb6_w18 := (hb18.cell lbL_w17).trans lb6_w17
    have lb7_w18 := (hb18.cell lbL_w17).trans lb7_w17
    have lbF_w18 : ∀ o, w18.frozen? ⟨w.heap.size, o, none⟩ = false := fun o => (hb18.frozen lbL_w17).trans (lbF_w17 o)
    have lbL_w18 : w.heap.size < w18.heap.size := Nat.lt_of_lt_of_le lbL_w17 hb18.size
    have sp0_w18 := (hb18.cell spL_w17).trans sp0_w17
    have sp1_w18 := (hb18.cell spL_w17).trans sp1_w17
    have spF_w18 : ∀ o, w18.frozen? ⟨w4.heap.size, o, none⟩ = false := fun o => (hb18.frozen spL_w17).trans (spF_w17 o)
    have spL_w18 : w4.heap.size < w18.heap.size := Nat.lt_of_lt_of_le spL_w17 hb18.size
    have im0_w18 := (hb18.cell imL_w17).trans im0_w17
    have im1_w18 := (hb18.cell imL_w17).trans im1_w17
    have imF_w18 : ∀ o, w18.frozen? ⟨w8.heap.size, o, none⟩ = false := fun o => (hb18.frozen imL_w17).trans (imF_w17 o)
    have imL_w18 : w8.heap.size < w18.heap.size := Nat.lt_of_lt_of_le imL_w17 hb18.size
    have oS_w18 := hidP (OwnG.later oS_w17.out hb18)
    have oT_w18 := hidP (OwnG.later oT_w17.out hb18)
    have oI_w18 := hidP (OwnG.later oI_w17.out hb18)
    have oJ_w18 := hidP (OwnG.later oJ_w17.out hb18)
    have acc_w18 := hidP (acc_w17.out.trans (hb18.mono acc_w17.out.size))
    have sz_w18 : Hid (w17.heap.size ≤ w18.heap.size) := hidP hb18.size
    clear hb18 lb0_w17 lb1_w17 lb2_w17 lb3_w17 lb4_w17 lb5_w17 lb6_w17 lb7_w17 lbF_w17 lbL_w17 sp0_w17 sp1_w17 spF_w17 spL_w17 im0_w17 im1_w17 imF_w17 imL_w17 oS_w17 oT_w17 oI_w17 oJ_w17 acc_w17
    have oU_w18 := hidP (OX.out.1)
    have lhU : Hid (∀ k, (Value.slice a18 NP c18).ownBlock = some k → w17.heap.size ≤ k ∧ k < w18.heap.size) := hidP (fun k hk => OwnG.lt oU_w18.out k hk)
    have oV_w18 := hidP (OX.out.2.1)
    have lhV : Hid (∀ k, (Value.slice b18 NB d18).ownBlock = some k → w17.heap.size ≤ k ∧ k < w18.heap.size) := hidP (fun k hk => OwnG.lt oV_w18.out k hk)
    have ne18 := hidP OX.out.2.2
    clear OX
    clear HI4
    go_wp2_with fail
    obtain ⟨hh0_W19, hh1_W19⟩ := box2D w18 26 (.slice a18 NP c18) (.slice b18 NB d18)
    have hhF_W19 : ∀ o, (w18.alloc (.cells #[.slice a18 NP c18, .slice b18 NB d18] 26)).frozen? ⟨w18.heap.size, o, none⟩ = false := fun o => by simp [go_sem]
    have hhL_W19 : w18.heap.size < (w18.alloc (.cells #[.slice a18 NP c18, .slice b18 NB d18] 26)).heap.size := by simp
    have ab_W19 := alloc_below w18 (.cells #[.slice a18 NP c18, .slice b18 NB d18] 26)
    have as_W19 : Hid ((w18.alloc (.cells #[.slice a18 NP c18, .slice b18 NB d18] 26)).heap.size = w18.heap.size + 1) := hidP (by simp)
    generalize w18.alloc (.cells #[.slice a18 NP c18, .slice b18 NB d18] 26) = W19 at *
    have lb0_W19 := (ab_W19.cell lbL_w18).trans lb0_w18
    have lb1_W19 := (ab_W19.cell lbL_w18).trans lb1_w18
    have lb2_W19 := (ab_W19.cell lbL_w18).trans lb2_w18
    have lb3_W19 := (ab_W19.cell lbL_w18).trans lb3_w18
    have lb4_W19 := (ab_W19.cell lbL_w18).trans lb4_w18
    have lb5_W19 := (ab_W19.cell lbL_w18).trans lb5_w18
    have lb6_W19 := (ab_W19.cell lbL_w18).trans lb6_w18
    have lb7_W19 := (ab_W19.cell lbL_w18).trans lb7_w18
    have lbF_W19 : ∀ o, W19.frozen? ⟨w.heap.size, o, none⟩ = false := fun o => (ab_W19.frozen lbL_w18).trans (lbF_w18 o)
    have lbL_W19 : w.heap.size < W19.heap.size := Nat.lt_of_lt_of_le lbL_w18 ab_W19.size
    have sp0_W19 := (ab_W19.cell spL_w18).trans sp0_w18
    have sp1_W19 := (ab_W19.cell spL_w18).trans sp1_w18
    have spF_W19 : ∀ o, W19.frozen? ⟨w4.heap.size, o, none⟩ = false := fun o => (ab_W19.frozen spL_w18).trans (spF_w18 o)
    have spL_W19 : w4.heap.size < W19.heap.size := Nat.lt_of_lt_of_le spL_w18 ab_W19.size
    have im0_W19 := (ab_W19.cell imL_w18).trans im0_w18
    have im1_W19 := (ab_W19.cell imL_w18).trans im1_w18
    have imF_W19 : ∀ o, W19.frozen? ⟨w8.heap.size, o, none⟩ = false := fun o => (ab_W19.frozen imL_w18).trans (imF_w18 o)
    have imL_W19 : w8.heap.size < W19.heap.size := Nat.lt_of_lt_of_le imL_w18 ab_W19.size
    have oS_W19 := hidP (OwnG.later oS_w18.out ab_W19)
    have oT_W19 := hidP (OwnG.later oT_w18.out ab_W19)
    have oI_W19 := hidP (OwnG.later oI_w18.out ab_W19)
    have oJ_W19 := hidP (OwnG.later oJ_w18.out ab_W19)
    have oU_W19 := hidP (OwnG.later oU_w18.out ab_W19)
    have oV_W19 := hidP (OwnG.later oV_w18.out ab_W19)
    have acc_W19 := hidP (acc_w18.out.trans (ab_W19.mono acc_w18.out.size))
    have sz_W19 : Hid (w18.heap.size ≤ W19.heap.size) := hidP ab_W19.size
    clear ab_W19 lb0_w18 lb1_w18 lb2_w18 lb3_w18 lb4_w18 lb5_w18 lb6_w18 lb7_w18 lbF_w18 lbL_w18 sp0_w18 sp1_w18 spF_w18 spL_w18 im0_w18 im1_w18 imF_w18 imL_w18 oS_w18 oT_w18 oI_w18 oJ_w18 oU_w18 oV_w18 acc_w18
    refine (HEr.out _ a18 c18 b18 d18 a4 c4 b4 d4 oU_W19.out.row oS_W19.out.row oV_W19.out.row oT_W19.out.row).mono ?_
    rintro e w20 ⟨rfl, hb_w20⟩
    have lb0_w20 := (hb_w20.cell lbL_W19).trans lb0_W19
    have lb1_w20 := (hb_w20.cell lbL_W19).trans lb1_W19
    have lb2_w20 := (hb_w20.cell lbL_W19).trans lb2_W19
    have lb3_w20 := (hb_w20.cell lbL_W19).trans lb3_W19
    have lb4_w20 := (hb_w20.cell lbL_W19).trans lb4_W19
    have lb5_w20 := (hb_w20.cell lbL_W19).trans lb5_W19
    have lb6_w20 := (hb_w20.cell lbL_W19).trans lb6_W19
    have lb7_w20 := (hb_w20.cell lbL_W19).trans lb7_W19
    have lbF_w20 : ∀ o, w20.frozen? ⟨w.heap.size, o, none⟩ = false := fun o => (hb_w20.frozen lbL_W19).trans (lbF_W19 o)
    have lbL_w20 : w.heap.size < w20.heap.size := Nat.lt_of_lt_of_le lbL_W19 hb_w20.size
    have sp0_w20 := (hb_w20.cell spL_W19).trans sp0_W19
    have sp1_w20 := (hb_w20.cell spL_W19).trans sp1_W19
    have spF_w20 : ∀ o, w20.frozen? ⟨w4.heap.size, o, none⟩ = false := fun o => (hb_w20.frozen spL_W19).trans (spF_W19 o)
    have spL_w20 : w4.heap.size < w20.heap.size := Nat.lt_of_lt_of_le spL_W19 hb_w20.size
    have im0_w20 := (hb_w20.cell imL_W19).trans im0_W19
    have im1_w20 := (hb_w20.cell imL_W19).trans im1_W19
    have imF_w20 : ∀ o, w20.frozen? ⟨w8.heap.size, o, none⟩ = false := fun o => (hb_w20.frozen imL_W19).trans (imF_W19 o)
    have imL_w20 : w8.heap.size < w20.heap.size := Nat.lt_of_lt_of_le imL_W19 hb_w20.size
    have hh0_w20 := (hb_w20.cell hhL_W19).trans hh0_W19
    have hh1_w20 := (hb_w20.cell hhL_W19).trans hh1_W19
    have hhF_w20 : ∀ o, w20.frozen? ⟨w18.heap.size, o, none⟩ = false := fun o => (hb_w20.frozen hhL_W19).trans (hhF_W19 o)
    have hhL_w20 : w18.heap.size < w20.heap.size := Nat.lt_of_lt_of_le hhL_W19 hb_w20.size
    have oS_w20 := hidP (OwnG.later oS_W19.out hb_w20)
    have oT_w20 := hidP (OwnG.later oT_W19.out hb_w20)
    have oI_w20 := hidP (OwnG.later oI_W19.out hb_w20)
    have oJ_w20 := hidP (OwnG.later oJ_W19.out hb_w20)
    have oU_w20 := hidP (OwnG.later oU_W19.out hb_w20)
    have oV_w20 := hidP (OwnG.later oV_W19.out hb_w20)
    have acc_w20 := hidP (acc_W19.out.trans (hb_w20.mono acc_W19.out.size))
    have sz_w20 : Hid (W19.heap.size ≤ w20.heap.size) := hidP hb_w20.size
    clear hb_w20 lb0_W19 lb1_W19 lb2_W19 lb3_W19 lb4_W19 lb5_W19 lb6_W19 lb7_W19 lbF_W19 lbL_W19 sp0_W19 sp1_W19 spF_W19 spL_W19 im0_W19 im1_W19 imF_W19 imL_W19 hh0_W19 hh1_W19 hhF_W19 hhL_W19 oS_W19 oT_W19 oI_W19 oJ_W19 oU_W19 oV_W19 acc_W19
    go_wp2_with fail
    refine (HHd.out _ a8 c8 b8 d8 oI_w20.out.row oJ_w20.out.row).mono ?_
    rintro e w21 ⟨rfl, hb_w21⟩
    have lb0_w21 := (hb_w21.cell lbL_w20).trans lb0_w20
    have lb1_w21 := (hb_w21.cell lbL_w20).trans lb1_w20
    have lb2_w21 := (hb_w21.cell lbL_w20).trans lb2_w20
    have lb3_w21 := (hb_w21.cell lbL_w20).trans lb3_w20
    have lb4_w21 := (hb_w21.cell lbL_w20).trans lb4_w20
    have lb5_w21 := (hb_w21.cell lbL_w20).trans lb5_w20
    have lb6_w21 := (hb_w21.cell lbL_w20).trans lb6_w20
    have lb7_w21 := (hb_w21.cell lbL_w20).trans lb7_w20
    have lbF_w21 : ∀ o, w21.frozen? ⟨w.heap.size, o, none⟩ = false := fun o => (hb_w21.frozen lbL_w20).trans (lbF_w20 o)
    have lbL_w21 : w.heap.size < w21.heap.size := Nat.lt_of_lt_of_le lbL_w20 hb_w21.size
    have sp0_w21 := (hb_w21.cell spL_w20).trans sp0_w20
    have sp1_w21 := (hb_w21.cell spL_w20).trans sp1_w20
    have spF_w21 : ∀ o, w21.frozen? ⟨w4.heap.size, o, none⟩ = false := fun o => (hb_w21.frozen spL_w20).trans (spF_w20 o)
    have spL_w21 : w4.heap.size < w21.heap.size := Nat.lt_of_lt_of_le spL_w20 hb_w21.size
    have im0_w21 := (hb_w21.cell imL_w20).trans im0_w20
    have im1_w21 := (hb_w21.cell imL_w20).trans im1_w20
    have imF_w21 : ∀ o, w21.frozen? ⟨w8.heap.size, o, none⟩ = false := fun o => (hb_w21.frozen imL_w20).trans (imF_w20 o)
    have imL_w21 : w8.heap.size < w21.heap.size := Nat.lt_of_lt_of_le imL_w20 hb_w21.size
    have hh0_w21 := (hb_w21.cell hhL_w20).trans hh0_w20
    have hh1_w21 := (hb_w21.cell hhL_w20).trans hh1_w20
    have hhF_w21 : ∀ o, w21.frozen? ⟨w18.heap.size, o, none⟩ = false := fun o => (hb_w21.frozen hhL_w20).trans (hhF_w20 o)
    have hhL_w21 : w18.heap.size < w21.heap.size := Nat.lt_of_lt_of_le hhL_w20 hb_w21.size
    have oS_w21 := hidP (OwnG.later oS_w20.out hb_w21)
    have oT_w21 := hidP (OwnG.later oT_w20.out hb_w21)
    have oI_w21 := hidP (OwnG.later oI_w20.out hb_w21)
    have oJ_w21 := hidP (OwnG.later oJ_w20.out hb_w21)
    have oU_w21 := hidP (OwnG.later oU_w20.out hb_w21)
    have oV_w21 := hidP (OwnG.later oV_w20.out hb_w21)
    have acc_w21 := hidP (acc_w20.out.trans (hb_w21.mono acc_w20.out.size))
    have sz_w21 : Hid (w20.heap.size ≤ w21.heap.size) := hidP hb_w21.size
    clear hb_w21 lb0_w20 lb1_w20 lb2_w20 lb3_w20 lb4_w20 lb5_w20 lb6_w20 lb7_w20 lbF_w20 lbL_w20 sp0_w20 sp1_w20 spF_w20 spL_w20 im0_w20 im1_w20 imF_w20 imL_w20 hh0_w20 hh1_w20 hhF_w20 hhL_w20 oS_w20 oT_w20 oI_w20 oJ_w20 oU_w20 oV_w20 acc_w20
    go_wp2_with fail
    go_ret
    exact ⟨rfl, acc_w21.out⟩
  · rw [szR_no ht] at HSz
    clear hr hx ht
    obtain ⟨T, V, B, E, ga, gn, gc, ha, hn, hc, sa, sn, sc, la, ln, lc, ps, bs, es⟩ := k
    go_enter Try.func7, Try.ntmps7
    go_wp2_with fail
    refine (HSz.out _ (alloc_below w _)).mono ?_
    rintro e w2 ⟨rfl, hb2⟩
    go_wp2_with fail
    go_ret
    exact ⟨rfl, (alloc_below w _).trans (hb2.mono (alloc_below w _).size)⟩

set_option maxRecDepth 100000 in
theorem groupOf_lifted (os : Os) (started : os.Started) (H : Type) (enc : TypeId × Value → H) :
    ReturnsInHanded {} Try.checked os 7 .any (Rows.fnExactGroupOfSpec.pre6 enc Try.prog Try.f7 Rows.fnExactGroupOfRow.domain false) (Rows.fnExactGroupOfSpec.post enc Try.prog Try.f7 false true false false) := by
  refine returnsInHanded_of_change (C := Try.checked) Try.ownG12 started (by kernel_rfl) Try.func7
    (ChangeSpec.witness6 (enc := enc) (C := Try.checked) false ⟨#[], #[.agg #[.int .i64 0, .int .i64 0, .int .i64 0, .int .i64 0, .slice none 0 0, .slice none 0 0, .slice none 0 0, .slice none 0 0]], []⟩ 8 (by kernel_rfl) (by kernel_rfl) (by kernel_rfl) (by kernel_rfl)) ?_
  intro W base args ds gs before hval0 hW _ _
  have hval : ∀ (j : Nat) t v, Try.f7.params[j]? = some t → args[j]? = some v → Value.okWide Try.prog W .any base t v := hval0
  have hW' := hW
  obtain ⟨p, q, hA0, hV, rfl, _, _⟩ := hW
  have hA : DataW.TrodAll enc Try.prog W 0 (fun _ => true) true Try.f7.params.toList args.toList ds p := hA0
  rw [Try.params7] at hA hval
  obtain ⟨v0, d0, rfl, rfl, h0⟩ := trodAll_one hA
  obtain ⟨rfl, rfl⟩ := trodVars_none hV
  obtain ⟨k, ss, rfl, hr, hx⟩ := openKeep (hval 0 42 v0 rfl rfl) h0
  clear hA0 hval0
  simp only [List.append_nil] at hW'
  have hlt0 : ∀ x ∈ p, x.block < W.heap.size := fun x hx => by simpa using hW'.lt x hx
  refine (lawGroupOf k ss W hr hx).mono fun e W' ⟨he, hb⟩ => ?_
  subst he
  exact ⟨_, rfl, ⟨_, _, _, [], p, [], hW', trodAll_mk1 (shut_bool Try.underlying4 true), trodAll_mk1 (Below.trod Try.laidOutG (by kernel_rfl) (of_decide_eq_true (by kernel_rfl)) h0 hb hlt0), rfl, hb.frame _, fun h => by cases h⟩⟩

theorem groupOf_holds : Rows.FnExactGroupOfSaid :=
  OpenClaim.holds_of_wide 7 Try.f7 rfl rfl rfl rfl rfl rfl rfl ⟨rfl, rfl, rfl, rfl, rfl⟩ rfl rfl rfl rfl rfl (by kernel_rfl) Try.func7 (by kernel_rfl)
    (of_decide_eq_true (by kernel_rfl)) (by unfold Func.isWrapper; rw [if_neg (of_decide_eq_false (by kernel_rfl))]; exact ⟨rfl, rfl⟩)
    (fun os started H enc _ => groupOf_lifted os started H enc)

end Go.Proofs.Ytamaanbnlnpjcaa
