/-
  For every Keep and index the two TermAt answer alike and leave them as they were, so the exact law of TermAt returns true; no condition.
-/
import Derived.Test.YtamaanbnlnpjcaaV15C
import Derived.Test.YtamaanbnlnpjcaaV15O
import Derived.Test.YtamaanbnlnpjcaaRows
import Derived.ProofKit
import Derived.OpenShut
import Derived.Lib.SmallJoins
import Derived.Deep.DeepHandedRow
namespace Go.Proofs.Ytamaanbnlnpjcaa
open Go.ChangeShapes Go.WideShapes Go.ChangeAt Go.RowKit Go.Joins Go.Deep

set_option maxRecDepth 10000 in
set_option maxHeartbeats 20000000 in
theorem lawTermAt (k : Kv) (ss : List Int) (x : Int) (hx1 : x ≤ 9223372036854775807) (w : World) (hr : KvF w k ss) (hx : KvL k) :
    Calls Try.prog 6 #[k.v, .int .i64 x] w fun e w' => e = .returned (.bool true) ∧ Below w.heap.size w w' := by
  have HSz := hidP (fun W (hb : Below w.heap.size w W) => szKeep_any k W (hr.later hb).r hx)
  by_cases ht : totK k ≤ 1048576
  · rw [szR_yes ht] at HSz
    have hs := KvS.of ht
    have HTo := hidP (fun W (hb : Below w.heap.size w W) => toKeep_any k ss W (hr.later hb) hs)
    have HSp := hidP (fun (q : Kv) (W : World) (D : Nat) (hk : KvE k q) (hq : KvO W D q ss) => ((by have h9 := sTerm_any q x hx1 W ⟨(hk.s hs).hg, (hk.s hs).hh, (hk.s hs).hl⟩ hq.f.r (fun e he => (hq.oe e he).2); rw [(ta_key hk x).1, (ta_key hk x).2] at h9; exact h9) : Calls Try.prog 21 #[q.v, .int .i64 x] W fun e w' => e = .returned (.tuple #[.int .i64 (tqT k x), .bool (tqO k x)]) ∧ Below W.heap.size W w'))
    have HIm := hidP (fun (q : Kv) (W : World) (D : Nat) (hk : KvE k q) (hq : KvO W D q ss) => ((by have h9 := iTerm_any q x W ⟨(hk.s hs).hg, (hk.s hs).hh, (hk.s hs).hl⟩ hq.f.r; rw [(ta_key hk x).1, (ta_key hk x).2] at h9; exact h9) : Calls Try.prog 12 #[q.v, .int .i64 x] W fun e w' => e = .returned (.tuple #[.int .i64 (tqT k x), .bool (tqO k x)]) ∧ Below W.heap.size W w'))
    have HEq := hidP (fun (q l : Kv) (W : World) (hk : KvE k q) (hl : KvE k l) (hq : KvF W q ss) (hp : KvF W l ss) => eqKeep_same q l ss W hq hp (hk.comp hl) (hk.s hs))
    have d1 : decide (1048576 - totK k < 0) = false := decide_eq_false (by omega)
    have d2 : ¬ (1048576 - totK k < 0) := by omega
    generalize 1048576 - totK k = z at *
    generalize tqT k x = z1 at *
    generalize tqO k x = z2 at *
    clear hr hx hs ht
    obtain ⟨T, V, B, E, ga, gn, gc, ha, hn, hc, sa, sn, sc, la, ln, lc, ps, bs, es⟩ := k
    go_enter Try.func6, Try.ntmps6
    go_wp2_with fail
    obtain ⟨a0_W1, a1_W1, a2_W1, a3_W1, a4_W1, a5_W1, a6_W1, a7_W1⟩ := box8K w 42 (.int .i64 T) (.int .i64 V) (.int .i64 B) (.int .i64 E) (.slice ga gn gc) (.slice ha hn hc) (.slice sa sn sc) (.slice la ln lc)
    have bB := alloc_below w (.cells #[.int .i64 T, .int .i64 V, .int .i64 B, .int .i64 E, .slice ga gn gc, .slice ha hn hc, .slice sa sn sc, .slice la ln lc] 42)
    have aL_W1 : w.heap.size < (w.alloc (.cells #[.int .i64 T, .int .i64 V, .int .i64 B, .int .i64 E, .slice ga gn gc, .slice ha hn hc, .slice sa sn sc, .slice la ln lc] 42)).heap.size := by simp
    generalize w.alloc (.cells #[.int .i64 T, .int .i64 V, .int .i64 B, .int .i64 E, .slice ga gn gc, .slice ha hn hc, .slice sa sn sc, .slice la ln lc] 42) = W1 at *
    have A_W1 := hidP bB
    have D_W1 := hidP bB
    clear bB
    refine (HSz.out _ A_W1.out).mono ?_
    rintro e w2 ⟨rfl, hb2⟩
    have a0_w2 := (hb2.cell aL_W1).trans a0_W1
    have a1_w2 := (hb2.cell aL_W1).trans a1_W1
    have a2_w2 := (hb2.cell aL_W1).trans a2_W1
    have a3_w2 := (hb2.cell aL_W1).trans a3_W1
    have a4_w2 := (hb2.cell aL_W1).trans a4_W1
    have a5_w2 := (hb2.cell aL_W1).trans a5_W1
    have a6_w2 := (hb2.cell aL_W1).trans a6_W1
    have a7_w2 := (hb2.cell aL_W1).trans a7_W1
    have aL_w2 := Nat.lt_of_lt_of_le aL_W1 hb2.size
    clear a0_W1 a1_W1 a2_W1 a3_W1 a4_W1 a5_W1 a6_W1 a7_W1 aL_W1
    have A_w2 := hidP (A_W1.out.trans (hb2.mono A_W1.out.size))
    clear hb2 A_W1 D_W1
    go_wp2_with fail
    refine (HTo.out _ A_w2.out).mono ?_
    rintro e w3 ⟨k1, rfl, hk1, hq1, hb3⟩
    have a0_w3 := (hb3.cell aL_w2).trans a0_w2
    have a1_w3 := (hb3.cell aL_w2).trans a1_w2
    have a2_w3 := (hb3.cell aL_w2).trans a2_w2
    have a3_w3 := (hb3.cell aL_w2).trans a3_w2
    have a4_w3 := (hb3.cell aL_w2).trans a4_w2
    have a5_w3 := (hb3.cell aL_w2).trans a5_w2
    have a6_w3 := (hb3.cell aL_w2).trans a6_w2
    have a7_w3 := (hb3.cell aL_w2).trans a7_w2
    have aL_w3 := Nat.lt_of_lt_of_le aL_w2 hb3.size
    clear a0_w2 a1_w2 a2_w2 a3_w2 a4_w2 a5_w2 a6_w2 a7_w2 aL_w2
    have A_w3 := hidP (A_w2.out.trans (hb3.mono A_w2.out.size))
    clear hb3 A_w2
    have HS1 := hidP (HSp.out k1 w3 _ hk1 hq1)
    clear hk1 hq1 HSp
    obtain ⟨T1, V1, B1, E1, ga1, gn1, gc1, ha1, hn1, hc1, sa1, sn1, sc1, la1, ln1, lc1, ps1, bs1, es1⟩ := k1
    go_wp2_with fail
    refine (HS1.out).mono ?_
    rintro e w4 ⟨rfl, hb4⟩
    have a0_w4 := (hb4.cell aL_w3).trans a0_w3
    have a1_w4 := (hb4.cell aL_w3).trans a1_w3
    have a2_w4 := (hb4.cell aL_w3).trans a2_w3
    have a3_w4 := (hb4.cell aL_w3).trans a3_w3
    have a4_w4 := (hb4.cell aL_w3).trans a4_w3
    have a5_w4 := (hb4.cell aL_w3).trans a5_w3
    have a6_w4 := (hb4.cell aL_w3).trans a6_w3
    have a7_w4 := (hb4.cell aL_w3).trans a7_w3
    have aL_w4 := Nat.lt_of_lt_of_le aL_w3 hb4.size
    clear a0_w3 a1_w3 a2_w3 a3_w3 a4_w3 a5_w3 a6_w3 a7_w3 aL_w3
    have A_w4 := hidP (A_w3.out.trans (hb4.mono A_w3.out.size))
    clear hb4 A_w3 HS1
    go_wp2_with fail
    refine (HTo.out _ A_w4.out).mono ?_
    rintro e w5 ⟨k2, rfl, hk2, hq2, hb5⟩
    have a0_w5 := (hb5.cell aL_w4).trans a0_w4
    have a1_w5 := (hb5.cell aL_w4).trans a1_w4
    have a2_w5 := (hb5.cell aL_w4).trans a2_w4
    have a3_w5 := (hb5.cell aL_w4).trans a3_w4
    have a4_w5 := (hb5.cell aL_w4).trans a4_w4
    have a5_w5 := (hb5.cell aL_w4).trans a5_w4
    have a6_w5 := (hb5.cell aL_w4).trans a6_w4
    have a7_w5 := (hb5.cell aL_w4).trans a7_w4
    have aL_w5 := Nat.lt_of_lt_of_le aL_w4 hb5.size
    clear a0_w4 a1_w4 a2_w4 a3_w4 a4_w4 a5_w4 a6_w4 a7_w4 aL_w4
    have A_w5 := hidP (A_w4.out.trans (hb5.mono A_w4.out.size))
    have HI2 := hidP (fun W (hb : Below w5.heap.size w5 W) => HIm.out k2 W _ hk2 (hq2.later hb))
    have HE2 := hidP (fun l W (hb : Below w5.heap.size w5 W) hl hp => HEq.out k2 l W hk2 hl (hq2.later hb).f hp)
    clear hb5 A_w4 hk2 hq2 HIm HEq
    obtain ⟨T2, V2, B2, E2, ga2, gn2, gc2, ha2, hn2, hc2, sa2, sn2, sc2, la2, ln2, lc2, ps2, bs2, es2⟩ := k2
    go_wp2_with fail
    obtain ⟨x0_W6, x1_W6, x2_W6, x3_W6, x4_W6, x5_W6, x6_W6, x7_W6⟩ := box8K w5 29 (.int .i64 T2) (.int .i64 V2) (.int .i64 B2) (.int .i64 E2) (.slice ga2 gn2 gc2) (.slice ha2 hn2 hc2) (.slice sa2 sn2 sc2) (.slice la2 ln2 lc2)
    have bB := alloc_below w5 (.cells #[.int .i64 T2, .int .i64 V2, .int .i64 B2, .int .i64 E2, .slice ga2 gn2 gc2, .slice ha2 hn2 hc2, .slice sa2 sn2 sc2, .slice la2 ln2 lc2] 29)
    have xL_W6 : w5.heap.size < (w5.alloc (.cells #[.int .i64 T2, .int .i64 V2, .int .i64 B2, .int .i64 E2, .slice ga2 gn2 gc2, .slice ha2 hn2 hc2, .slice sa2 sn2 sc2, .slice la2 ln2 lc2] 29)).heap.size := by simp
    generalize w5.alloc (.cells #[.int .i64 T2, .int .i64 V2, .int .i64 B2, .int .i64 E2, .slice ga2 gn2 gc2, .slice ha2 hn2 hc2, .slice sa2 sn2 sc2, .slice la2 ln2 lc2] 29) = W6 at *
    have a0_W6 := (bB.cell aL_w5).trans a0_w5
    have a1_W6 := (bB.cell aL_w5).trans a1_w5
    have a2_W6 := (bB.cell aL_w5).trans a2_w5
    have a3_W6 := (bB.cell aL_w5).trans a3_w5
    have a4_W6 := (bB.cell aL_w5).trans a4_w5
    have a5_W6 := (bB.cell aL_w5).trans a5_w5
    have a6_W6 := (bB.cell aL_w5).trans a6_w5
    have a7_W6 := (bB.cell aL_w5).trans a7_w5
    have aL_W6 := Nat.lt_of_lt_of_le aL_w5 bB.size
    clear a0_w5 a1_w5 a2_w5 a3_w5 a4_w5 a5_w5 a6_w5 a7_w5 aL_w5
    have A_W6 := hidP (A_w5.out.trans (bB.mono A_w5.out.size))
    have D_W6 := hidP bB
    clear bB
    refine (HI2.out _ D_W6.out).mono ?_
    rintro e w7 ⟨rfl, hb7⟩
    have a0_w7 := (hb7.cell aL_W6).trans a0_W6
    have a1_w7 := (hb7.cell aL_W6).trans a1_W6
    have a2_w7 := (hb7.cell aL_W6).trans a2_W6
    have a3_w7 := (hb7.cell aL_W6).trans a3_W6
    have a4_w7 := (hb7.cell aL_W6).trans a4_W6
    have a5_w7 := (hb7.cell aL_W6).trans a5_W6
    have a6_w7 := (hb7.cell aL_W6).trans a6_W6
    have a7_w7 := (hb7.cell aL_W6).trans a7_W6
    have aL_w7 := Nat.lt_of_lt_of_le aL_W6 hb7.size
    clear a0_W6 a1_W6 a2_W6 a3_W6 a4_W6 a5_W6 a6_W6 a7_W6 aL_W6
    have x0_w7 := (hb7.cell xL_W6).trans x0_W6
    have x1_w7 := (hb7.cell xL_W6).trans x1_W6
    have x2_w7 := (hb7.cell xL_W6).trans x2_W6
    have x3_w7 := (hb7.cell xL_W6).trans x3_W6
    have x4_w7 := (hb7.cell xL_W6).trans x4_W6
    have x5_w7 := (hb7.cell xL_W6).trans x5_W6
    have x6_w7 := (hb7.cell xL_W6).trans x6_W6
    have x7_w7 := (hb7.cell xL_W6).trans x7_W6
    have xL_w7 := Nat.lt_of_lt_of_le xL_W6 hb7.size
    clear x0_W6 x1_W6 x2_W6 x3_W6 x4_W6 x5_W6 x6_W6 x7_W6 xL_W6
    have A_w7 := hidP (A_W6.out.trans (hb7.mono A_W6.out.size))
    have D7 := hidP (D_W6.out.trans (hb7.mono D_W6.out.size))
    clear hb7 A_W6 D_W6 HI2
    go_wp2_with fail
    have E7 := hidP ((Below.refl w7.heap.size w7).drew)
    go_region_with (first | (go_at_call 18; refine (HTo.out _ (A_w7.out.trans (E7.out.mono A_w7.out.size))).mono ?_; rintro e w8 ⟨k3, rfl, hk3, hq3, hb8⟩; have E8 := hidP (E7.out.trans (hb8.mono E7.out.size)); have x0_w8 := (E8.out.cell xL_w7).trans x0_w7; have x1_w8 := (E8.out.cell xL_w7).trans x1_w7; have x2_w8 := (E8.out.cell xL_w7).trans x2_w7; have x3_w8 := (E8.out.cell xL_w7).trans x3_w7; have x4_w8 := (E8.out.cell xL_w7).trans x4_w7; have x5_w8 := (E8.out.cell xL_w7).trans x5_w7; have x6_w8 := (E8.out.cell xL_w7).trans x6_w7; have x7_w8 := (E8.out.cell xL_w7).trans x7_w7; have HQ3 := hidP (HE2.out k3 w8 (D7.out.trans (E8.out.mono D7.out.size)) hk3 hq3.f); clear hk3 hq3 hb8; obtain ⟨T3, V3, B3, E3, ga3, gn3, gc3, ha3, hn3, hc3, sa3, sn3, sc3, la3, ln3, lc3, ps3, bs3, es3⟩ := k3) | (go_at_call 19; refine HQ3.out.mono ?_; rintro e w9 ⟨rfl, hb9⟩; have E9 := hidP (E8.out.trans (hb9.mono E8.out.size)); clear hb9))
    all_goals
      go_wp2_with fail
      go_ret
      exact ⟨rfl, A_w7.out.trans (E9.out.mono A_w7.out.size)⟩
  · rw [szR_no ht] at HSz
    clear hr hx ht
    obtain ⟨T, V, B, E, ga, gn, gc, ha, hn, hc, sa, sn, sc, la, ln, lc, ps, bs, es⟩ := k
    go_enter Try.func6, Try.ntmps6
    go_wp2_with fail
    refine (HSz.out _ (alloc_below w _)).mono ?_
    rintro e w2 ⟨rfl, hb2⟩
    go_wp2_with fail
    go_ret
    exact ⟨rfl, (alloc_below w _).trans (hb2.mono (alloc_below w _).size)⟩

set_option maxRecDepth 100000 in
theorem termAt_lifted (os : Os) (started : os.Started) (H : Type) (enc : TypeId × Value → H) :
    ReturnsInHanded {} Try.checked os 6 .any (Rows.fnExactTermAtSpec.pre6 enc Try.prog Try.f6 Rows.fnExactTermAtRow.domain false) (Rows.fnExactTermAtSpec.post enc Try.prog Try.f6 false true false false) := by
  refine returnsInHanded_of_change (C := Try.checked) Try.ownG12 started (by kernel_rfl) Try.func6
    (ChangeSpec.witness6 (enc := enc) (C := Try.checked) false ⟨#[], #[.agg #[.int .i64 0, .int .i64 0, .int .i64 0, .int .i64 0, .slice none 0 0, .slice none 0 0, .slice none 0 0, .slice none 0 0], .int .i64 0], []⟩ 8 (by kernel_rfl) (by kernel_rfl) (by kernel_rfl) (by kernel_rfl)) ?_
  intro W base args ds gs before hval0 hW _ _
  have hval : ∀ (j : Nat) t v, Try.f6.params[j]? = some t → args[j]? = some v → Value.okWide Try.prog W .any base t v := hval0
  have hW' := hW
  obtain ⟨p, q, hA0, hV, rfl, _, _⟩ := hW
  have hA : DataW.TrodAll enc Try.prog W 0 (fun _ => true) true Try.f6.params.toList args.toList ds p := hA0
  rw [Try.params6] at hA hval
  obtain ⟨v0, v1, d0, d1, p0, p1, rfl, rfl, rfl, h0, h1⟩ := trodAll_two hA
  obtain ⟨rfl, rfl⟩ := trodVars_none hV
  obtain ⟨k, ss, rfl, hr, hx⟩ := openKeep (hval 0 42 v0 rfl rfl) h0
  obtain ⟨x, rfl, rfl, rfl, wu⟩ := open_int Try.underlying3 (hval 1 3 v1 rfl rfl) h1
  clear hA0 hval0
  simp only [List.append_nil] at hW'
  have hlt0 : ∀ x ∈ p0, x.block < W.heap.size := fun x hx => by simpa using hW'.lt x hx
  refine (lawTermAt k ss x (wf_le wu) W hr hx).mono fun e W' ⟨he, hb⟩ => ?_
  subst he
  exact ⟨_, rfl, ⟨_, _, _, [], p0, [], hW', trodAll_mk1 (shut_bool Try.underlying4 true), trodAll_nil (trodAll_mk2 (Below.trod Try.laidOutG (by kernel_rfl) (of_decide_eq_true (by kernel_rfl)) h0 hb hlt0) (shut_int Try.underlying3 wu)), rfl, hb.frame _, fun h => by cases h⟩⟩

theorem termAt_holds : Rows.FnExactTermAtSaid :=
  OpenClaim.holds_of_wide 6 Try.f6 rfl rfl rfl rfl rfl rfl rfl ⟨rfl, rfl, rfl, rfl, rfl⟩ rfl rfl rfl rfl rfl (by kernel_rfl) Try.func6 (by kernel_rfl)
    (of_decide_eq_true (by kernel_rfl)) (by unfold Func.isWrapper; rw [if_neg (of_decide_eq_false (by kernel_rfl))]; exact ⟨rfl, rfl⟩)
    (fun os started H enc _ => termAt_lifted os started H enc)

end Go.Proofs.Ytamaanbnlnpjcaa
