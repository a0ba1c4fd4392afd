/-
  For every code the law FnGroupBytes answers yes: a drawn group that is right comes back of its bytes; its members are those of both sides; no condition.
-/
import Derived.Test.YtnngbeoeocbofaaV12SI
import Derived.Test.YtnngbeoeocbofaaK12M
import Derived.Test.YtnngbeoeocbofaaWDrG2
import Derived.Test.YtnngbeoeocbofaaWLift
namespace Go.Proofs.Ytnngbeoeocbofaa
open Go.ChangeShapes Go.WideShapes Go.ChangeAt Go.RowKit Go.Joins Go.Deep

set_option maxRecDepth 10000 in
set_option maxHeartbeats 8000000 in
theorem lawGroupBytes (a : Option Addr) (len cap : Nat) (w : World) (hB : Bytes w a len) (hl : len ≤ 1048576) :
    Calls Try.prog 3 #[.slice a len cap] w fun e w' => e = .returned (.bool true) ∧ Below w.heap.size w w' := by
  have HBy := hidP hB
  clear hB
  have hbig : ∀ wx : World, Calls Try.prog 9 #[.slice a len cap] wx fun e w' => e = .returned (.bool false) ∧ wx = w' := fun wx => by
    have d : decide ((1048576 : Int) < (len : Int)) = false := decide_eq_false (by omega)
    go_enter Try.func9, Try.ntmps9
    go_wp2
    go_ret
    exact ⟨rfl, rfl⟩
  have HG := hidP hbig
  clear hbig
  go_enter Try.func3, Try.ntmps3
  go_wp2_with fail
  refine (HG.out _).mono ?_
  rintro e w0 ⟨rfl, rfl⟩
  go_wp2_with fail
  refine (drawPutGroup_any a len cap w HBy.out hl).mono ?_
  rintro e w1 ⟨⟨a1, n1, c1, a2, n2, c2, ps, bs, rfl, hn1, hn2, hl1, hl2, ho1, ho2⟩, hb1⟩
  have OX := hidP (And.intro ho1 ho2)
  have HN := hidP (And.intro hn1 hn2)
  clear ho1 ho2 hn1 hn2 HBy HG hl
  have acc_w1 := hidP (hb1)
  have sz_w1 : Hid (w.heap.size ≤ w1.heap.size) := hidP hb1.size
  clear hb1 
  have oP_w1 := hidP (OX.out.1)
  have lhP : Hid (∀ k, (Value.slice a1 n1 c1).ownBlock = some k → w.heap.size ≤ k ∧ k < w1.heap.size) := hidP (fun k hk => OwnG.lt oP_w1.out k hk)
  have oQ_w1 := hidP (OX.out.2)
  have lhQ : Hid (∀ k, (Value.slice a2 n2 c2).ownBlock = some k → w.heap.size ≤ k ∧ k < w1.heap.size) := hidP (fun k hk => OwnG.lt oQ_w1.out k hk)
  clear OX
  go_wp2_with fail
  obtain ⟨gb0_W2, gb1_W2⟩ := box2D w1 26 (.slice a1 n1 c1) (.slice a2 n2 c2)
  have gbF_W2 : ∀ o, (w1.alloc (.cells #[.slice a1 n1 c1, .slice a2 n2 c2] 26)).frozen? ⟨w1.heap.size, o, none⟩ = false := fun o => by simp [go_sem]
  have gbL_W2 : w1.heap.size < (w1.alloc (.cells #[.slice a1 n1 c1, .slice a2 n2 c2] 26)).heap.size := by simp
  have ab_W2 := alloc_below w1 (.cells #[.slice a1 n1 c1, .slice a2 n2 c2] 26)
  have as_W2 : Hid ((w1.alloc (.cells #[.slice a1 n1 c1, .slice a2 n2 c2] 26)).heap.size = w1.heap.size + 1) := hidP (by simp)
  generalize w1.alloc (.cells #[.slice a1 n1 c1, .slice a2 n2 c2] 26) = W2 at *
  have oP_W2 := hidP (OwnG.later oP_w1.out ab_W2)
  have oQ_W2 := hidP (OwnG.later oQ_w1.out ab_W2)
  have acc_W2 := hidP (acc_w1.out.trans (ab_W2.mono acc_w1.out.size))
  have sz_W2 : Hid (w1.heap.size ≤ W2.heap.size) := hidP ab_W2.size
  clear ab_W2 oP_w1 oQ_w1 acc_w1
  have HS := hidP (fun W e1 e2 => sGroupOk_any a1 n1 c1 a2 n2 c2 ps bs W HN.out.1 HN.out.2 e1 e2 (by omega) (by omega))
  have HI := hidP (fun W e1 e2 => iGroupOk_any a1 n1 c1 a2 n2 c2 ps bs W HN.out.1 HN.out.2 e1 e2 (by omega) (by omega))
  cases hr : grB ps bs
  · rw [hr] at HS HI
    have HPg := hidP (fun W e1 e2 => iPgA_no a1 n1 c1 a2 n2 c2 ps bs W HN.out.1 HN.out.2 e1 e2 (by omega) (by omega) hr)
    clear hr
    refine (HPg.out _ oP_W2.out.row oQ_W2.out.row).mono ?_
    rintro e w3 ⟨a3, c3, rfl, og3, hb3⟩
    clear og3
    have gb0_w3 := (hb3.cell gbL_W2).trans gb0_W2
    have gb1_w3 := (hb3.cell gbL_W2).trans gb1_W2
    have gbF_w3 : ∀ o, w3.frozen? ⟨w1.heap.size, o, none⟩ = false := fun o => (hb3.frozen gbL_W2).trans (gbF_W2 o)
    have gbL_w3 : w1.heap.size < w3.heap.size := Nat.lt_of_lt_of_le gbL_W2 hb3.size
    have oP_w3 := hidP (OwnG.later oP_W2.out hb3)
    have oQ_w3 := hidP (OwnG.later oQ_W2.out hb3)
    have acc_w3 := hidP (acc_W2.out.trans (hb3.mono acc_W2.out.size))
    have sz_w3 : Hid (W2.heap.size ≤ w3.heap.size) := hidP hb3.size
    clear hb3 gb0_W2 gb1_W2 gbF_W2 gbL_W2 oP_W2 oQ_W2 acc_W2
    go_wp2_with fail
    refine (HS.out _ oP_w3.out.row oQ_w3.out.row).mono ?_
    rintro e w4 ⟨rfl, hb4⟩
    have gb0_w4 := (hb4.cell gbL_w3).trans gb0_w3
    have gb1_w4 := (hb4.cell gbL_w3).trans gb1_w3
    have gbF_w4 : ∀ o, w4.frozen? ⟨w1.heap.size, o, none⟩ = false := fun o => (hb4.frozen gbL_w3).trans (gbF_w3 o)
    have gbL_w4 : w1.heap.size < w4.heap.size := Nat.lt_of_lt_of_le gbL_w3 hb4.size
    have oP_w4 := hidP (OwnG.later oP_w3.out hb4)
    have oQ_w4 := hidP (OwnG.later oQ_w3.out hb4)
    have acc_w4 := hidP (acc_w3.out.trans (hb4.mono acc_w3.out.size))
    have sz_w4 : Hid (w3.heap.size ≤ w4.heap.size) := hidP hb4.size
    clear hb4 gb0_w3 gb1_w3 gbF_w3 gbL_w3 oP_w3 oQ_w3 acc_w3
    go_wp2_with fail
    refine (HI.out _ oP_w4.out.row oQ_w4.out.row).mono ?_
    rintro e w5 ⟨rfl, hb5⟩
    have gb0_w5 := (hb5.cell gbL_w4).trans gb0_w4
    have gb1_w5 := (hb5.cell gbL_w4).trans gb1_w4
    have gbF_w5 : ∀ o, w5.frozen? ⟨w1.heap.size, o, none⟩ = false := fun o => (hb5.frozen gbL_w4).trans (gbF_w4 o)
    have gbL_w5 : w1.heap.size < w5.heap.size := Nat.lt_of_lt_of_le gbL_w4 hb5.size
    have oP_w5 := hidP (OwnG.later oP_w4.out hb5)
    have oQ_w5 := hidP (OwnG.later oQ_w4.out hb5)
    have acc_w5 := hidP (acc_w4.out.trans (hb5.mono acc_w4.out.size))
    have sz_w5 : Hid (w4.heap.size ≤ w5.heap.size) := hidP hb5.size
    clear hb5 gb0_w4 gb1_w4 gbF_w4 gbL_w4 oP_w4 oQ_w4 acc_w4
    go_wp2_with fail
    go_ret
    exact ⟨rfl, acc_w5.out⟩
  · rw [hr] at HS HI
    have HPg := hidP (fun W e1 e2 => iPgA_yes a1 n1 c1 a2 n2 c2 ps bs W HN.out.1 HN.out.2 e1 e2 (by omega) (by omega) hr)
    have hr' := hr
    unfold grB at hr'
    simp only [Bool.and_eq_true, decide_eq_true_eq] at hr'
    obtain ⟨_, f2, f3, f4, f5, f6⟩ := facts_of hr'.1.1
    obtain ⟨_, g2, g3, g4, g5, _⟩ := facts_of hr'.1.2
    obtain ⟨X, hX⟩ : ∃ X : Nat, byI 0 ps = (X : Int) := ⟨(byI 0 ps).toNat, by omega⟩
    obtain ⟨Y, hY⟩ : ∃ Y : Nat, byI 0 bs = (Y : Int) := ⟨(byI 0 bs).toNat, by omega⟩
    have hX1 : ofB 8 X 1 = ps := by rw [hX] at f2; exact f2
    have hY1 : ofB 8 Y 1 = bs := by rw [hY] at g2; exact g2
    have hgot : gotB X Y = true := by
      unfold gotB
      rw [decide_eq_true (show 0 < X by omega), decide_eq_true (show X < 128 by omega), decide_eq_true (show Y < 128 by omega)]; rfl
    have HGt := hidP (fun g W e1 => iGg_good g X Y (by omega) (by omega) W e1 hgot)
    rw [hX1, hY1, ← HN.out.1, ← HN.out.2] at HGt
    rw [hX, hY] at HPg
    have HMb := hidP (fun W e1 e2 => members_any a1 n1 c1 a2 n2 c2 ps bs W HN.out.1 HN.out.2 e1 e2 (by omega) (by omega) hr'.1.1 hr'.1.2)
    have HS1 := hidP (fun W x c e1 e2 => sameInts_any x a1 n1 c n1 c1 ps ps W HN.out.1 HN.out.1 e1 e2 (by omega) (by omega))
    have HS2 := hidP (fun W x c e1 e2 => sameInts_any x a2 n2 c n2 c2 bs bs W HN.out.2 HN.out.2 e1 e2 (by omega) (by omega))
    rw [show eqZ ps ps = true from decide_eq_true rfl] at HS1
    rw [show eqZ bs bs = true from decide_eq_true rfl] at HS2
    clear hr hr' f2 f3 f4 f5 f6 g2 g3 g4 g5 hX hY hX1 hY1 hgot
    refine (HPg.out _ oP_W2.out.row oQ_W2.out.row).mono ?_
    rintro e w3 ⟨g3, rfl, og3, hb3⟩
    have OX := hidP og3
    clear og3
    have gb0_w3 := (hb3.cell gbL_W2).trans gb0_W2
    have gb1_w3 := (hb3.cell gbL_W2).trans gb1_W2
    have gbF_w3 : ∀ o, w3.frozen? ⟨w1.heap.size, o, none⟩ = false := fun o => (hb3.frozen gbL_W2).trans (gbF_W2 o)
    have gbL_w3 : w1.heap.size < w3.heap.size := Nat.lt_of_lt_of_le gbL_W2 hb3.size
    have oP_w3 := hidP (OwnG.later oP_W2.out hb3)
    have oQ_w3 := hidP (OwnG.later oQ_W2.out hb3)
    have acc_w3 := hidP (acc_W2.out.trans (hb3.mono acc_W2.out.size))
    have sz_w3 : Hid (W2.heap.size ≤ w3.heap.size) := hidP hb3.size
    clear hb3 gb0_W2 gb1_W2 gbF_W2 gbL_W2 oP_W2 oQ_W2 acc_W2
    have oB_w3 := hidP (OX.out)
    have lhB : Hid (∀ k, (Value.slice (some ⟨g3, 0, none⟩) 2 2).ownBlock = some k → W2.heap.size ≤ k ∧ k < w3.heap.size) := hidP (fun k hk => OwnG.lt oB_w3.out k hk)
    clear OX
    go_wp2_with fail
    refine (HS.out _ oP_w3.out.row oQ_w3.out.row).mono ?_
    rintro e w4 ⟨rfl, hb4⟩
    have gb0_w4 := (hb4.cell gbL_w3).trans gb0_w3
    have gb1_w4 := (hb4.cell gbL_w3).trans gb1_w3
    have gbF_w4 : ∀ o, w4.frozen? ⟨w1.heap.size, o, none⟩ = false := fun o => (hb4.frozen gbL_w3).trans (gbF_w3 o)
    have gbL_w4 : w1.heap.size < w4.heap.size := Nat.lt_of_lt_of_le gbL_w3 hb4.size
    have oP_w4 := hidP (OwnG.later oP_w3.out hb4)
    have oQ_w4 := hidP (OwnG.later oQ_w3.out hb4)
    have oB_w4 := hidP (OwnG.later oB_w3.out hb4)
    have acc_w4 := hidP (acc_w3.out.trans (hb4.mono acc_w3.out.size))
    have sz_w4 : Hid (w3.heap.size ≤ w4.heap.size) := hidP hb4.size
    clear hb4 gb0_w3 gb1_w3 gbF_w3 gbL_w3 oP_w3 oQ_w3 oB_w3 acc_w3
    go_wp2_with fail
    refine (HGt.out g3 _ oB_w4.out.row).mono ?_
    rintro e w5 ⟨a5, c5, b5, d5, rfl, og5, oh5, nq5, hb5⟩
    have OX := hidP (And.intro og5 oh5)
    clear og5 oh5 nq5
    have gb0_w5 := (hb5.cell gbL_w4).trans gb0_w4
    have gb1_w5 := (hb5.cell gbL_w4).trans gb1_w4
    have gbF_w5 : ∀ o, w5.frozen? ⟨w1.heap.size, o, none⟩ = false := fun o => (hb5.frozen gbL_w4).trans (gbF_w4 o)
    have gbL_w5 : w1.heap.size < w5.heap.size := Nat.lt_of_lt_of_le gbL_w4 hb5.size
    have oP_w5 := hidP (OwnG.later oP_w4.out hb5)
    have oQ_w5 := hidP (OwnG.later oQ_w4.out hb5)
    have oB_w5 := hidP (OwnG.later oB_w4.out hb5)
    have acc_w5 := hidP (acc_w4.out.trans (hb5.mono acc_w4.out.size))
    have sz_w5 : Hid (w4.heap.size ≤ w5.heap.size) := hidP hb5.size
    clear hb5 gb0_w4 gb1_w4 gbF_w4 gbL_w4 oP_w4 oQ_w4 oB_w4 acc_w4
    have oI_w5 := hidP (OX.out.1)
    have lhI : Hid (∀ k, (Value.slice a5 n1 c5).ownBlock = some k → w4.heap.size ≤ k ∧ k < w5.heap.size) := hidP (fun k hk => OwnG.lt oI_w5.out k hk)
    have oJ_w5 := hidP (OX.out.2)
    have lhJ : Hid (∀ k, (Value.slice b5 n2 d5).ownBlock = some k → w4.heap.size ≤ k ∧ k < w5.heap.size) := hidP (fun k hk => OwnG.lt oJ_w5.out k hk)
    clear OX
    go_wp2_with fail
    obtain ⟨xb0_W6, xb1_W6⟩ := box2D w5 26 (.slice a5 n1 c5) (.slice b5 n2 d5)
    have xbF_W6 : ∀ o, (w5.alloc (.cells #[.slice a5 n1 c5, .slice b5 n2 d5] 26)).frozen? ⟨w5.heap.size, o, none⟩ = false := fun o => by simp [go_sem]
    have xbL_W6 : w5.heap.size < (w5.alloc (.cells #[.slice a5 n1 c5, .slice b5 n2 d5] 26)).heap.size := by simp
    have ab_W6 := alloc_below w5 (.cells #[.slice a5 n1 c5, .slice b5 n2 d5] 26)
    have as_W6 : Hid ((w5.alloc (.cells #[.slice a5 n1 c5, .slice b5 n2 d5] 26)).heap.size = w5.heap.size + 1) := hidP (by simp)
    generalize w5.alloc (.cells #[.slice a5 n1 c5, .slice b5 n2 d5] 26) = W6 at *
    have gb0_W6 := (ab_W6.cell gbL_w5).trans gb0_w5
    have gb1_W6 := (ab_W6.cell gbL_w5).trans gb1_w5
    have gbF_W6 : ∀ o, W6.frozen? ⟨w1.heap.size, o, none⟩ = false := fun o => (ab_W6.frozen gbL_w5).trans (gbF_w5 o)
    have gbL_W6 : w1.heap.size < W6.heap.size := Nat.lt_of_lt_of_le gbL_w5 ab_W6.size
    have oP_W6 := hidP (OwnG.later oP_w5.out ab_W6)
    have oQ_W6 := hidP (OwnG.later oQ_w5.out ab_W6)
    have oB_W6 := hidP (OwnG.later oB_w5.out ab_W6)
    have oI_W6 := hidP (OwnG.later oI_w5.out ab_W6)
    have oJ_W6 := hidP (OwnG.later oJ_w5.out ab_W6)
    have acc_W6 := hidP (acc_w5.out.trans (ab_W6.mono acc_w5.out.size))
    have sz_W6 : Hid (w5.heap.size ≤ W6.heap.size) := hidP ab_W6.size
    clear ab_W6 gb0_w5 gb1_w5 gbF_w5 gbL_w5 oP_w5 oQ_w5 oB_w5 oI_w5 oJ_w5 acc_w5
    refine (HMb.out _ oP_W6.out.row oQ_W6.out.row).mono ?_
    rintro e w7 ⟨a7, n7, c7, M, rfl, hn7, hi7, m1, m2, m3, og7, hb7⟩
    have OX := hidP og7
    have HM := hidP (And.intro hn7 hi7)
    clear og7 hn7 hi7
    have gb0_w7 := (hb7.cell gbL_W6).trans gb0_W6
    have gb1_w7 := (hb7.cell gbL_W6).trans gb1_W6
    have gbF_w7 : ∀ o, w7.frozen? ⟨w1.heap.size, o, none⟩ = false := fun o => (hb7.frozen gbL_W6).trans (gbF_W6 o)
    have gbL_w7 : w1.heap.size < w7.heap.size := Nat.lt_of_lt_of_le gbL_W6 hb7.size
    have xb0_w7 := (hb7.cell xbL_W6).trans xb0_W6
    have xb1_w7 := (hb7.cell xbL_W6).trans xb1_W6
    have xbF_w7 : ∀ o, w7.frozen? ⟨w5.heap.size, o, none⟩ = false := fun o => (hb7.frozen xbL_W6).trans (xbF_W6 o)
    have xbL_w7 : w5.heap.size < w7.heap.size := Nat.lt_of_lt_of_le xbL_W6 hb7.size
    have oP_w7 := hidP (OwnG.later oP_W6.out hb7)
    have oQ_w7 := hidP (OwnG.later oQ_W6.out hb7)
    have oB_w7 := hidP (OwnG.later oB_W6.out hb7)
    have oI_w7 := hidP (OwnG.later oI_W6.out hb7)
    have oJ_w7 := hidP (OwnG.later oJ_W6.out hb7)
    have acc_w7 := hidP (acc_W6.out.trans (hb7.mono acc_W6.out.size))
    have sz_w7 : Hid (W6.heap.size ≤ w7.heap.size) := hidP hb7.size
    clear hb7 gb0_W6 gb1_W6 gbF_W6 gbL_W6 xb0_W6 xb1_W6 xbF_W6 xbL_W6 oP_W6 oQ_W6 oB_W6 oI_W6 oJ_W6 acc_W6
    have oM_w7 := hidP (OX.out)
    have lhM : Hid (∀ k, (Value.slice a7 n7 c7).ownBlock = some k → W6.heap.size ≤ k ∧ k < w7.heap.size) := hidP (fun k hk => OwnG.lt oM_w7.out k hk)
    clear OX
    go_wp2_with fail
    go_loopw [8] (fun t8 wr => ∃ (i : Nat), 1 ≤ i ∧ (i ≤ n7 ∨ i = 1) ∧ t8 = .int .i64 i ∧ Below w7.heap.size w7 wr) (fun t8 _ => n7 - (intOf t8).toNat)
    case atStart => exact ⟨1, Nat.le_refl _, Or.inr rfl, rfl, Below.refl _ _⟩
    case round =>
      obtain ⟨i, hi1, hi2, rfl, hbel⟩ := hrel
      by_cases hlt : i < n7
      · have HBel := hidP hbel
        obtain ⟨J, hJ⟩ : ∃ J, i = J + 1 := ⟨i - 1, by omega⟩
        have hJi : (i : Int) - 1 = (J : Int) := by omega
        have wJ : IntKind.i64.wrap (J : Int) = (J : Int) := by rw [IntKind.wrap_i64]; omega
        have hJ0 : (0 : Int) ≤ (J : Int) := by omega
        have hJ1 : (J : Int) < (n7 : Int) := by omega
        have hJn : J < n7 := by omega
        have kw : IntKind.i64.wrap (i : Int) = (i : Int) := by rw [IntKind.wrap_i64]; omega
        have k0 : (0 : Int) ≤ (i : Int) := by omega
        have k1 : (i : Int) < (n7 : Int) := by omega
        obtain ⟨p, o, q, rfl, hp, hq, e0⟩ := rowI oM_w7.out.row i (by rw [← HM.out.1]; exact hlt)
        obtain ⟨p', o', r, he, hp', hr, eJ⟩ := rowI oM_w7.out.row J (by rw [← HM.out.1]; exact hJn)
        simp only [Option.some.injEq, Addr.mk.injEq, and_true] at he
        obtain ⟨rfl, rfl⟩ := he
        have z0 := (hbel.cell hp).trans e0
        have zJ := (hbel.cell hp').trans eJ
        have zL : p < wr.heap.size := Nat.lt_of_lt_of_le hp hbel.size
        have hrq : r < q := ids_rise M 0 J r q HM.out.2 hr (by rw [← hJ]; exact hq)
        have e4 : decide (q ≤ r) = false := decide_eq_false (by omega)
        clear e0 eJ hq hr hbel hJ
        go_wp2_with fail
        have HSx : Hid (∀ x, Below wr.heap.size wr x → (x.cell? ⟨p, o + i, none⟩ = some (.int .i64 q) ∧ x.cell? ⟨p, o + J, none⟩ = some (.int .i64 r) ∧ Below wr.heap.size wr x)) := hidP fun x h =>
          ⟨(h.cell zL).trans z0, (h.cell zL).trans zJ, h⟩
        refine wp_region_held_drew (S := (fun x => x.cell? ⟨p, o + i, none⟩ = some (.int .i64 q) ∧ x.cell? ⟨p, o + J, none⟩ = some (.int .i64 r) ∧ Below wr.heap.size wr x)) (by kernel_rfl) ?_ (fun hHeld => ?_)
        · try dsimp only
          exact HSx.out _ ((Below.refl _ _).drew)
        refine wpAnyH_take (i := 0) (oi := ⟨some 39, _, _, _, _, _⟩) (v := ?_) rfl (by kernel_rfl) (by kernel_rfl) (by kernel_rfl) (fun _ _ _ h => h) (Or.inl ⟨by rfl, ?_⟩) (by assumption) ?_
        rotate_left
        · intro w hSw
          try dsimp only at hSw
          go_simp
          try with_reducible rfl
        simp only [Act.put, List.setIfInBounds_toArray, List.set_cons_zero, List.set_cons_succ]
        refine wpAnyH_take (i := 1) (oi := ⟨some 40, _, _, _, _, _⟩) (v := ?_) rfl (by kernel_rfl) (by kernel_rfl) (by kernel_rfl) (fun _ _ _ h => h) (Or.inl ⟨by rfl, ?_⟩) (by assumption) ?_
        rotate_left
        · intro w hSw
          try dsimp only at hSw
          go_simp
          try with_reducible rfl
        simp only [Act.put, List.setIfInBounds_toArray, List.set_cons_zero, List.set_cons_succ]
        refine wpAnyH_take (i := 2) (oi := ⟨some 41, _, _, _, _, _⟩) (v := ?_) rfl (by kernel_rfl) (by kernel_rfl) (by kernel_rfl) (fun _ _ _ h => h) (Or.inl ⟨by rfl, ?_⟩) (by assumption) ?_
        rotate_left
        · intro w hSw
          try dsimp only at hSw
          go_simp
          try with_reducible rfl
        simp only [Act.put, List.setIfInBounds_toArray, List.set_cons_zero, List.set_cons_succ]
        refine wpAnyH_take (i := 3) (oi := ⟨some 42, _, _, _, _, _⟩) (v := ?_) rfl (by kernel_rfl) (by kernel_rfl) (by kernel_rfl) (fun _ _ _ h => h) (Or.inl ⟨by rfl, ?_⟩) (by assumption) ?_
        rotate_left
        · intro w hSw
          try dsimp only at hSw
          go_simp
          try with_reducible rfl
        simp only [Act.put, List.setIfInBounds_toArray, List.set_cons_zero, List.set_cons_succ]
        refine wpAnyH_take (i := 4) (oi := ⟨some 43, _, _, _, _, _⟩) (v := ?_) rfl (by kernel_rfl) (by kernel_rfl) (by kernel_rfl) (fun _ _ _ h => h) (Or.inl ⟨by rfl, ?_⟩) (by assumption) ?_
        rotate_left
        · intro w hSw
          try dsimp only at hSw
          go_simp
          try with_reducible rfl
        simp only [Act.put, List.setIfInBounds_toArray, List.set_cons_zero, List.set_cons_succ]
        refine wpAnyH_take (i := 5) (oi := ⟨some 44, _, _, _, _, _⟩) (v := ?_) rfl (by kernel_rfl) (by kernel_rfl) (by kernel_rfl) (fun _ _ _ h => h) (Or.inl ⟨by rfl, ?_⟩) (by assumption) ?_
        rotate_left
        · intro w hSw
          try dsimp only at hSw
          go_simp
          try with_reducible rfl
        simp only [Act.put, List.setIfInBounds_toArray, List.set_cons_zero, List.set_cons_succ]
        refine wpAnyH_take (i := 6) (oi := ⟨some 45, _, _, _, _, _⟩) (v := ?_) rfl (by kernel_rfl) (by kernel_rfl) (by kernel_rfl) (fun _ _ _ h => h) (Or.inl ⟨by rfl, ?_⟩) (by assumption) ?_
        rotate_left
        · intro w hSw
          try dsimp only at hSw
          go_simp
          try with_reducible rfl
        simp only [Act.put, List.setIfInBounds_toArray, List.set_cons_zero, List.set_cons_succ]
        refine wpAnyH_take (i := 7) (oi := ⟨some 46, _, _, _, _, _⟩) (v := ?_) rfl (by kernel_rfl) (by kernel_rfl) (by kernel_rfl) (fun _ _ _ h => h) (Or.inl ⟨by rfl, ?_⟩) (by assumption) ?_
        rotate_left
        · intro w hSw
          try dsimp only at hSw
          go_simp
          try with_reducible rfl
        simp only [Act.put, List.setIfInBounds_toArray, List.set_cons_zero, List.set_cons_succ]
        refine wpAnyH_take (i := 8) (oi := ⟨some 47, _, _, _, _, _⟩) (v := ?_) rfl (by kernel_rfl) (by kernel_rfl) (by kernel_rfl) (fun _ _ _ h => h) (Or.inl ⟨by rfl, ?_⟩) (by assumption) ?_
        rotate_left
        · intro w hSw
          try dsimp only at hSw
          go_simp
          try with_reducible rfl
        simp only [Act.put, List.setIfInBounds_toArray, List.set_cons_zero, List.set_cons_succ]
        refine wpAnyH_take (i := 9) (oi := ⟨some 48, _, _, _, _, _⟩) (v := ?_) rfl (by kernel_rfl) (by kernel_rfl) (by kernel_rfl) (fun _ _ _ h => h) (Or.inl ⟨by rfl, ?_⟩) (by assumption) ?_
        rotate_left
        · intro w hSw
          try dsimp only at hSw
          go_simp
          try with_reducible rfl
        simp only [Act.put, List.setIfInBounds_toArray, List.set_cons_zero, List.set_cons_succ]
        have HE := hidP (hHeld.2.2)
        refine wpAnyH_done (by kernel_rfl) ?_ _
        clear hHeld
        go_wp2_with fail
        go_roundw
        case rel => exact ⟨i + 1, by omega, Or.inl (by omega), by go_num, HBel.out.trans (HE.out.mono HBel.out.size)⟩
        case measure => simp [intOf]; omega
      · have t1 : decide ((n1 : Int) ≤ (n7 : Int)) = true := decide_eq_true (by omega)
        have t2 : decide ((n2 : Int) ≤ (n7 : Int)) = true := decide_eq_true (by omega)
        have t3 : decide ((n7 : Int) ≤ (n1 : Int) + (n2 : Int)) = true := decide_eq_true (by omega)
        have t4 : IntKind.i64.wrap ((n1 : Int) + (n2 : Int)) = (n1 : Int) + (n2 : Int) := by rw [IntKind.wrap_i64]; omega
        have t5 : decide (n1 ≤ n7) = true := decide_eq_true (by omega)
        have t6 : decide (n2 ≤ n7) = true := decide_eq_true (by omega)
        have hbw := hbel
        clear hbel
        have gb0_wr := (hbw.cell gbL_w7).trans gb0_w7
        have gb1_wr := (hbw.cell gbL_w7).trans gb1_w7
        have gbF_wr : ∀ o, wr.frozen? ⟨w1.heap.size, o, none⟩ = false := fun o => (hbw.frozen gbL_w7).trans (gbF_w7 o)
        have gbL_wr : w1.heap.size < wr.heap.size := Nat.lt_of_lt_of_le gbL_w7 hbw.size
        have xb0_wr := (hbw.cell xbL_w7).trans xb0_w7
        have xb1_wr := (hbw.cell xbL_w7).trans xb1_w7
        have xbF_wr : ∀ o, wr.frozen? ⟨w5.heap.size, o, none⟩ = false := fun o => (hbw.frozen xbL_w7).trans (xbF_w7 o)
        have xbL_wr : w5.heap.size < wr.heap.size := Nat.lt_of_lt_of_le xbL_w7 hbw.size
        have oP_wr := hidP (OwnG.later oP_w7.out hbw)
        have oQ_wr := hidP (OwnG.later oQ_w7.out hbw)
        have oB_wr := hidP (OwnG.later oB_w7.out hbw)
        have oI_wr := hidP (OwnG.later oI_w7.out hbw)
        have oJ_wr := hidP (OwnG.later oJ_w7.out hbw)
        have oM_wr := hidP (OwnG.later oM_w7.out hbw)
        have acc_wr := hidP (acc_w7.out.trans (hbw.mono acc_w7.out.size))
        have sz_wr : Hid (w7.heap.size ≤ wr.heap.size) := hidP hbw.size
        clear hbw gb0_w7 gb1_w7 gbF_w7 gbL_w7 xb0_w7 xb1_w7 xbF_w7 xbL_w7 oP_w7 oQ_w7 oB_w7 oI_w7 oJ_w7 oM_w7 acc_w7
        go_wp2_with fail
        refine (HS1.out _ _ _ oI_wr.out.row oP_wr.out.row).mono ?_
        rintro e w8 ⟨rfl, hb8⟩
        have gb0_w8 := (hb8.cell gbL_wr).trans gb0_wr
        have gb1_w8 := (hb8.cell gbL_wr).trans gb1_wr
        have gbF_w8 : ∀ o, w8.frozen? ⟨w1.heap.size, o, none⟩ = false := fun o => (hb8.frozen gbL_wr).trans (gbF_wr o)
        have gbL_w8 : w1.heap.size < w8.heap.size := Nat.lt_of_lt_of_le gbL_wr hb8.size
        have xb0_w8 := (hb8.cell xbL_wr).trans xb0_wr
        have xb1_w8 := (hb8.cell xbL_wr).trans xb1_wr
        have xbF_w8 : ∀ o, w8.frozen? ⟨w5.heap.size, o, none⟩ = false := fun o => (hb8.frozen xbL_wr).trans (xbF_wr o)
        have xbL_w8 : w5.heap.size < w8.heap.size := Nat.lt_of_lt_of_le xbL_wr hb8.size
        have oP_w8 := hidP (OwnG.later oP_wr.out hb8)
        have oQ_w8 := hidP (OwnG.later oQ_wr.out hb8)
        have oB_w8 := hidP (OwnG.later oB_wr.out hb8)
        have oI_w8 := hidP (OwnG.later oI_wr.out hb8)
        have oJ_w8 := hidP (OwnG.later oJ_wr.out hb8)
        have oM_w8 := hidP (OwnG.later oM_wr.out hb8)
        have acc_w8 := hidP (acc_wr.out.trans (hb8.mono acc_wr.out.size))
        have sz_w8 : Hid (wr.heap.size ≤ w8.heap.size) := hidP hb8.size
        clear hb8 gb0_wr gb1_wr gbF_wr gbL_wr xb0_wr xb1_wr xbF_wr xbL_wr oP_wr oQ_wr oB_wr oI_wr oJ_wr oM_wr acc_wr
        go_wp2_with fail
        refine (HS2.out _ _ _ oJ_w8.out.row oQ_w8.out.row).mono ?_
        rintro e w9 ⟨rfl, hb9⟩
        have gb0_w9 := (hb9.cell gbL_w8).trans gb0_w8
        have gb1_w9 := (hb9.cell gbL_w8).trans gb1_w8
        have gbF_w9 : ∀ o, w9.frozen? ⟨w1.heap.size, o, none⟩ = false := fun o => (hb9.frozen gbL_w8).trans (gbF_w8 o)
        have gbL_w9 : w1.heap.size < w9.heap.size := Nat.lt_of_lt_of_le gbL_w8 hb9.size
        have xb0_w9 := (hb9.cell xbL_w8).trans xb0_w8
        have xb1_w9 := (hb9.cell xbL_w8).trans xb1_w8
        have xbF_w9 : ∀ o, w9.frozen? ⟨w5.heap.size, o, none⟩ = false := fun o => (hb9.frozen xbL_w8).trans (xbF_w8 o)
        have xbL_w9 : w5.heap.size < w9.heap.size := Nat.lt_of_lt_of_le xbL_w8 hb9.size
        have oP_w9 := hidP (OwnG.later oP_w8.out hb9)
        have oQ_w9 := hidP (OwnG.later oQ_w8.out hb9)
        have oB_w9 := hidP (OwnG.later oB_w8.out hb9)
        have oI_w9 := hidP (OwnG.later oI_w8.out hb9)
        have oJ_w9 := hidP (OwnG.later oJ_w8.out hb9)
        have oM_w9 := hidP (OwnG.later oM_w8.out hb9)
        have acc_w9 := hidP (acc_w8.out.trans (hb9.mono acc_w8.out.size))
        have sz_w9 : Hid (w8.heap.size ≤ w9.heap.size) := hidP hb9.size
        clear hb9 gb0_w8 gb1_w8 gbF_w8 gbL_w8 xb0_w8 xb1_w8 xbF_w8 xbL_w8 oP_w8 oQ_w8 oB_w8 oI_w8 oJ_w8 oM_w8 acc_w8
        go_wp2_with fail
        go_ret
        exact ⟨rfl, acc_w9.out⟩

set_option maxHeartbeats 1000000 in
theorem lawGroupBytes_all (a : Option Addr) (len cap : Nat) (w : World) (hB : Bytes w a len) :
    Calls Try.prog 3 #[.slice a len cap] w fun e w' => e = .returned (.bool true) ∧ Below w.heap.size w w' := by
  by_cases hl : len ≤ 1048576
  · exact lawGroupBytes a len cap w hB hl
  · have hbig : ∀ wx : World, Calls Try.prog 9 #[.slice a len cap] wx fun e w' => e = .returned (.bool true) ∧ wx = w' := fun wx => by
      have d : decide ((1048576 : Int) < (len : Int)) = true := decide_eq_true (by omega)
      go_enter Try.func9, Try.ntmps9
      go_wp2
      go_ret
      exact ⟨rfl, rfl⟩
    have HG : Hid (∀ wx : World, _) := hbig
    clear hbig
    go_enter Try.func3, Try.ntmps3
    go_wp2_with fail
    refine (HG.out _).mono ?_
    rintro e w0 ⟨rfl, rfl⟩
    go_wp2_with fail
    go_ret
    exact ⟨rfl, Below.refl _ _⟩

set_option maxRecDepth 100000 in
theorem lawGroupBytes_lifted (os : Os) (started : os.Started) (H : Type) (enc : TypeId × Value → H) :
    ReturnsInHanded {} Try.checked os 3 .any (Rows.fnGroupBytesSpec.pre6 enc Try.prog Try.f3 Rows.fnGroupBytesRow.domain false) (Rows.fnGroupBytesSpec.post enc Try.prog Try.f3 false true false false) := by
  refine returnsInHanded_of_change (C := Try.checked) Try.ownW started (by kernel_rfl) Try.func3
    (ChangeSpec.witness6 (enc := enc) (C := Try.checked) false ⟨#[], #[.slice none 0 0], []⟩ 8 (by kernel_rfl) (by kernel_rfl) (by kernel_rfl) (by kernel_rfl)) ?_
  intro W base args ds gs before hval0 hW _ _
  have hval : ∀ (j : Nat) t v, Try.f3.params[j]? = some t → args[j]? = some v → Value.okWide Try.prog W .any base t v := hval0
  have hW' := hW
  obtain ⟨p, q, hA0, hV, rfl, _, _⟩ := hW
  have hA : DataW.TrodAll enc Try.prog W 0 (fun _ => true) true Try.f3.params.toList args.toList ds p := hA0
  rw [Try.params3] at hA hval
  obtain ⟨v0, d0, rfl, rfl, h0⟩ := trodAll_one hA
  obtain ⟨rfl, rfl⟩ := trodVars_none hV
  obtain ⟨a0, len, cap, rfl⟩ := okWide_slice Try.underlying22 (hval 0 22 v0 rfl rfl)
  clear hA0 hval0
  simp only [List.append_nil] at hW'
  have hlt : ∀ x ∈ p, x.block < W.heap.size := fun x hx => by simpa using hW'.lt x hx
  refine (lawGroupBytes_all a0 len cap W (bytes_open h0)).mono fun e W' ⟨he, hb⟩ => ?_
  subst he
  exact ⟨_, rfl, ⟨_, _, _, [], p, [], hW', trodAll_mk1 (shut_bool Try.underlying4 true), trodAll_mk1 (Below.trod Try.laidOutW (by kernel_rfl) (of_decide_eq_true (by kernel_rfl)) h0 hb hlt), rfl, hb.frame _, fun h => by cases h⟩⟩

theorem lawGroupBytes_holds : Rows.FnGroupBytesSaid :=
  OpenClaim.holds_of_wide 3 Try.f3 rfl rfl rfl rfl rfl rfl rfl ⟨rfl, rfl, rfl, rfl, rfl⟩ rfl rfl rfl rfl rfl (by kernel_rfl) Try.func3 (by kernel_rfl)
    (of_decide_eq_true (by kernel_rfl)) (by unfold Func.isWrapper; rw [if_neg (of_decide_eq_false (by kernel_rfl))]; exact ⟨rfl, rfl⟩)
    (fun os started H enc _ => lawGroupBytes_lifted os started H enc)

end Go.Proofs.Ytnngbeoeocbofaa
