/-
  For every code the law FnAddrs answers yes: a drawn address that is right comes back of its text, what is added is its gap, and the order is that of the numbers; the card ties the library's tables to the program's text; no other condition.
-/
import Derived.Test.YtofnnpjadehgmaaDoorCards
import Derived.Test.YtofnnpjadehgmaaDoorTie
import Derived.Test.YtofnnpjadehgmaaDoorDIPa
import Derived.Test.YtofnnpjadehgmaaDoorEVal
import Derived.Test.YtofnnpjadehgmaaDoorWDrAd
import Derived.Test.YtofnnpjadehgmaaDoorHBox
import Derived.Test.YtofnnpjadehgmaaDoorWLift
import Derived.ProofKit
import Derived.OpenShut
import Derived.Lib.SmallJoins
import Derived.Deep.DeepHandedRow
import Derived.Lib.LaidTab
import Derived.LaidSub
import Derived.Carry
import Derived.Deep.Slices
import Derived.ChangeMaps5
namespace Go.Proofs.YtofnnpjadehgmaaDoor
open Go.ChangeShapes Go.WideShapes Go.ChangeAt Go.RowKit Go.Joins Go.Deep

theorem iText_ok (S : Bool) (H L : Int) (hok : okB S H L = true) (w : World) (ht : Tabs w) : Calls Tryd.prog 11 #[.agg #[.bool S, .int .i64 H, .int .i64 L]] w fun e w' => e = .returned (.string ⟨(tA S H L).toArray⟩) ∧ Below w.heap.size w w' := by
  cases S
  · obtain ⟨rfl, h0, h1⟩ := ok_four hok
    exact iText_four false 0 L 0 L (nrm_ok hok) h0 h1 w ht
  · exact iText_six true H L H L (nrm_ok hok) w ht
theorem iParse_text (S : Bool) (H L : Int) (hok : okB S H L = true) (bH : I64 H) (bL : I64 L) (w : World) (ht : Tabs w) : Calls Tryd.prog 10 #[.string ⟨(tA S H L).toArray⟩] w fun e w' => e = .returned (.tuple #[.agg #[.bool S, .int .i64 H, .int .i64 L], .bool true]) ∧ Below w.heap.size w w' := by
  have hT : IsT (tA S H L) S H L := ⟨hok, bH, bL, rfl⟩
  refine (iParse_any (tA S H L) w ht).mono ?_
  rintro e w' ⟨⟨S', H', L', h, rfl⟩ | ⟨h, _⟩, hb⟩
  · obtain ⟨rfl, rfl, rfl⟩ := isT_one h hT
    exact ⟨rfl, hb⟩
  · exact absurd ⟨_, _, _, hT⟩ h
theorem cmpV_le (n : Int) : decide (cmpV n ≤ 0) = true := by unfold cmpV; split <;> decide
theorem cmpV_z (n : Int) : ((n == 0) == (cmpV n == 0)) = true := by
  unfold cmpV
  by_cases h : n = 0
  · rw [if_pos h, h]; rfl
  · rw [if_neg h]; simp [h]
theorem cmpV_bd (n : Int) : -1 ≤ cmpV n ∧ cmpV n ≤ 0 := by unfold cmpV; split <;> omega

set_option maxRecDepth 10000 in
set_option maxHeartbeats 4000000 in
theorem lawAddrs (a : Option Addr) (len cap : Nat) (w : World) (hB : Bytes w a len) (hl : len ≤ 1048576) (ht : Tabs w) :
    Calls Tryd.prog 3 #[.slice a len cap] w fun e w' => e = .returned (.bool true) ∧ Below w.heap.size w w' := by
  have HBy := hidP hB
  have HT := hidP ht
  clear hB ht
  have hbig : ∀ wx : World, Calls Tryd.prog 6 #[.slice a len cap] wx fun e w' => e = .returned (.bool false) ∧ wx = w' := fun wx => by
    have d : decide ((1048576 : Int) < (len : Int)) = false := decide_eq_false (by omega)
    go_enter Tryd.func6, Tryd.ntmps6
    go_wp2
    go_ret
    exact ⟨rfl, rfl⟩
  have HG := hidP hbig
  clear hbig
  go_enter Tryd.func3, Tryd.ntmps3
  go_wp2_with fail
  refine (HG.out _).mono ?_
  rintro e w0 ⟨rfl, rfl⟩
  go_wp2_with fail
  refine (drawAddTo_any a len cap _ HBy.out hl).mono ?_
  rintro e w1 ⟨⟨S, X, Y, N, ⟨bX, bY, bN⟩, rfl⟩, hb1⟩
  have HI := hidP (And.intro bX (And.intro bY bN))
  have HB1 := hidP hb1
  have hz1 := hb1.size
  clear hb1 bX bY bN HBy
  go_wp2_with fail
  refine (sAddrOk_any S X Y _).mono ?_
  rintro e w2 ⟨rfl, hb2⟩
  have HX2 : Hid (Box w2 w1.heap.size [.bool S, .int .i64 X, .int .i64 Y]) := hidP (Box.below (Box.new [.bool S, .int .i64 X, .int .i64 Y] 25 rfl) hb2)
  have HB2 := hidP ((HB1.out.alloc hz1 _).trans (hb2.mono (by simp; omega)))
  have hz2 := HB2.out.size
  clear hb2
  have c0 := HX2.out.2 0 _ rfl
  have c1 := HX2.out.2 1 _ rfl
  have c2 := HX2.out.2 2 _ rfl
  have cl := HX2.out.1
  cases hok : okB S X Y
  · go_wp2_with fail
    refine (iAddrOk_any S X Y _).mono ?_
    rintro e w3 ⟨rfl, hb3⟩
    rw [hok]
    have HB3 := hidP (HB2.out.trans (hb3.mono hz2))
    clear hb3
    go_wp2_with fail
    go_ret
    exact ⟨rfl, HB3.out⟩
  · have HOK := hidP hok
    go_wp2_with fail
    refine (iText_ok S X Y HOK.out _ (HT.out.below HB2.out)).mono ?_
    rintro e w3 ⟨rfl, hb3⟩
    have HX3 := hidP (HX2.out.below hb3)
    have HB3 := hidP (HB2.out.trans (hb3.mono hz2))
    have hz3 := HB3.out.size
    clear hb3 c0 c1 c2 cl HX2
    go_wp2_with fail
    refine (iParse_text S X Y HOK.out HI.out.1 HI.out.2.1 _ (HT.out.below HB3.out)).mono ?_
    rintro e w4 ⟨rfl, hb4⟩
    have HX4 := hidP (HX3.out.below hb4)
    have HB4 := hidP (HB3.out.trans (hb4.mono hz3))
    have hz4 := HB4.out.size
    clear hb4 HX3
    have c0 := HX4.out.2 0 _ rfl
    have c1 := HX4.out.2 1 _ rfl
    have c2 := HX4.out.2 2 _ rfl
    have cl := HX4.out.1
    obtain ⟨S', H, L, ok, hSp, hIm, hAd⟩ := addTo_val S X Y N HOK.out HI.out.1 HI.out.2.1 HI.out.2.2.2
    have HSp := hidP hSp
    have HIm := hidP hIm
    have HAd := hidP hAd
    clear hSp hIm hAd
    go_wp2_with fail
    refine (HIm.out _).mono ?_
    rintro e w5 ⟨rfl, hb5⟩
    have HX5 := hidP ((HX4.out.more _).below hb5)
    have HY5 : Hid (Box w5 w4.heap.size [.bool S, .int .i64 X, .int .i64 Y]) := hidP (Box.below (Box.new [.bool S, .int .i64 X, .int .i64 Y] 25 rfl) hb5)
    have HB5 := hidP ((HB4.out.alloc hz4 _).trans (hb5.mono (by simp; omega)))
    have hz5 := HB5.out.size
    clear hb5 c0 c1 c2 cl HX4
    have c0 := HX5.out.2 0 _ rfl
    have c1 := HX5.out.2 1 _ rfl
    have c2 := HX5.out.2 2 _ rfl
    have cl := HX5.out.1
    go_wp2_with fail
    refine (iAddrOk_any S X Y _).mono ?_
    rintro e w6 ⟨rfl, hb6⟩
    rw [hok]
    have HX6 := hidP ((HX5.out.more _).below hb6)
    have HY6 := hidP ((HY5.out.more _).below hb6)
    have HZ6 : Hid (Box w6 w5.heap.size [.bool S', .int .i64 H, .int .i64 L]) := hidP (Box.below (Box.new [.bool S', .int .i64 H, .int .i64 L] 25 rfl) hb6)
    have HB6 := hidP ((HB5.out.alloc hz5 _).trans (hb6.mono (by simp; omega)))
    have hz6 := HB6.out.size
    clear hb6 c0 c1 c2 cl HX5 HY5
    have c0 := HX6.out.2 0 _ rfl
    have c1 := HX6.out.2 1 _ rfl
    have c2 := HX6.out.2 2 _ rfl
    have cl := HX6.out.1
    have d0 := HY6.out.2 0 _ rfl
    have d1 := HY6.out.2 1 _ rfl
    have d2 := HY6.out.2 2 _ rfl
    have dl := HY6.out.1
    have hq : ∀ wx, (Op.equalIn 10000 25 (.agg #[.bool S, .int .i64 X, .int .i64 Y]) (.agg #[.bool S, .int .i64 X, .int .i64 Y])).run Tryd.prog wx = .ok true wx := fun wx => by rw [eqSt]; simp
    cases ok
    · go_wp2_with fail
      refine (HSp.out _).mono ?_
      rintro e w7 ⟨rfl, hb7⟩
      have HB7 := hidP (HB6.out.trans (hb7.mono hz6))
      have hz7 := HB7.out.size
      clear hb7
      go_wp2_with fail
      go_ret
      exact ⟨rfl, HB7.out.alloc hz7 _⟩
    · obtain ⟨hN, rfl, hOk, bH, bL, hBe⟩ := HAd.out rfl
      have HGp := hidP (fun W => gap_val S' X Y H L N HOK.out hOk hN HI.out.2.2.2 hBe W)
      have HCm := hidP (cmp_val S' X Y H L N HOK.out hOk HI.out.1 bH hN hBe)
      clear hOk bH bL hBe HAd HSp HIm
      have f0 := HZ6.out.2 0 _ rfl
      have f1 := HZ6.out.2 1 _ rfl
      have f2 := HZ6.out.2 2 _ rfl
      have fl := HZ6.out.1
      go_wp2_with fail
      refine (HGp.out _).mono ?_
      rintro e w7 ⟨rfl, hb7⟩
      have HX7 := hidP (HX6.out.below hb7)
      have HZ7 := hidP (HZ6.out.below hb7)
      have HB7 := hidP (HB6.out.trans (hb7.mono hz6))
      have hz7 := HB7.out.size
      clear hb7 c0 c1 c2 cl d0 d1 d2 dl f0 f1 f2 fl hq
      have c0 := HX7.out.2 0 _ rfl
      have c1 := HX7.out.2 1 _ rfl
      have c2 := HX7.out.2 2 _ rfl
      have cl := HX7.out.1
      have f0 := HZ7.out.2 0 _ rfl
      have f1 := HZ7.out.2 1 _ rfl
      have f2 := HZ7.out.2 2 _ rfl
      have fl := HZ7.out.1
      have hv := cmpV_bd N
      have q1 := cmpV_le N
      have q2 := cmpV_z N
      have q4 : (N == N) = true := by simp
      have HE0 := hidP q2
      generalize cmpV N = v at *
      have q3 : (-v == IntKind.i64.wrap (-v)) = true := by rw [IntKind.wrap_i64]; simp; omega
      go_wp2_with fail
      have HSx : Hid (∀ x, Below w7.heap.size w7 x → (x.cell? ⟨w1.heap.size, 0, none⟩ = some (.bool S') ∧ x.cell? ⟨w1.heap.size, 1, none⟩ = some (.int .i64 X) ∧ x.cell? ⟨w1.heap.size, 2, none⟩ = some (.int .i64 Y) ∧ x.cell? ⟨w5.heap.size, 0, none⟩ = some (.bool S') ∧ x.cell? ⟨w5.heap.size, 1, none⟩ = some (.int .i64 H) ∧ x.cell? ⟨w5.heap.size, 2, none⟩ = some (.int .i64 L) ∧ Below w7.heap.size w7 x)) := hidP fun x h =>
        ⟨(h.cell cl).trans c0, (h.cell cl).trans c1, (h.cell cl).trans c2, (h.cell fl).trans f0, (h.cell fl).trans f1, (h.cell fl).trans f2, h⟩
      refine wp_region_held_drew (S := (fun x => x.cell? ⟨w1.heap.size, 0, none⟩ = some (.bool S') ∧ x.cell? ⟨w1.heap.size, 1, none⟩ = some (.int .i64 X) ∧ x.cell? ⟨w1.heap.size, 2, none⟩ = some (.int .i64 Y) ∧ x.cell? ⟨w5.heap.size, 0, none⟩ = some (.bool S') ∧ x.cell? ⟨w5.heap.size, 1, none⟩ = some (.int .i64 H) ∧ x.cell? ⟨w5.heap.size, 2, none⟩ = some (.int .i64 L) ∧ Below w7.heap.size w7 x)) (by kernel_rfl) ?_ (fun hHeld => ?_)
      · try dsimp only
        exact HSx.out _ ((Below.refl _ _).drew)
      refine wpAnyH_take (i := 0) (oi := ⟨some 66, _, _, _, _, _⟩) (v := ?_) rfl (by kernel_rfl) (by kernel_rfl) (by kernel_rfl) (fun _ _ _ h => h) (Or.inl ⟨by rfl, ?_⟩) (by assumption) ?_
      rotate_left
      · intro w hSw
        try dsimp only at hSw
        go_simp
        try with_reducible rfl
      simp only [Act.put, List.setIfInBounds_toArray, List.set_cons_zero, List.set_cons_succ]
      refine wpAnyH_take (i := 1) (oi := ⟨some 67, _, _, _, _, _⟩) (v := ?_) rfl (by kernel_rfl) (by kernel_rfl) (by kernel_rfl) (fun _ _ _ h => h) (Or.inl ⟨by rfl, ?_⟩) (by assumption) ?_
      rotate_left
      · intro w hSw
        try dsimp only at hSw
        go_simp
        try with_reducible rfl
      simp only [Act.put, List.setIfInBounds_toArray, List.set_cons_zero, List.set_cons_succ]
      refine wpAnyH_take (i := 2) (oi := ⟨some 68, _, _, _, _, _⟩) (v := ?_) rfl (by kernel_rfl) (by kernel_rfl) (by kernel_rfl) (fun _ _ _ h => h) (Or.inl ⟨by rfl, ?_⟩) (by assumption) ?_
      rotate_left
      · intro w hSw
        try dsimp only at hSw
        go_simp
        try with_reducible rfl
      simp only [Act.put, List.setIfInBounds_toArray, List.set_cons_zero, List.set_cons_succ]
      refine wpAnyH_take (i := 3) (oi := ⟨some 69, _, _, _, _, _⟩) (v := ?_) rfl (by kernel_rfl) (by kernel_rfl) (by kernel_rfl) (fun _ _ _ h => h) (Or.inl ⟨by rfl, ?_⟩) (by assumption) ?_
      rotate_left
      · intro w hSw
        try dsimp only at hSw
        go_simp
        try with_reducible rfl
      simp only [Act.put, List.setIfInBounds_toArray, List.set_cons_zero, List.set_cons_succ]
      refine wpAnyH_take (i := 4) (oi := ⟨some 70, _, _, _, _, _⟩) (v := ?_) rfl (by kernel_rfl) (by kernel_rfl) (by kernel_rfl) (fun _ _ _ h => h) (Or.inl ⟨by rfl, ?_⟩) (by assumption) ?_
      rotate_left
      · intro w hSw
        try dsimp only at hSw
        go_simp
        try with_reducible rfl
      simp only [Act.put, List.setIfInBounds_toArray, List.set_cons_zero, List.set_cons_succ]
      refine wpAnyH_take (i := 5) (oi := ⟨some 71, _, _, _, _, _⟩) (v := ?_) rfl (by kernel_rfl) (by kernel_rfl) (by kernel_rfl) (fun _ _ _ h => h) (Or.inl ⟨by rfl, ?_⟩) (by assumption) ?_
      rotate_left
      · intro w hSw
        try dsimp only at hSw
        go_simp
        try with_reducible rfl
      simp only [Act.put, List.setIfInBounds_toArray, List.set_cons_zero, List.set_cons_succ]
      refine wpAnyH_take (i := 6) (oi := ⟨some 72, _, _, _, _, _⟩) (v := ?_) rfl (by kernel_rfl) (by kernel_rfl) (by kernel_rfl) (fun _ _ _ h => h) (Or.inl ⟨by rfl, ?_⟩) (by assumption) ?_
      rotate_left
      · intro w hSw
        try dsimp only at hSw
        go_simp
        try with_reducible rfl
      simp only [Act.put, List.setIfInBounds_toArray, List.set_cons_zero, List.set_cons_succ]
      refine wpAnyH_take (i := 7) (oi := ⟨some 73, _, _, _, _, _⟩) (v := ?_) rfl (by kernel_rfl) (by kernel_rfl) (by kernel_rfl) (fun _ _ _ h => h) (Or.inl ⟨by rfl, ?_⟩) (by assumption) ?_
      rotate_left
      · intro w hSw
        try dsimp only at hSw
        go_simp
        try with_reducible rfl
      simp only [Act.put, List.setIfInBounds_toArray, List.set_cons_zero, List.set_cons_succ]
      refine wpAnyH_take (i := 8) (oi := ⟨some 74, _, _, _, _, _⟩) (v := ?_) rfl (by kernel_rfl) (by kernel_rfl) (by kernel_rfl) (fun _ _ _ h => h) (Or.inl ⟨by rfl, ?_⟩) (by assumption) ?_
      rotate_left
      · intro w hSw
        try dsimp only at hSw
        go_simp
        try with_reducible rfl
      simp only [Act.put, List.setIfInBounds_toArray, List.set_cons_zero, List.set_cons_succ]
      refine wpAnyH_ready (rs := [9]) (by kernel_rfl) (by simp) ?_
      refine AllReadyH.cons rfl (fun K hK => ?_) AllReadyH.nil
      go_simp
      go_wp2_with (first | (go_at_call 15; refine (HCm.out.1 _).mono ?_; rintro e w8 ⟨rfl, hb8⟩; have b8 := (hHeld.2.2.2.2.2.2).trans (hb8.mono (hHeld.2.2.2.2.2.2).size)))
      refine hK.out _ _ ?_ (fun hHeld => ?_)
      · try dsimp only
        exact HSx.out _ b8
      clear hK K
      refine wpAnyH_take (i := 10) (oi := ⟨some 76, _, _, _, _, _⟩) (v := ?_) rfl (by kernel_rfl) (by kernel_rfl) (by kernel_rfl) (fun _ _ _ h => h) (Or.inl ⟨by rfl, ?_⟩) (by assumption) ?_
      rotate_left
      · intro w hSw
        try dsimp only at hSw
        go_simp
        try with_reducible rfl
      simp only [Act.put, List.setIfInBounds_toArray, List.set_cons_zero, List.set_cons_succ]
      refine wpAnyH_take (i := 11) (oi := ⟨some 77, _, _, _, _, _⟩) (v := ?_) rfl (by kernel_rfl) (by kernel_rfl) (by kernel_rfl) (fun _ _ _ h => h) (Or.inl ⟨by rfl, ?_⟩) (by assumption) ?_
      rotate_left
      · intro w hSw
        try dsimp only at hSw
        go_simp
        try with_reducible rfl
      simp only [Act.put, List.setIfInBounds_toArray, List.set_cons_zero, List.set_cons_succ]
      refine wpAnyH_take (i := 12) (oi := ⟨some 78, _, _, _, _, _⟩) (v := ?_) rfl (by kernel_rfl) (by kernel_rfl) (by kernel_rfl) (fun _ _ _ h => h) (Or.inl ⟨by rfl, ?_⟩) (by assumption) ?_
      rotate_left
      · intro w hSw
        try dsimp only at hSw
        go_simp
        try with_reducible rfl
      simp only [Act.put, List.setIfInBounds_toArray, List.set_cons_zero, List.set_cons_succ]
      refine wpAnyH_take (i := 13) (oi := ⟨some 79, _, _, _, _, _⟩) (v := ?_) rfl (by kernel_rfl) (by kernel_rfl) (by kernel_rfl) (fun _ _ _ h => h) (Or.inl ⟨by rfl, ?_⟩) (by assumption) ?_
      rotate_left
      · intro w hSw
        try dsimp only at hSw
        go_simp
        try with_reducible rfl
      simp only [Act.put, List.setIfInBounds_toArray, List.set_cons_zero, List.set_cons_succ]
      refine wpAnyH_take (i := 14) (oi := ⟨some 80, _, _, _, _, _⟩) (v := ?_) rfl (by kernel_rfl) (by kernel_rfl) (by kernel_rfl) (fun _ _ _ h => h) (Or.inl ⟨by rfl, ?_⟩) (by assumption) ?_
      rotate_left
      · intro w hSw
        try dsimp only at hSw
        go_simp
        try with_reducible rfl
      simp only [Act.put, List.setIfInBounds_toArray, List.set_cons_zero, List.set_cons_succ]
      refine wpAnyH_take (i := 15) (oi := ⟨some 81, _, _, _, _, _⟩) (v := ?_) rfl (by kernel_rfl) (by kernel_rfl) (by kernel_rfl) (fun _ _ _ h => h) (Or.inl ⟨by rfl, ?_⟩) (by assumption) ?_
      rotate_left
      · intro w hSw
        try dsimp only at hSw
        go_simp
        try with_reducible rfl
      simp only [Act.put, List.setIfInBounds_toArray, List.set_cons_zero, List.set_cons_succ]
      refine wpAnyH_take (i := 16) (oi := ⟨some 82, _, _, _, _, _⟩) (v := ?_) rfl (by kernel_rfl) (by kernel_rfl) (by kernel_rfl) (fun _ _ _ h => h) (Or.inl ⟨by rfl, ?_⟩) (by assumption) ?_
      rotate_left
      · intro w hSw
        try dsimp only at hSw
        go_simp
        try with_reducible rfl
      simp only [Act.put, List.setIfInBounds_toArray, List.set_cons_zero, List.set_cons_succ]
      refine wpAnyH_ready (rs := [17]) (by kernel_rfl) (by simp) ?_
      refine AllReadyH.cons rfl (fun K hK => ?_) AllReadyH.nil
      go_simp
      go_wp2_with (first | (go_at_call 15; refine (HCm.out.1 _).mono ?_; rintro e w9 ⟨rfl, hb9⟩; have b9 := (hHeld.2.2.2.2.2.2).trans (hb9.mono (hHeld.2.2.2.2.2.2).size)))
      refine hK.out _ _ ?_ (fun hHeld => ?_)
      · try dsimp only
        exact HSx.out _ b9
      clear hK K
      refine wpAnyH_take (i := 18) (oi := ⟨some 84, _, _, _, _, _⟩) (v := ?_) rfl (by kernel_rfl) (by kernel_rfl) (by kernel_rfl) (fun _ _ _ h => h) (Or.inl ⟨by rfl, ?_⟩) (by assumption) ?_
      rotate_left
      · intro w hSw
        try dsimp only at hSw
        go_simp
        try with_reducible rfl
      simp only [Act.put, List.setIfInBounds_toArray, List.set_cons_zero, List.set_cons_succ]
      refine wpAnyH_take (i := 19) (oi := ⟨some 85, _, _, _, _, _⟩) (v := ?_) rfl (by kernel_rfl) (by kernel_rfl) (by kernel_rfl) (fun _ _ _ h => h) (Or.inl ⟨by rfl, ?_⟩) (by assumption) ?_
      rotate_left
      · intro w hSw
        try dsimp only at hSw
        go_simp
        try with_reducible rfl
      simp only [Act.put, List.setIfInBounds_toArray, List.set_cons_zero, List.set_cons_succ]
      refine wpAnyH_take (i := 20) (oi := ⟨some 86, _, _, _, _, _⟩) (v := ?_) rfl (by kernel_rfl) (by kernel_rfl) (by kernel_rfl) (fun _ _ _ h => h) (Or.inl ⟨by rfl, ?_⟩) (by assumption) ?_
      rotate_left
      · intro w hSw
        try dsimp only at hSw
        go_simp
        try with_reducible rfl
      simp only [Act.put, List.setIfInBounds_toArray, List.set_cons_zero, List.set_cons_succ]
      refine wpAnyH_take (i := 21) (oi := ⟨some 87, _, _, _, _, _⟩) (v := ?_) rfl (by kernel_rfl) (by kernel_rfl) (by kernel_rfl) (fun _ _ _ h => h) (Or.inl ⟨by rfl, ?_⟩) (by assumption) ?_
      rotate_left
      · intro w hSw
        try dsimp only at hSw
        go_simp
        try with_reducible rfl
      simp only [Act.put, List.setIfInBounds_toArray, List.set_cons_zero, List.set_cons_succ]
      refine wpAnyH_take (i := 22) (oi := ⟨some 88, _, _, _, _, _⟩) (v := ?_) rfl (by kernel_rfl) (by kernel_rfl) (by kernel_rfl) (fun _ _ _ h => h) (Or.inl ⟨by rfl, ?_⟩) (by assumption) ?_
      rotate_left
      · intro w hSw
        try dsimp only at hSw
        go_simp
        try with_reducible rfl
      simp only [Act.put, List.setIfInBounds_toArray, List.set_cons_zero, List.set_cons_succ]
      refine wpAnyH_take (i := 23) (oi := ⟨some 89, _, _, _, _, _⟩) (v := ?_) rfl (by kernel_rfl) (by kernel_rfl) (by kernel_rfl) (fun _ _ _ h => h) (Or.inl ⟨by rfl, ?_⟩) (by assumption) ?_
      rotate_left
      · intro w hSw
        try dsimp only at hSw
        go_simp
        try with_reducible rfl
      simp only [Act.put, List.setIfInBounds_toArray, List.set_cons_zero, List.set_cons_succ]
      refine wpAnyH_take (i := 25) (oi := ⟨some 91, _, _, _, _, _⟩) (v := ?_) rfl (by kernel_rfl) (by kernel_rfl) (by kernel_rfl) (fun _ _ _ h => h) (Or.inl ⟨by rfl, ?_⟩) (by assumption) ?_
      rotate_left
      · intro w hSw
        try dsimp only at hSw
        go_simp
        try with_reducible rfl
      simp only [Act.put, List.setIfInBounds_toArray, List.set_cons_zero, List.set_cons_succ]
      refine wpAnyH_take (i := 26) (oi := ⟨some 92, _, _, _, _, _⟩) (v := ?_) rfl (by kernel_rfl) (by kernel_rfl) (by kernel_rfl) (fun _ _ _ h => h) (Or.inl ⟨by rfl, ?_⟩) (by assumption) ?_
      rotate_left
      · intro w hSw
        try dsimp only at hSw
        go_simp
        try with_reducible rfl
      simp only [Act.put, List.setIfInBounds_toArray, List.set_cons_zero, List.set_cons_succ]
      refine wpAnyH_ready (rs := [24]) (by kernel_rfl) (by simp) ?_
      refine AllReadyH.cons rfl (fun K hK => ?_) AllReadyH.nil
      go_simp
      go_wp2_with (first | (go_at_call 15; refine (HCm.out.2 _).mono ?_; rintro e w10 ⟨rfl, hb10⟩; have b10 := (hHeld.2.2.2.2.2.2).trans (hb10.mono (hHeld.2.2.2.2.2.2).size)))
      refine hK.out _ _ ?_ (fun hHeld => ?_)
      · try dsimp only
        exact HSx.out _ b10
      clear hK K
      refine wpAnyH_ready (rs := [27]) (by kernel_rfl) (by simp) ?_
      refine AllReadyH.cons rfl (fun K hK => ?_) AllReadyH.nil
      go_simp
      go_wp2_with (first | (go_at_call 15; refine (HCm.out.1 _).mono ?_; rintro e w11 ⟨rfl, hb11⟩; have b11 := (hHeld.2.2.2.2.2.2).trans (hb11.mono (hHeld.2.2.2.2.2.2).size)))
      refine hK.out _ _ ?_ (fun hHeld => ?_)
      · try dsimp only
        exact HSx.out _ b11
      clear hK K
      refine wpAnyH_take (i := 28) (oi := ⟨some 94, _, _, _, _, _⟩) (v := ?_) rfl (by kernel_rfl) (by kernel_rfl) (by kernel_rfl) (fun _ _ _ h => h) (Or.inl ⟨by rfl, ?_⟩) (by assumption) ?_
      rotate_left
      · intro w hSw
        try dsimp only at hSw
        go_simp
        try with_reducible rfl
      simp only [Act.put, List.setIfInBounds_toArray, List.set_cons_zero, List.set_cons_succ]
      refine wpAnyH_take (i := 29) (oi := ⟨some 95, _, _, _, _, _⟩) (v := ?_) rfl (by kernel_rfl) (by kernel_rfl) (by kernel_rfl) (fun _ _ _ h => h) (Or.inl ⟨by rfl, ?_⟩) (by assumption) ?_
      rotate_left
      · intro w hSw
        try dsimp only at hSw
        go_simp
        try with_reducible rfl
      simp only [Act.put, List.setIfInBounds_toArray, List.set_cons_zero, List.set_cons_succ]
      refine wpAnyH_take (i := 30) (oi := ⟨some 96, _, _, _, _, _⟩) (v := ?_) rfl (by kernel_rfl) (by kernel_rfl) (by kernel_rfl) (fun _ _ _ h => h) (Or.inl ⟨by rfl, ?_⟩) (by assumption) ?_
      rotate_left
      · intro w hSw
        try dsimp only at hSw
        go_simp
        try with_reducible rfl
      simp only [Act.put, List.setIfInBounds_toArray, List.set_cons_zero, List.set_cons_succ]
      refine wpAnyH_take (i := 31) (oi := ⟨some 2, _, _, _, _, _⟩) (v := ?_) rfl (by kernel_rfl) (by kernel_rfl) (by kernel_rfl) (fun _ _ _ h => h) (Or.inl ⟨by rfl, ?_⟩) (by assumption) ?_
      rotate_left
      · intro w hSw
        try dsimp only at hSw
        go_simp
        try with_reducible rfl
      simp only [Act.put, List.setIfInBounds_toArray, List.set_cons_zero, List.set_cons_succ]
      have HE := hidP (hHeld.2.2.2.2.2.2)
      refine wpAnyH_done (by kernel_rfl) ?_ _
      clear hHeld
      go_wp2_with fail
      go_ret
      exact ⟨rfl, HB7.out.trans (HE.out.mono hz7)⟩

set_option maxHeartbeats 1000000 in
theorem lawAddrs_all (a : Option Addr) (len cap : Nat) (w : World) (hB : Bytes w a len) (ht : Tabs w) :
    Calls Tryd.prog 3 #[.slice a len cap] w fun e w' => e = .returned (.bool true) ∧ Below w.heap.size w w' := by
  by_cases hl : len ≤ 1048576
  · exact lawAddrs a len cap w hB hl ht
  · have hbig : ∀ wx : World, Calls Tryd.prog 6 #[.slice a len cap] wx fun e w' => e = .returned (.bool true) ∧ wx = w' := fun wx => by
      have d : decide ((1048576 : Int) < (len : Int)) = true := decide_eq_true (by omega)
      go_enter Tryd.func6, Tryd.ntmps6
      go_wp2
      go_ret
      exact ⟨rfl, rfl⟩
    have HG : Hid (∀ wx : World, _) := hbig
    clear hbig
    go_enter Tryd.func3, Tryd.ntmps3
    go_wp2_with fail
    refine (HG.out _).mono ?_
    rintro e w0 ⟨rfl, rfl⟩
    go_wp2_with fail
    go_ret
    exact ⟨rfl, Below.refl _ _⟩

theorem ownT : ownKnob Tryd.prog.godebug = none := by kernel_rfl
theorem g64 : Tryd.prog.globalNamed "math/bits.deBruijn64tab" = some 5 := by kernel_rfl

/-- What the row's list gives: the tables' cells. -/
theorem tabs {W : World} (h : laidMetH Tryd.prog Rows.fnAddrsRow.laid W) : Tabs W := by
  have h1 := h.filter (fun x => x.1 == "internal/strconv.uint64pow10")
  have h2 := h.filter (fun x => x.1 == "math/bits.deBruijn64tab")
  have e1 : (Rows.fnAddrsRow.laid.filter fun x => x.1 == "internal/strconv.uint64pow10") = [("internal/strconv.uint64pow10", Rows.laid_internal_strconv_uint64pow10)] := by kernel_rfl
  have e2 : (Rows.fnAddrsRow.laid.filter fun x => x.1 == "math/bits.deBruijn64tab") = [("math/bits.deBruijn64tab", Rows.laid_math_bits_deBruijn64tab)] := by kernel_rfl
  rw [e1] at h1
  rw [e2] at h2
  have t1 : Lib.TabIs Tryd.prog W "internal/strconv.uint64pow10" .u64 Lib.pow10Tab :=
    Lib.tabIs_of_head (rest := []) gpow (by kernel_rfl) Tryd.underlying140 Tryd.underlying54 (by kernel_rfl) (by kernel_rfl) h1
  have t2 : Lib.TabIs Tryd.prog W "math/bits.deBruijn64tab" .u8 [0, 1, 56, 2, 57, 49, 28, 3, 61, 58, 42, 50, 38, 29, 17, 4, 62, 47, 59, 36, 45, 43, 51, 22, 53, 39, 33, 30, 24, 18, 12, 5, 63, 55, 48, 27, 60, 41, 37, 16, 46, 35, 44, 21, 52, 32, 23, 11, 54, 26, 40, 15, 34, 20, 31, 10, 25, 14, 19, 9, 13, 8, 7, 6] :=
    Lib.tabIs_of_head (rest := []) g64 (by kernel_rfl) Tryd.underlying150 Tryd.underlying5 (by kernel_rfl) (by kernel_rfl) h2
  have c : W.cell? ⟨5, 15, none⟩ = some (.int .u8 4) := t2.cell g64 15 (by decide)
  exact ⟨t1, c, by have := World.block_lt_of_cell? W _ c; exact this⟩

set_option maxRecDepth 100000 in
theorem contractT (H : Type) (enc : TypeId × Value → H) (W : World) (base : Nat) (args : Array Value) (ds gs : List (DataW H)) (before : List MemPlace)
    (hval : ∀ (j : Nat) t v, Tryd.f3.params[j]? = some t → args[j]? = some v → Value.okWide Tryd.prog W .any base t v)
    (hW : DataW.Whole enc Tryd.prog Tryd.f3.params.toList Rows.fnAddrsSpec.vars false W args.toList ds gs before) (hL : laidMetH Tryd.prog Rows.fnAddrsRow.laid W) :
    Calls Tryd.prog 3 args W fun e W' => ∃ v, e = .returned v ∧ Rows.fnAddrsSpec.post enc Tryd.prog Tryd.f3 false true false false W args v W' := by
  have hW' := hW
  obtain ⟨p, q, hA0, hV, rfl, _, _⟩ := hW
  have hA : DataW.TrodAll enc Tryd.prog W 0 (fun _ => true) true Tryd.f3.params.toList args.toList ds p := hA0
  rw [Tryd.params3] at hA hval
  obtain ⟨v0, d0, rfl, rfl, h0⟩ := trodAll_one hA
  obtain ⟨rfl, rfl⟩ := trodVars_none hV
  obtain ⟨a0, len, cap, rfl⟩ := okWide_slice Tryd.underlying22 (hval 0 22 v0 rfl rfl)
  clear hA0
  simp only [List.append_nil] at hW'
  have hlt : ∀ x ∈ p, x.block < W.heap.size := fun x hx => by simpa using hW'.lt x hx
  refine (lawAddrs_all a0 len cap W (bytes_open h0) (tabs hL)).mono fun e W' ⟨he, hb⟩ => ?_
  subst he
  exact ⟨_, rfl, ⟨_, _, _, [], p, [], hW', trodAll_mk1 (shut_bool Tryd.underlying4 true), trodAll_mk1 (Below.trod Tryd.laidOutW (by kernel_rfl) (of_decide_eq_true (by kernel_rfl)) h0 hb hlt), rfl, hb.frame _, fun h => by cases h⟩⟩

/-- A block of cells laid anew. -/
def layAs (cs : Array Value) : Obj → Obj
  | .cells _ t frozen => .cells cs t frozen
  | o => o
/-- A world for the witness: the settled one, the tables holding what their initialisers lay. -/
noncomputable def laidWorld (os : Os) : World :=
  { World.holding Tryd.prog os ⟨#[], #[], []⟩ with heap := (((World.holding Tryd.prog os ⟨#[], #[], []⟩).heap.modify 4 (layAs #[.int .u8 0, .int .u8 1, .int .u8 28, .int .u8 2, .int .u8 29, .int .u8 14, .int .u8 24, .int .u8 3, .int .u8 30, .int .u8 22, .int .u8 20, .int .u8 15, .int .u8 25, .int .u8 17, .int .u8 4, .int .u8 8, .int .u8 31, .int .u8 27, .int .u8 13, .int .u8 23, .int .u8 21, .int .u8 19, .int .u8 16, .int .u8 7, .int .u8 26, .int .u8 12, .int .u8 18, .int .u8 6, .int .u8 11, .int .u8 5, .int .u8 10, .int .u8 9])).modify 5 (layAs #[.int .u8 0, .int .u8 1, .int .u8 56, .int .u8 2, .int .u8 57, .int .u8 49, .int .u8 28, .int .u8 3, .int .u8 61, .int .u8 58, .int .u8 42, .int .u8 50, .int .u8 38, .int .u8 29, .int .u8 17, .int .u8 4, .int .u8 62, .int .u8 47, .int .u8 59, .int .u8 36, .int .u8 45, .int .u8 43, .int .u8 51, .int .u8 22, .int .u8 53, .int .u8 39, .int .u8 33, .int .u8 30, .int .u8 24, .int .u8 18, .int .u8 12, .int .u8 5, .int .u8 63, .int .u8 55, .int .u8 48, .int .u8 27, .int .u8 60, .int .u8 41, .int .u8 37, .int .u8 16, .int .u8 46, .int .u8 35, .int .u8 44, .int .u8 21, .int .u8 52, .int .u8 32, .int .u8 23, .int .u8 11, .int .u8 54, .int .u8 26, .int .u8 40, .int .u8 15, .int .u8 34, .int .u8 20, .int .u8 31, .int .u8 10, .int .u8 25, .int .u8 14, .int .u8 19, .int .u8 9, .int .u8 13, .int .u8 8, .int .u8 7, .int .u8 6])).modify 3 (layAs #[.int .u64 1, .int .u64 10, .int .u64 100, .int .u64 1000, .int .u64 10000, .int .u64 100000, .int .u64 1000000, .int .u64 10000000, .int .u64 100000000, .int .u64 1000000000, .int .u64 10000000000, .int .u64 100000000000, .int .u64 1000000000000, .int .u64 10000000000000, .int .u64 100000000000000, .int .u64 1000000000000000, .int .u64 10000000000000000, .int .u64 100000000000000000, .int .u64 1000000000000000000, .int .u64 10000000000000000000]) }
theorem laid_met (os : Os) : laidMet Tryd.prog Rows.fnAddrsRow.laid ((laidWorld os).forCall (fun _ _ => 0) ⟨#[], #[.slice none 0 0], []⟩).memory :=
  laidMet_of_run' 8 (by kernel_rfl) (by kernel_rfl)
theorem reads (os : Os) {H : Type} (enc : TypeId × Value → H) : ∃ places, DataW.whole enc Tryd.prog ((laidWorld os).forCall (fun _ _ => 0) ⟨#[], #[.slice none 0 0], []⟩).memory Tryd.f3.params.toList Rows.fnAddrsSpec.vars false (#[.slice none 0 0] : Array Value).toList 8 = some ([.nil], [], places) :=
  ⟨[], by kernel_rfl⟩

set_option maxRecDepth 100000 in
theorem liftedT (os : Os) (started : os.Started) (H : Type) (enc : TypeId × Value → H) (F : Stop.Interp) :
    ReturnsInHanded {} Tryd.checked os 3 .any ((OpenSpec.ofChange Rows.fnAddrsSpec).preRow enc Tryd.prog Tryd.f3 Rows.fnAddrsRow.domain false Rows.fnAddrsRow.laid) (((OpenSpec.ofChange Rows.fnAddrsSpec).at F).post enc Tryd.prog Tryd.f3 false true false false) := by
  obtain ⟨places, hx⟩ := reads os enc
  refine returnsInHanded_of_row (C := Tryd.checked) (s := OpenSpec.ofChange Rows.fnAddrsSpec) ownT started (by kernel_rfl) Tryd.func3
    (witness_row_at (enc := enc) (C := Tryd.checked) false (laidWorld os) #[.slice none 0 0] rfl (by kernel_rfl) (by kernel_rfl) (by kernel_rfl)
      (OpenSpec.preRow_of_cond 8 hx (by kernel_rfl) (fun k hk => by cases hk) (by kernel_rfl) (laid_met os))) ?_
  intro W base args ds gs before hval hW _ _ _ hL _ _
  exact contractT H enc W base args ds gs before hval hW hL

theorem saidT : Rows.FnAddrsSaid :=
  OpenClaim.holds_of_cond 3 Tryd.f3 rfl rfl rfl rfl rfl rfl rfl ⟨rfl, rfl, rfl, rfl, rfl⟩ rfl rfl rfl rfl rfl (by kernel_rfl) Tryd.func3 (by kernel_rfl)
    (of_decide_eq_true (by kernel_rfl)) (by unfold Func.isWrapper; rw [if_neg (of_decide_eq_false (by kernel_rfl))]; exact ⟨rfl, rfl⟩)
    (fun os started H enc _ F => by rw [OpenClaim.pre_eq_preRow]; exact liftedT os started H enc F)

theorem plainT (f : FuncId) (fn : Func) (hf : Tryd.pinned.checked.prog.funcNamed "loop.example/g00113/laws.FnAddrs" = some f) (hfn : Tryd.pinned.checked.prog.funcs[f]? = some fn) :
    true = Tryd.pinned.checked.prog.looks [] ∧ ∀ (j : Nat) t, fn.params[j]? = some t → Tryd.pinned.checked.prog.wantsStandIn t = false := by
  obtain rfl : f = 3 := Option.some.inj ((show Tryd.prog.funcNamed "loop.example/g00113/laws.FnAddrs" = some 3 by kernel_rfl).symm.trans hf) |>.symm
  obtain rfl : fn = Tryd.f3 := (Option.some.inj (Tryd.func3.symm.trans hfn)).symm
  refine ⟨by kernel_rfl, fun j t ht => ?_⟩
  rw [Tryd.params3] at ht
  obtain rfl : t = 22 := by simpa using Array.mem_of_getElem? ht
  exact (show Tryd.prog.wantsStandIn 22 = false by kernel_rfl)

theorem addrs_card : Rows.FnAddrsCardSaid :=
  Claim7.holds_tied_plain_at .later [] _ _ _ _ saidT (fun _ h => by cases h) (by kernel_rfl) (fun _ h => by cases h) fnAddrs_row_tie rfl ⟨rfl, rfl⟩ (by kernel_rfl) rfl plainT (by kernel_rfl)

end Go.Proofs.YtofnnpjadehgmaaDoor
