/-
  For every code the law FnFiles answers yes: behind a sync a crash takes nothing of a drawn file; ahead of it, a beginning stays that has all that was sure; no condition.
-/
import Derived.Test.YtfhlplpiojhhmaaWDrFl
import Derived.Test.YtfhlplpiojhhmaaK11F
import Derived.Test.YtfhlplpiojhhmaaTkB
import Derived.Test.YtfhlplpiojhhmaaWLift
namespace Go.Proofs.Ytfhlplpiojhhmaa
open Go.ChangeShapes Go.WideShapes Go.ChangeAt Go.RowKit Go.Joins Go.Deep

set_option maxRecDepth 10000 in
set_option maxHeartbeats 8000000 in
theorem lawFiles (a : Option Addr) (len cap : Nat) (w : World) (hB : Bytes w a len) (hl : len ≤ 1048576) :
    Calls Try.prog 3 #[.slice a len cap] w fun e w' => e = .returned (.bool true) ∧ Below w.heap.size w w' := by
  have HBy := hidP hB
  clear hB
  have hbig : ∀ wx : World, Calls Try.prog 7 #[.slice a len cap] wx fun e w' => e = .returned (.bool false) ∧ wx = w' := fun wx => by
    have d : decide ((1048576 : Int) < (len : Int)) = false := decide_eq_false (by omega)
    go_enter Try.func7, Try.ntmps7
    go_wp2
    go_ret
    exact ⟨rfl, rfl⟩
  have HG := hidP hbig
  clear hbig
  go_enter Try.func3, Try.ntmps3
  go_wp2_with fail
  refine (HG.out _).mono ?_
  rintro e w0 ⟨rfl, rfl⟩
  go_wp2_with fail
  refine (drawFileCrash_any a len cap w HBy.out hl).mono ?_
  rintro e w1 ⟨g, n, d, N, K, zs, hn, hn2, hN1, hN2, hK1, hK2, rfl, hown, hb1⟩
  have HCp := hidP hown.caps.2.1
  have OX := hidP hown
  have HN := hidP hn
  clear hown hn HBy HG hl
  have acc_w1 := hidP (hb1)
  have sz_w1 : Hid (w.heap.size ≤ w1.heap.size) := hidP hb1.size
  clear hb1 
  have oF_w1 := hidP (OX.out)
  have lhF : Hid (∀ k, (Value.slice (some ⟨g, 0, none⟩) n d).ownBlock = some k → w.heap.size ≤ k ∧ k < w1.heap.size) := hidP (fun k hk => OwnG.lt oF_w1.out k hk)
  clear OX
  go_wp2_with fail
  obtain ⟨fb0_W2, fb1_W2⟩ := box2D w1 25 (.slice (some ⟨g, 0, none⟩) n d) (.int .i64 N)
  have fbF_W2 : ∀ o, (w1.alloc (.cells #[.slice (some ⟨g, 0, none⟩) n d, .int .i64 N] 25)).frozen? ⟨w1.heap.size, o, none⟩ = false := fun o => by simp [go_sem]
  have fbL_W2 : w1.heap.size < (w1.alloc (.cells #[.slice (some ⟨g, 0, none⟩) n d, .int .i64 N] 25)).heap.size := by simp
  have ab_W2 := alloc_below w1 (.cells #[.slice (some ⟨g, 0, none⟩) n d, .int .i64 N] 25)
  have as_W2 : Hid ((w1.alloc (.cells #[.slice (some ⟨g, 0, none⟩) n d, .int .i64 N] 25)).heap.size = w1.heap.size + 1) := hidP (by simp)
  generalize w1.alloc (.cells #[.slice (some ⟨g, 0, none⟩) n d, .int .i64 N] 25) = W2 at *
  have oF_W2 := hidP (OwnG.later oF_w1.out ab_W2)
  have acc_W2 := hidP (acc_w1.out.trans (ab_W2.mono acc_w1.out.size))
  have sz_W2 : Hid (w1.heap.size ≤ W2.heap.size) := hidP ab_W2.size
  clear ab_W2 oF_w1 acc_w1
  cases hr : okF n N
  · have HS := hidP (fun W => sFileOk_any (some ⟨g, 0, none⟩) n d N W)
    have HI := hidP (fun W => iFileOk_any (some ⟨g, 0, none⟩) n d N W)
    rw [hr] at HS HI
    clear hr
    refine (HS.out _).mono ?_
    rintro e w3 ⟨rfl, hb3⟩
    have fb0_w3 := (hb3.cell fbL_W2).trans fb0_W2
    have fb1_w3 := (hb3.cell fbL_W2).trans fb1_W2
    have fbF_w3 : ∀ o, w3.frozen? ⟨w1.heap.size, o, none⟩ = false := fun o => (hb3.frozen fbL_W2).trans (fbF_W2 o)
    have fbL_w3 : w1.heap.size < w3.heap.size := Nat.lt_of_lt_of_le fbL_W2 hb3.size
    have oF_w3 := hidP (OwnG.later oF_W2.out hb3)
    have acc_w3 := hidP (acc_W2.out.trans (hb3.mono acc_W2.out.size))
    have sz_w3 : Hid (W2.heap.size ≤ w3.heap.size) := hidP hb3.size
    clear hb3 fb0_W2 fb1_W2 fbF_W2 fbL_W2 oF_W2 acc_W2
    go_wp2_with fail
    refine (HI.out _).mono ?_
    rintro e w4 ⟨rfl, hb4⟩
    have fb0_w4 := (hb4.cell fbL_w3).trans fb0_w3
    have fb1_w4 := (hb4.cell fbL_w3).trans fb1_w3
    have fbF_w4 : ∀ o, w4.frozen? ⟨w1.heap.size, o, none⟩ = false := fun o => (hb4.frozen fbL_w3).trans (fbF_w3 o)
    have fbL_w4 : w1.heap.size < w4.heap.size := Nat.lt_of_lt_of_le fbL_w3 hb4.size
    have oF_w4 := hidP (OwnG.later oF_w3.out hb4)
    have acc_w4 := hidP (acc_w3.out.trans (hb4.mono acc_w3.out.size))
    have sz_w4 : Hid (w3.heap.size ≤ w4.heap.size) := hidP hb4.size
    clear hb4 fb0_w3 fb1_w3 fbF_w3 fbL_w3 oF_w3 acc_w3
    go_wp2_with fail
    go_ret
    exact ⟨rfl, acc_w4.out⟩
  · have HS := hidP (fun W => sFileOk_any (some ⟨g, 0, none⟩) n d N W)
    have HI := hidP (fun W => iFileOk_any (some ⟨g, 0, none⟩) n d N W)
    rw [hr] at HS HI
    have hn9 : n ≤ 1048576 := by omega
    obtain ⟨L, hL1, hL2, hCr⟩ := crash_of n N zs HN.out hn9 K hr
    have HCr := hidP hCr
    have HSy := hidP (fun W e1 => iSync_any (some ⟨g, 0, none⟩) n d N zs W HN.out e1 hn9)
    have okn : okF n n = true := okF_of (by omega) (Int.le_refl _) (by omega)
    have HCs := hidP (fun a c W e1 => iCr_end a n c n zs W HN.out e1 hn9 K okn rfl)
    have HSm := hidP (fun a b c e W e1 e2 => sameG a b n c e zs W HN.out e1 e2 hn9)
    have hLl : L = (zs.take L).length := by rw [List.length_take]; have := HN.out; omega
    have HSl := hidP (fun a b c e W e1 e2 => sameG a b L c e (zs.take L) W hLl e1 e2 (by omega))
    have HAd := hidP (fun W b m c bs hm e1 e2 hd hb => iAd_yes (some ⟨g, 0, none⟩) n d N zs W HN.out e1 b m c bs hm e2 (fun h => by cases h) hd hr hb)
    have e1 : decide ((L : Int) < N) = false := decide_eq_false (by omega)
    have e2 : decide ((n : Int) < (L : Int)) = false := decide_eq_false (by omega)
    have e2b : decide (n < L) = false := decide_eq_false (by omega)
    have e2c : ¬ (n < L) := by omega
    have e2d : ¬ ((n : Int) < (L : Int)) := by omega
    have e3 : ((L : Int) != (L : Int)) = false := by simp
    have e4 : ((L : Int)).toNat = L := by omega
    have e5 : 0 ≤ (L : Int) := by omega
    have e6 : (L : Int) ≤ (d : Int) := by have := HCp.out; have := HN.out; omega
    have e7 : L ≤ d := by omega
    have e8 : IntKind.i64.wrap ((n : Int) + 3) = (n : Int) + 3 := by rw [IntKind.wrap_i64]; omega
    have e9 : (N == N) = true := by simp
    have hfd : ∀ (x : Option Addr) (y : Nat) (W : World), (Instr.field 25 (.agg #[.slice x n y, .int .i64 n]) 0).run Try.prog W = .ok (.slice x n y) W := fun _ _ _ => by kernel_rfl
    clear hr hCr okn hLl
    refine (HS.out _).mono ?_
    rintro e w3 ⟨rfl, hb3⟩
    have fb0_w3 := (hb3.cell fbL_W2).trans fb0_W2
    have fb1_w3 := (hb3.cell fbL_W2).trans fb1_W2
    have fbF_w3 : ∀ o, w3.frozen? ⟨w1.heap.size, o, none⟩ = false := fun o => (hb3.frozen fbL_W2).trans (fbF_W2 o)
    have fbL_w3 : w1.heap.size < w3.heap.size := Nat.lt_of_lt_of_le fbL_W2 hb3.size
    have oF_w3 := hidP (OwnG.later oF_W2.out hb3)
    have acc_w3 := hidP (acc_W2.out.trans (hb3.mono acc_W2.out.size))
    have sz_w3 : Hid (W2.heap.size ≤ w3.heap.size) := hidP hb3.size
    clear hb3 fb0_W2 fb1_W2 fbF_W2 fbL_W2 oF_W2 acc_W2
    go_wp2_with fail
    refine (HSy.out _ oF_w3.out.row).mono ?_
    rintro e w4 ⟨a4, c4, rfl, og4, hb4⟩
    have OS := hidP og4
    clear og4
    have fb0_w4 := (hb4.cell fbL_w3).trans fb0_w3
    have fb1_w4 := (hb4.cell fbL_w3).trans fb1_w3
    have fbF_w4 : ∀ o, w4.frozen? ⟨w1.heap.size, o, none⟩ = false := fun o => (hb4.frozen fbL_w3).trans (fbF_w3 o)
    have fbL_w4 : w1.heap.size < w4.heap.size := Nat.lt_of_lt_of_le fbL_w3 hb4.size
    have oF_w4 := hidP (OwnG.later oF_w3.out hb4)
    have acc_w4 := hidP (acc_w3.out.trans (hb4.mono acc_w3.out.size))
    have sz_w4 : Hid (w3.heap.size ≤ w4.heap.size) := hidP hb4.size
    clear hb4 fb0_w3 fb1_w3 fbF_w3 fbL_w3 oF_w3 acc_w3
    have oS_w4 := hidP (OS.out)
    have lhS : Hid (∀ k, (Value.slice a4 n c4).ownBlock = some k → w3.heap.size ≤ k ∧ k < w4.heap.size) := hidP (fun k hk => OwnG.lt oS_w4.out k hk)
    clear OS
    go_wp2_with fail
    obtain ⟨sb0_W5, sb1_W5⟩ := box2D w4 25 (.slice a4 n c4) (.int .i64 n)
    have sbF_W5 : ∀ o, (w4.alloc (.cells #[.slice a4 n c4, .int .i64 n] 25)).frozen? ⟨w4.heap.size, o, none⟩ = false := fun o => by simp [go_sem]
    have sbL_W5 : w4.heap.size < (w4.alloc (.cells #[.slice a4 n c4, .int .i64 n] 25)).heap.size := by simp
    have ab_W5 := alloc_below w4 (.cells #[.slice a4 n c4, .int .i64 n] 25)
    have as_W5 : Hid ((w4.alloc (.cells #[.slice a4 n c4, .int .i64 n] 25)).heap.size = w4.heap.size + 1) := hidP (by simp)
    generalize w4.alloc (.cells #[.slice a4 n c4, .int .i64 n] 25) = W5 at *
    have fb0_W5 := (ab_W5.cell fbL_w4).trans fb0_w4
    have fb1_W5 := (ab_W5.cell fbL_w4).trans fb1_w4
    have fbF_W5 : ∀ o, W5.frozen? ⟨w1.heap.size, o, none⟩ = false := fun o => (ab_W5.frozen fbL_w4).trans (fbF_w4 o)
    have fbL_W5 : w1.heap.size < W5.heap.size := Nat.lt_of_lt_of_le fbL_w4 ab_W5.size
    have oF_W5 := hidP (OwnG.later oF_w4.out ab_W5)
    have oS_W5 := hidP (OwnG.later oS_w4.out ab_W5)
    have acc_W5 := hidP (acc_w4.out.trans (ab_W5.mono acc_w4.out.size))
    have sz_W5 : Hid (w4.heap.size ≤ W5.heap.size) := hidP ab_W5.size
    clear ab_W5 fb0_w4 fb1_w4 fbF_w4 fbL_w4 oF_w4 oS_w4 acc_w4
    refine (HCr.out _ _ _ (by have := HCp.out; have := HN.out; omega) oF_W5.out.row).mono ?_
    rintro e w6 ⟨a6, c6, rfl, og6, hb6⟩
    have OC := hidP og6
    clear og6
    have fb0_w6 := (hb6.cell fbL_W5).trans fb0_W5
    have fb1_w6 := (hb6.cell fbL_W5).trans fb1_W5
    have fbF_w6 : ∀ o, w6.frozen? ⟨w1.heap.size, o, none⟩ = false := fun o => (hb6.frozen fbL_W5).trans (fbF_W5 o)
    have fbL_w6 : w1.heap.size < w6.heap.size := Nat.lt_of_lt_of_le fbL_W5 hb6.size
    have sb0_w6 := (hb6.cell sbL_W5).trans sb0_W5
    have sb1_w6 := (hb6.cell sbL_W5).trans sb1_W5
    have sbF_w6 : ∀ o, w6.frozen? ⟨w4.heap.size, o, none⟩ = false := fun o => (hb6.frozen sbL_W5).trans (sbF_W5 o)
    have sbL_w6 : w4.heap.size < w6.heap.size := Nat.lt_of_lt_of_le sbL_W5 hb6.size
    have oF_w6 := hidP (OwnG.later oF_W5.out hb6)
    have oS_w6 := hidP (OwnG.later oS_W5.out hb6)
    have acc_w6 := hidP (acc_W5.out.trans (hb6.mono acc_W5.out.size))
    have sz_w6 : Hid (W5.heap.size ≤ w6.heap.size) := hidP hb6.size
    clear hb6 fb0_W5 fb1_W5 fbF_W5 fbL_W5 sb0_W5 sb1_W5 sbF_W5 sbL_W5 oF_W5 oS_W5 acc_W5
    have oX_w6 := hidP (OC.out)
    have lhX : Hid (∀ k, (Value.slice a6 L c6).ownBlock = some k → W5.heap.size ≤ k ∧ k < w6.heap.size) := hidP (fun k hk => OwnG.lt oX_w6.out k hk)
    clear OC
    go_wp2_with fail
    obtain ⟨xb0_W7, xb1_W7⟩ := box2D w6 25 (.slice a6 L c6) (.int .i64 L)
    have xbF_W7 : ∀ o, (w6.alloc (.cells #[.slice a6 L c6, .int .i64 L] 25)).frozen? ⟨w6.heap.size, o, none⟩ = false := fun o => by simp [go_sem]
    have xbL_W7 : w6.heap.size < (w6.alloc (.cells #[.slice a6 L c6, .int .i64 L] 25)).heap.size := by simp
    have ab_W7 := alloc_below w6 (.cells #[.slice a6 L c6, .int .i64 L] 25)
    have as_W7 : Hid ((w6.alloc (.cells #[.slice a6 L c6, .int .i64 L] 25)).heap.size = w6.heap.size + 1) := hidP (by simp)
    generalize w6.alloc (.cells #[.slice a6 L c6, .int .i64 L] 25) = W7 at *
    have fb0_W7 := (ab_W7.cell fbL_w6).trans fb0_w6
    have fb1_W7 := (ab_W7.cell fbL_w6).trans fb1_w6
    have fbF_W7 : ∀ o, W7.frozen? ⟨w1.heap.size, o, none⟩ = false := fun o => (ab_W7.frozen fbL_w6).trans (fbF_w6 o)
    have fbL_W7 : w1.heap.size < W7.heap.size := Nat.lt_of_lt_of_le fbL_w6 ab_W7.size
    have sb0_W7 := (ab_W7.cell sbL_w6).trans sb0_w6
    have sb1_W7 := (ab_W7.cell sbL_w6).trans sb1_w6
    have sbF_W7 : ∀ o, W7.frozen? ⟨w4.heap.size, o, none⟩ = false := fun o => (ab_W7.frozen sbL_w6).trans (sbF_w6 o)
    have sbL_W7 : w4.heap.size < W7.heap.size := Nat.lt_of_lt_of_le sbL_w6 ab_W7.size
    have oF_W7 := hidP (OwnG.later oF_w6.out ab_W7)
    have oS_W7 := hidP (OwnG.later oS_w6.out ab_W7)
    have oX_W7 := hidP (OwnG.later oX_w6.out ab_W7)
    have acc_W7 := hidP (acc_w6.out.trans (ab_W7.mono acc_w6.out.size))
    have sz_W7 : Hid (w6.heap.size ≤ W7.heap.size) := hidP ab_W7.size
    clear ab_W7 fb0_w6 fb1_w6 fbF_w6 fbL_w6 sb0_w6 sb1_w6 sbF_w6 sbL_w6 oF_w6 oS_w6 oX_w6 acc_w6
    have HSx : Hid (∀ x, Below W7.heap.size W7 x → (x.cell? ⟨w1.heap.size, 0, none⟩ = some (.slice (some ⟨g, 0, none⟩) n d) ∧ x.cell? ⟨w1.heap.size, 1, none⟩ = some (.int .i64 N) ∧ x.cell? ⟨w4.heap.size, 0, none⟩ = some (.slice a4 n c4) ∧ x.cell? ⟨w4.heap.size, 1, none⟩ = some (.int .i64 n) ∧ x.cell? ⟨w6.heap.size, 0, none⟩ = some (.slice a6 L c6) ∧ x.cell? ⟨w6.heap.size, 1, none⟩ = some (.int .i64 L) ∧ Below W7.heap.size W7 x)) := hidP fun x h =>
      ⟨(h.cell fbL_W7).trans fb0_W7, (h.cell fbL_W7).trans fb1_W7, (h.cell sbL_W7).trans sb0_W7, (h.cell sbL_W7).trans sb1_W7, (h.cell xbL_W7).trans xb0_W7, (h.cell xbL_W7).trans xb1_W7, h⟩
    refine wp_region_held_drew (S := (fun x => x.cell? ⟨w1.heap.size, 0, none⟩ = some (.slice (some ⟨g, 0, none⟩) n d) ∧ x.cell? ⟨w1.heap.size, 1, none⟩ = some (.int .i64 N) ∧ x.cell? ⟨w4.heap.size, 0, none⟩ = some (.slice a4 n c4) ∧ x.cell? ⟨w4.heap.size, 1, none⟩ = some (.int .i64 n) ∧ x.cell? ⟨w6.heap.size, 0, none⟩ = some (.slice a6 L c6) ∧ x.cell? ⟨w6.heap.size, 1, none⟩ = some (.int .i64 L) ∧ Below W7.heap.size W7 x)) (by kernel_rfl) ?_ (fun hHeld => ?_)
    · try dsimp only
      exact HSx.out _ ((Below.refl _ _).drew)
    refine tk 0 27 rfl ?_
    simp only [pa]
    refine wpAnyH_ready (rs := [1]) (by kernel_rfl) (by simp) ?_
    refine AllReadyH.cons rfl (fun K hK => ?_) AllReadyH.nil
    go_simp
    go_wp2_with (first | (go_at_call 10; refine (HI.out _).mono ?_; rintro e w8 ⟨rfl, hb8⟩; have b8 := (hHeld.2.2.2.2.2.2).trans (hb8.mono (hHeld.2.2.2.2.2.2).size)))
    refine hK.out _ _ ?_ (fun hHeld => ?_)
    · try dsimp only
      exact HSx.out _ b8
    clear hK K
    refine tk 2 29 rfl ?_
    simp only [pa]
    refine tk 3 30 rfl ?_
    simp only [pa]
    refine tk 4 31 rfl ?_
    simp only [pa]
    refine tk 5 32 rfl ?_
    simp only [pa]
    refine tk 8 35 rfl ?_
    simp only [pa]
    refine tk 9 36 rfl ?_
    simp only [pa]
    refine wpAnyH_ready (rs := [6]) (by kernel_rfl) (by simp) ?_
    refine AllReadyH.cons rfl (fun K hK => ?_) AllReadyH.nil
    go_simp
    go_wp2_with (first | (go_at_call 12; refine (HCs.out _ _ _ (oS_W7.out.row.later (hHeld.2.2.2.2.2.2))).mono ?_; rintro e w9 ⟨a9, c9, rfl, og9, hb9⟩; have b9 := (hHeld.2.2.2.2.2.2).trans (hb9.mono (hHeld.2.2.2.2.2.2).size)))
    refine hK.out _ _ ?_ (fun hHeld => ?_)
    · try dsimp only
      exact HSx.out _ b9
    clear hK K
    refine tk 7 34 rfl ?_
    simp only [pa]
    refine wpAnyH_ready (rs := [10]) (by kernel_rfl) (by simp) ?_
    refine AllReadyH.cons rfl (fun K hK => ?_) AllReadyH.nil
    go_simp
    go_wp2_with (first | (go_at_call 13; refine (HSm.out _ _ _ _ _ og9.row (oF_W7.out.row.later (hHeld.2.2.2.2.2.2))).mono ?_; rintro e w10 ⟨rfl, hb10⟩; have b10 := (hHeld.2.2.2.2.2.2).trans (hb10.mono (hHeld.2.2.2.2.2.2).size)))
    refine hK.out _ _ ?_ (fun hHeld => ?_)
    · try dsimp only
      exact HSx.out _ b10
    clear hK K
    refine tk 11 38 rfl ?_
    simp only [pa]
    refine tk 12 39 rfl ?_
    simp only [pa]
    refine tk 13 40 rfl ?_
    simp only [pa]
    refine tk 14 41 rfl ?_
    simp only [pa]
    refine tk 15 42 rfl ?_
    simp only [pa]
    refine tk 16 43 rfl ?_
    simp only [pa]
    refine tk 17 44 rfl ?_
    simp only [pa]
    refine tk 18 45 rfl ?_
    simp only [pa]
    refine tk 19 46 rfl ?_
    simp only [pa]
    refine tk 20 47 rfl ?_
    simp only [pa]
    refine tk 21 48 rfl ?_
    simp only [pa]
    refine tk 22 49 rfl ?_
    simp only [pa]
    refine tk 23 50 rfl ?_
    simp only [pa]
    refine tk 24 51 rfl ?_
    simp only [pa]
    refine tk 25 52 rfl ?_
    simp only [pa]
    refine tk 26 53 rfl ?_
    simp only [pa]
    refine tk 27 54 rfl ?_
    simp only [pa]
    refine tk 28 55 rfl ?_
    simp only [pa]
    refine tk 29 56 rfl ?_
    simp only [pa]
    refine tk 30 57 rfl ?_
    simp only [pa]
    refine tk 31 58 rfl ?_
    simp only [pa]
    refine tk 32 59 rfl ?_
    simp only [pa]
    refine tk 33 60 rfl ?_
    simp only [pa]
    refine tk 34 61 rfl ?_
    simp only [pa]
    refine tk 35 62 rfl ?_
    simp only [pa]
    refine tk 36 63 rfl ?_
    simp only [pa]
    refine tk 37 64 rfl ?_
    simp only [pa]
    have HE := hidP (hHeld.2.2.2.2.2.2)
    refine wpAnyH_done (by kernel_rfl) ?_ _
    clear hHeld
    clear og9
    have hbE := HE.out
    clear HE
    have fb0_w10 := (hbE.cell fbL_W7).trans fb0_W7
    have fb1_w10 := (hbE.cell fbL_W7).trans fb1_W7
    have fbF_w10 : ∀ o, w10.frozen? ⟨w1.heap.size, o, none⟩ = false := fun o => (hbE.frozen fbL_W7).trans (fbF_W7 o)
    have fbL_w10 : w1.heap.size < w10.heap.size := Nat.lt_of_lt_of_le fbL_W7 hbE.size
    have sb0_w10 := (hbE.cell sbL_W7).trans sb0_W7
    have sb1_w10 := (hbE.cell sbL_W7).trans sb1_W7
    have sbF_w10 : ∀ o, w10.frozen? ⟨w4.heap.size, o, none⟩ = false := fun o => (hbE.frozen sbL_W7).trans (sbF_W7 o)
    have sbL_w10 : w4.heap.size < w10.heap.size := Nat.lt_of_lt_of_le sbL_W7 hbE.size
    have xb0_w10 := (hbE.cell xbL_W7).trans xb0_W7
    have xb1_w10 := (hbE.cell xbL_W7).trans xb1_W7
    have xbF_w10 : ∀ o, w10.frozen? ⟨w6.heap.size, o, none⟩ = false := fun o => (hbE.frozen xbL_W7).trans (xbF_W7 o)
    have xbL_w10 : w6.heap.size < w10.heap.size := Nat.lt_of_lt_of_le xbL_W7 hbE.size
    have oF_w10 := hidP (OwnG.later oF_W7.out hbE)
    have oS_w10 := hidP (OwnG.later oS_W7.out hbE)
    have oX_w10 := hidP (OwnG.later oX_W7.out hbE)
    have acc_w10 := hidP (acc_W7.out.trans (hbE.mono acc_W7.out.size))
    have sz_w10 : Hid (W7.heap.size ≤ w10.heap.size) := hidP hbE.size
    clear hbE fb0_W7 fb1_W7 fbF_W7 fbL_W7 sb0_W7 sb1_W7 sbF_W7 sbL_W7 xb0_W7 xb1_W7 xbF_W7 xbL_W7 oF_W7 oS_W7 oX_W7 acc_W7
    go_wp2_with fail
    have rl := byt_three w10 1 2 3
    have ab11 := alloc_below w10 (.cells #[.int .u8 1, .int .u8 2, .int .u8 3] 5)
    generalize w10.alloc (.cells #[.int .u8 1, .int .u8 2, .int .u8 3] 5) = W11 at *
    have fb0_W11 := (ab11.cell fbL_w10).trans fb0_w10
    have fb1_W11 := (ab11.cell fbL_w10).trans fb1_w10
    have fbF_W11 : ∀ o, W11.frozen? ⟨w1.heap.size, o, none⟩ = false := fun o => (ab11.frozen fbL_w10).trans (fbF_w10 o)
    have fbL_W11 : w1.heap.size < W11.heap.size := Nat.lt_of_lt_of_le fbL_w10 ab11.size
    have sb0_W11 := (ab11.cell sbL_w10).trans sb0_w10
    have sb1_W11 := (ab11.cell sbL_w10).trans sb1_w10
    have sbF_W11 : ∀ o, W11.frozen? ⟨w4.heap.size, o, none⟩ = false := fun o => (ab11.frozen sbL_w10).trans (sbF_w10 o)
    have sbL_W11 : w4.heap.size < W11.heap.size := Nat.lt_of_lt_of_le sbL_w10 ab11.size
    have xb0_W11 := (ab11.cell xbL_w10).trans xb0_w10
    have xb1_W11 := (ab11.cell xbL_w10).trans xb1_w10
    have xbF_W11 : ∀ o, W11.frozen? ⟨w6.heap.size, o, none⟩ = false := fun o => (ab11.frozen xbL_w10).trans (xbF_w10 o)
    have xbL_W11 : w6.heap.size < W11.heap.size := Nat.lt_of_lt_of_le xbL_w10 ab11.size
    have oF_W11 := hidP (OwnG.later oF_w10.out ab11)
    have oS_W11 := hidP (OwnG.later oS_w10.out ab11)
    have oX_W11 := hidP (OwnG.later oX_w10.out ab11)
    have acc_W11 := hidP (acc_w10.out.trans (ab11.mono acc_w10.out.size))
    have sz_W11 : Hid (w10.heap.size ≤ W11.heap.size) := hidP ab11.size
    clear ab11 fb0_w10 fb1_w10 fbF_w10 fbL_w10 sb0_w10 sb1_w10 sbF_w10 sbL_w10 xb0_w10 xb1_w10 xbF_w10 xbL_w10 oF_w10 oS_w10 oX_w10 acc_w10
    refine (HAd.out _ _ 3 3 [1, 2, 3] rfl oF_W11.out.row rl (fun h => by cases h) (by omega)).mono ?_
    rintro e w12 ⟨a12, c12, rfl, og12, hb12⟩
    clear og12 rl
    have fb0_w12 := (hb12.cell fbL_W11).trans fb0_W11
    have fb1_w12 := (hb12.cell fbL_W11).trans fb1_W11
    have fbF_w12 : ∀ o, w12.frozen? ⟨w1.heap.size, o, none⟩ = false := fun o => (hb12.frozen fbL_W11).trans (fbF_W11 o)
    have fbL_w12 : w1.heap.size < w12.heap.size := Nat.lt_of_lt_of_le fbL_W11 hb12.size
    have sb0_w12 := (hb12.cell sbL_W11).trans sb0_W11
    have sb1_w12 := (hb12.cell sbL_W11).trans sb1_W11
    have sbF_w12 : ∀ o, w12.frozen? ⟨w4.heap.size, o, none⟩ = false := fun o => (hb12.frozen sbL_W11).trans (sbF_W11 o)
    have sbL_w12 : w4.heap.size < w12.heap.size := Nat.lt_of_lt_of_le sbL_W11 hb12.size
    have xb0_w12 := (hb12.cell xbL_W11).trans xb0_W11
    have xb1_w12 := (hb12.cell xbL_W11).trans xb1_W11
    have xbF_w12 : ∀ o, w12.frozen? ⟨w6.heap.size, o, none⟩ = false := fun o => (hb12.frozen xbL_W11).trans (xbF_W11 o)
    have xbL_w12 : w6.heap.size < w12.heap.size := Nat.lt_of_lt_of_le xbL_W11 hb12.size
    have oF_w12 := hidP (OwnG.later oF_W11.out hb12)
    have oS_w12 := hidP (OwnG.later oS_W11.out hb12)
    have oX_w12 := hidP (OwnG.later oX_W11.out hb12)
    have acc_w12 := hidP (acc_W11.out.trans (hb12.mono acc_W11.out.size))
    have sz_w12 : Hid (W11.heap.size ≤ w12.heap.size) := hidP hb12.size
    clear hb12 fb0_W11 fb1_W11 fbF_W11 fbL_W11 sb0_W11 sb1_W11 sbF_W11 sbL_W11 xb0_W11 xb1_W11 xbF_W11 xbL_W11 oF_W11 oS_W11 oX_W11 acc_W11
    go_wp2_with fail
    obtain ⟨gb0_W13, gb1_W13⟩ := box2D w12 25 (.slice a12 (n + 3) c12) (.int .i64 N)
    have gbF_W13 : ∀ o, (w12.alloc (.cells #[.slice a12 (n + 3) c12, .int .i64 N] 25)).frozen? ⟨w12.heap.size, o, none⟩ = false := fun o => by simp [go_sem]
    have gbL_W13 : w12.heap.size < (w12.alloc (.cells #[.slice a12 (n + 3) c12, .int .i64 N] 25)).heap.size := by simp
    have ab_W13 := alloc_below w12 (.cells #[.slice a12 (n + 3) c12, .int .i64 N] 25)
    have as_W13 : Hid ((w12.alloc (.cells #[.slice a12 (n + 3) c12, .int .i64 N] 25)).heap.size = w12.heap.size + 1) := hidP (by simp)
    generalize w12.alloc (.cells #[.slice a12 (n + 3) c12, .int .i64 N] 25) = W13 at *
    have fb0_W13 := (ab_W13.cell fbL_w12).trans fb0_w12
    have fb1_W13 := (ab_W13.cell fbL_w12).trans fb1_w12
    have fbF_W13 : ∀ o, W13.frozen? ⟨w1.heap.size, o, none⟩ = false := fun o => (ab_W13.frozen fbL_w12).trans (fbF_w12 o)
    have fbL_W13 : w1.heap.size < W13.heap.size := Nat.lt_of_lt_of_le fbL_w12 ab_W13.size
    have sb0_W13 := (ab_W13.cell sbL_w12).trans sb0_w12
    have sb1_W13 := (ab_W13.cell sbL_w12).trans sb1_w12
    have sbF_W13 : ∀ o, W13.frozen? ⟨w4.heap.size, o, none⟩ = false := fun o => (ab_W13.frozen sbL_w12).trans (sbF_w12 o)
    have sbL_W13 : w4.heap.size < W13.heap.size := Nat.lt_of_lt_of_le sbL_w12 ab_W13.size
    have xb0_W13 := (ab_W13.cell xbL_w12).trans xb0_w12
    have xb1_W13 := (ab_W13.cell xbL_w12).trans xb1_w12
    have xbF_W13 : ∀ o, W13.frozen? ⟨w6.heap.size, o, none⟩ = false := fun o => (ab_W13.frozen xbL_w12).trans (xbF_w12 o)
    have xbL_W13 : w6.heap.size < W13.heap.size := Nat.lt_of_lt_of_le xbL_w12 ab_W13.size
    have oF_W13 := hidP (OwnG.later oF_w12.out ab_W13)
    have oS_W13 := hidP (OwnG.later oS_w12.out ab_W13)
    have oX_W13 := hidP (OwnG.later oX_w12.out ab_W13)
    have acc_W13 := hidP (acc_w12.out.trans (ab_W13.mono acc_w12.out.size))
    have sz_W13 : Hid (w12.heap.size ≤ W13.heap.size) := hidP ab_W13.size
    clear ab_W13 fb0_w12 fb1_w12 fbF_w12 fbL_w12 sb0_w12 sb1_w12 sbF_w12 sbL_w12 xb0_w12 xb1_w12 xbF_w12 xbL_w12 oF_w12 oS_w12 oX_w12 acc_w12
    have HSx : Hid (∀ x, Below W13.heap.size W13 x → (x.cell? ⟨w1.heap.size, 0, none⟩ = some (.slice (some ⟨g, 0, none⟩) n d) ∧ x.cell? ⟨w1.heap.size, 1, none⟩ = some (.int .i64 N) ∧ x.cell? ⟨w6.heap.size, 0, none⟩ = some (.slice a6 L c6) ∧ x.cell? ⟨w6.heap.size, 1, none⟩ = some (.int .i64 L) ∧ x.cell? ⟨w12.heap.size, 0, none⟩ = some (.slice a12 (n + 3) c12) ∧ x.cell? ⟨w12.heap.size, 1, none⟩ = some (.int .i64 N) ∧ Below W13.heap.size W13 x)) := hidP fun x h =>
      ⟨(h.cell fbL_W13).trans fb0_W13, (h.cell fbL_W13).trans fb1_W13, (h.cell xbL_W13).trans xb0_W13, (h.cell xbL_W13).trans xb1_W13, (h.cell gbL_W13).trans gb0_W13, (h.cell gbL_W13).trans gb1_W13, h⟩
    refine wp_region_held_drew (S := (fun x => x.cell? ⟨w1.heap.size, 0, none⟩ = some (.slice (some ⟨g, 0, none⟩) n d) ∧ x.cell? ⟨w1.heap.size, 1, none⟩ = some (.int .i64 N) ∧ x.cell? ⟨w6.heap.size, 0, none⟩ = some (.slice a6 L c6) ∧ x.cell? ⟨w6.heap.size, 1, none⟩ = some (.int .i64 L) ∧ x.cell? ⟨w12.heap.size, 0, none⟩ = some (.slice a12 (n + 3) c12) ∧ x.cell? ⟨w12.heap.size, 1, none⟩ = some (.int .i64 N) ∧ Below W13.heap.size W13 x)) (by kernel_rfl) ?_ (fun hHeld => ?_)
    · try dsimp only
      exact HSx.out _ ((Below.refl _ _).drew)
    refine tk 0 71 rfl ?_
    simp only [pa]
    refine tk 1 72 rfl ?_
    simp only [pa]
    refine tk 2 73 rfl ?_
    simp only [pa]
    refine tk 3 74 rfl ?_
    simp only [pa]
    refine tk 4 75 rfl ?_
    simp only [pa]
    refine tk 5 76 rfl ?_
    simp only [pa]
    refine tk 6 77 rfl ?_
    simp only [pa]
    refine tk 7 78 rfl ?_
    simp only [pa]
    refine wpAnyH_ready (rs := [8]) (by kernel_rfl) (by simp) ?_
    refine AllReadyH.cons rfl (fun K hK => ?_) AllReadyH.nil
    go_simp
    go_wp2_with (first | (go_at_call 13; refine (HSl.out _ _ _ _ _ (oX_W13.out.row.later (hHeld.2.2.2.2.2.2)) ((oF_W13.out.row.later (hHeld.2.2.2.2.2.2)).take L)).mono ?_; rintro e w14 ⟨rfl, hb14⟩; have b14 := (hHeld.2.2.2.2.2.2).trans (hb14.mono (hHeld.2.2.2.2.2.2).size)))
    refine hK.out _ _ ?_ (fun hHeld => ?_)
    · try dsimp only
      exact HSx.out _ b14
    clear hK K
    refine tk 9 80 rfl ?_
    simp only [pa]
    refine tk 10 81 rfl ?_
    simp only [pa]
    refine tk 11 82 rfl ?_
    simp only [pa]
    refine tk 12 83 rfl ?_
    simp only [pa]
    refine tk 13 84 rfl ?_
    simp only [pa]
    refine tk 14 85 rfl ?_
    simp only [pa]
    refine tk 15 86 rfl ?_
    simp only [pa]
    refine tk 16 87 rfl ?_
    simp only [pa]
    refine tk 17 88 rfl ?_
    simp only [pa]
    refine tk 18 89 rfl ?_
    simp only [pa]
    refine tk 19 90 rfl ?_
    simp only [pa]
    refine tk 20 91 rfl ?_
    simp only [pa]
    refine tk 21 92 rfl ?_
    simp only [pa]
    refine tk 22 93 rfl ?_
    simp only [pa]
    refine tk 23 94 rfl ?_
    simp only [pa]
    refine tk 24 95 rfl ?_
    simp only [pa]
    refine tk 25 96 rfl ?_
    simp only [pa]
    refine tk 26 97 rfl ?_
    simp only [pa]
    refine tk 27 98 rfl ?_
    simp only [pa]
    refine tk 28 99 rfl ?_
    simp only [pa]
    refine tk 29 2 rfl ?_
    simp only [pa]
    have HE := hidP (hHeld.2.2.2.2.2.2)
    refine wpAnyH_done (by kernel_rfl) ?_ _
    clear hHeld
    go_wp2_with fail
    go_ret
    exact ⟨rfl, acc_W13.out.trans (HE.out.mono acc_W13.out.size)⟩

set_option maxHeartbeats 1000000 in
theorem lawFiles_all (a : Option Addr) (len cap : Nat) (w : World) (hB : Bytes w a len) :
    Calls Try.prog 3 #[.slice a len cap] w fun e w' => e = .returned (.bool true) ∧ Below w.heap.size w w' := by
  by_cases hl : len ≤ 1048576
  · exact lawFiles a len cap w hB hl
  · have hbig : ∀ wx : World, Calls Try.prog 7 #[.slice a len cap] wx fun e w' => e = .returned (.bool true) ∧ wx = w' := fun wx => by
      have d : decide ((1048576 : Int) < (len : Int)) = true := decide_eq_true (by omega)
      go_enter Try.func7, Try.ntmps7
      go_wp2
      go_ret
      exact ⟨rfl, rfl⟩
    have HG : Hid (∀ wx : World, _) := hbig
    clear hbig
    go_enter Try.func3, Try.ntmps3
    go_wp2_with fail
    refine (HG.out _).mono ?_
    rintro e w0 ⟨rfl, rfl⟩
    go_wp2_with fail
    go_ret
    exact ⟨rfl, Below.refl _ _⟩

set_option maxRecDepth 100000 in
theorem lawFiles_lifted (os : Os) (started : os.Started) (H : Type) (enc : TypeId × Value → H) :
    ReturnsInHanded {} Try.checked os 3 .any (Rows.fnFilesSpec.pre6 enc Try.prog Try.f3 Rows.fnFilesRow.domain false) (Rows.fnFilesSpec.post enc Try.prog Try.f3 false true false false) := by
  refine returnsInHanded_of_change (C := Try.checked) Try.ownW started (by kernel_rfl) Try.func3
    (ChangeSpec.witness6 (enc := enc) (C := Try.checked) false ⟨#[], #[.slice none 0 0], []⟩ 8 (by kernel_rfl) (by kernel_rfl) (by kernel_rfl) (by kernel_rfl)) ?_
  intro W base args ds gs before hval0 hW _ _
  have hval : ∀ (j : Nat) t v, Try.f3.params[j]? = some t → args[j]? = some v → Value.okWide Try.prog W .any base t v := hval0
  have hW' := hW
  obtain ⟨p, q, hA0, hV, rfl, _, _⟩ := hW
  have hA : DataW.TrodAll enc Try.prog W 0 (fun _ => true) true Try.f3.params.toList args.toList ds p := hA0
  rw [Try.params3] at hA hval
  obtain ⟨v0, d0, rfl, rfl, h0⟩ := trodAll_one hA
  obtain ⟨rfl, rfl⟩ := trodVars_none hV
  obtain ⟨a0, len, cap, rfl⟩ := okWide_slice Try.underlying22 (hval 0 22 v0 rfl rfl)
  clear hA0 hval0
  simp only [List.append_nil] at hW'
  have hlt : ∀ x ∈ p, x.block < W.heap.size := fun x hx => by simpa using hW'.lt x hx
  refine (lawFiles_all a0 len cap W (bytes_open h0)).mono fun e W' ⟨he, hb⟩ => ?_
  subst he
  exact ⟨_, rfl, ⟨_, _, _, [], p, [], hW', trodAll_mk1 (shut_bool Try.underlying4 true), trodAll_mk1 (Below.trod Try.laidOutW (by kernel_rfl) (of_decide_eq_true (by kernel_rfl)) h0 hb hlt), rfl, hb.frame _, fun h => by cases h⟩⟩

theorem lawFiles_holds : Rows.FnFilesSaid :=
  OpenClaim.holds_of_wide 3 Try.f3 rfl rfl rfl rfl rfl rfl rfl ⟨rfl, rfl, rfl, rfl, rfl⟩ rfl rfl rfl rfl rfl (by kernel_rfl) Try.func3 (by kernel_rfl)
    (of_decide_eq_true (by kernel_rfl)) (by unfold Func.isWrapper; rw [if_neg (of_decide_eq_false (by kernel_rfl))]; exact ⟨rfl, rfl⟩)
    (fun os started H enc _ => lawFiles_lifted os started H enc)

end Go.Proofs.Ytfhlplpiojhhmaa
