/-
  The specification's l13Next returns, and leaves all else alone.
-/
import Derived.Test.YtlhddiikbfobjaaZE27
import Derived.Deep.DeepCutAuto
import Derived.Test.YtlhddiikbfobjaaZE1
namespace Go.Proofs.Ytlhddiikbfobjaa
open Go.ChangeShapes Go.WideShapes Go.ChangeAt Go.RowKit Go.Joins Go.Deep

set_option maxRecDepth 10000 in
set_option maxHeartbeats 20000000 in
theorem l13Next_any (c : Nat) (a : Option Addr) (len cap : Nat) (k : Kv) (ss : List Int) (w : World) (hC : Cur w c a len cap) (hr : KC w k ss) (hn : NB k 4) :
    Calls Try.prog 24 #[.pointer (some ⟨c, 0, none⟩), k.v] w fun e w' => (∃ v, e = .returned v ∧ KpV v) ∧ Cur w' c a len cap ∧ Kp c w w' := by
  have hcl := hC.lt
  have HCp := hidP (fun W (hb : Below w.heap.size w W) => l13Copy_any k ss W (hr.later hb) hn.ks)
  have HN := hidP hn
  clear hr hn
  obtain ⟨T, V, B, E, ga, gn, gc, ha, hn, hc, sa, sn, sc, la, ln, lc, ps, bs, es⟩ := k
  try simp only at HCp
  have H1 : Hid (Cur ((w.alloc (.cells #[.int .i64 T, .int .i64 V, .int .i64 B, .int .i64 E, .slice ga gn gc, .slice ha hn hc, .slice sa sn sc, .slice la ln lc] 29)).alloc (.cells #[.int .i64 0, .int .i64 0, .int .i64 0, .int .i64 0, .slice none 0 0, .slice none 0 0, .slice none 0 0, .slice none 0 0] 29)) c a len cap ∧ Kp c (w.alloc (.cells #[.int .i64 T, .int .i64 V, .int .i64 B, .int .i64 E, .slice ga gn gc, .slice ha hn hc, .slice sa sn sc, .slice la ln lc] 29)) ((w.alloc (.cells #[.int .i64 T, .int .i64 V, .int .i64 B, .int .i64 E, .slice ga gn gc, .slice ha hn hc, .slice sa sn sc, .slice la ln lc] 29)).alloc (.cells #[.int .i64 0, .int .i64 0, .int .i64 0, .int .i64 0, .slice none 0 0, .slice none 0 0, .slice none 0 0, .slice none 0 0] 29)) ∧ Bx ((w.alloc (.cells #[.int .i64 T, .int .i64 V, .int .i64 B, .int .i64 E, .slice ga gn gc, .slice ha hn hc, .slice sa sn sc, .slice la ln lc] 29)).alloc (.cells #[.int .i64 0, .int .i64 0, .int .i64 0, .int .i64 0, .slice none 0 0, .slice none 0 0, .slice none 0 0, .slice none 0 0] 29)) (w.alloc (.cells #[.int .i64 T, .int .i64 V, .int .i64 B, .int .i64 E, .slice ga gn gc, .slice ha hn hc, .slice sa sn sc, .slice la ln lc] 29)).heap.size [.int .i64 0, .int .i64 0, .int .i64 0, .int .i64 0, .slice none 0 0, .slice none 0 0, .slice none 0 0, .slice none 0 0] ∧ Below w.heap.size w ((w.alloc (.cells #[.int .i64 T, .int .i64 V, .int .i64 B, .int .i64 E, .slice ga gn gc, .slice ha hn hc, .slice sa sn sc, .slice la ln lc] 29)).alloc (.cells #[.int .i64 0, .int .i64 0, .int .i64 0, .int .i64 0, .slice none 0 0, .slice none 0 0, .slice none 0 0, .slice none 0 0] 29)) ∧ c < (w.alloc (.cells #[.int .i64 T, .int .i64 V, .int .i64 B, .int .i64 E, .slice ga gn gc, .slice ha hn hc, .slice sa sn sc, .slice la ln lc] 29)).heap.size ∧ ((w.alloc (.cells #[.int .i64 T, .int .i64 V, .int .i64 B, .int .i64 E, .slice ga gn gc, .slice ha hn hc, .slice sa sn sc, .slice la ln lc] 29)).alloc (.cells #[.int .i64 0, .int .i64 0, .int .i64 0, .int .i64 0, .slice none 0 0, .slice none 0 0, .slice none 0 0, .slice none 0 0] 29)).heap.size = (w.alloc (.cells #[.int .i64 T, .int .i64 V, .int .i64 B, .int .i64 E, .slice ga gn gc, .slice ha hn hc, .slice sa sn sc, .slice la ln lc] 29)).heap.size + 1 ∧ Kp c w (w.alloc (.cells #[.int .i64 T, .int .i64 V, .int .i64 B, .int .i64 E, .slice ga gn gc, .slice ha hn hc, .slice sa sn sc, .slice la ln lc] 29))) :=
    hidP ⟨(hC.more _).more _, (Kp.refl c _).more (by simp; omega) _, Bx.new (w.alloc (.cells #[.int .i64 T, .int .i64 V, .int .i64 B, .int .i64 E, .slice ga gn gc, .slice ha hn hc, .slice sa sn sc, .slice la ln lc] 29)) [.int .i64 0, .int .i64 0, .int .i64 0, .int .i64 0, .slice none 0 0, .slice none 0 0, .slice none 0 0, .slice none 0 0] 29, (alloc_below w _).trans ((alloc_below _ _).mono (alloc_below w _).size), by simp; omega, by simp, (Kp.refl c _).more hcl _⟩
  clear hC
  go_enter Try.func24, Try.ntmps24
  go_wp2_with fail
  generalize (w.alloc (.cells #[.int .i64 T, .int .i64 V, .int .i64 B, .int .i64 E, .slice ga gn gc, .slice ha hn hc, .slice sa sn sc, .slice la ln lc] 29)).alloc (.cells #[.int .i64 0, .int .i64 0, .int .i64 0, .int .i64 0, .slice none 0 0, .slice none 0 0, .slice none 0 0, .slice none 0 0] 29) = W1 at *
  have hz9 : (w.alloc (.cells #[.int .i64 T, .int .i64 V, .int .i64 B, .int .i64 E, .slice ga gn gc, .slice ha hn hc, .slice sa sn sc, .slice la ln lc] 29)).heap.size = w.heap.size + 1 := by simp
  generalize w.alloc (.cells #[.int .i64 T, .int .i64 V, .int .i64 B, .int .i64 E, .slice ga gn gc, .slice ha hn hc, .slice sa sn sc, .slice la ln lc] 29) = w1 at *
  refine (HCp.out _ H1.out.2.2.2.1).mono ?_
  rintro e w2 ⟨⟨k', rfl, hT, -, hB, hE, hgn, hhn, hsn, hln, hes, hkw⟩, hb2⟩
  have hN2 : NB k' 4 := by
    have h9 := HN.out
    refine ⟨by rw [hB]; exact h9.b0, by rw [hB]; exact h9.b1, by rw [hln]; exact h9.l1, by rw [hT]; exact h9.t0, by rw [hT]; exact h9.t1, by rw [hE]; exact h9.e0, by rw [hE]; exact h9.e1, fun e he => ?_, by rw [hgn]; exact h9.g, by rw [hhn]; exact h9.h, by rw [hsn]; exact h9.s⟩
    have h1 : e.key ∈ k'.es.map En.key := List.mem_map.2 ⟨e, he, rfl⟩
    rw [hes] at h1
    obtain ⟨f, hf, hk⟩ := List.mem_map.1 h1
    rw [← key_T hk]
    exact h9.es f hf
  have HN2 := hidP hN2
  have HKW := hidP hkw
  have HB2 := hidP hb2
  clear hN2 hT hB hE hgn hhn hsn hln hes hkw hb2 HN HCp
  have hs2 : W1.heap.size ≤ w2.heap.size := HB2.out.size
  have hs1 : W1.heap.size = w1.heap.size + 1 := H1.out.2.2.2.2.2.1
  go_wp2_with fail
  have kB := alloc_below w2 (.cells #[.int .i64 k'.T, .int .i64 k'.V, .int .i64 k'.B, .int .i64 k'.E, .slice k'.ga k'.gn k'.gc, .slice k'.ha k'.hn k'.hc, .slice k'.sa k'.sn k'.sc, .slice k'.la k'.ln k'.lc] 29)
  have kX : Bx (w2.alloc (.cells #[.int .i64 k'.T, .int .i64 k'.V, .int .i64 k'.B, .int .i64 k'.E, .slice k'.ga k'.gn k'.gc, .slice k'.ha k'.hn k'.hc, .slice k'.sa k'.sn k'.sc, .slice k'.la k'.ln k'.lc] 29)) w2.heap.size k'.cs := Bx.new w2 k'.cs 29
  generalize w2.alloc (.cells #[.int .i64 k'.T, .int .i64 k'.V, .int .i64 k'.B, .int .i64 k'.E, .slice k'.ga k'.gn k'.gc, .slice k'.ha k'.hn k'.hc, .slice k'.sa k'.sn k'.sc, .slice k'.la k'.ln k'.lc] 29) = W3 at *
  have H3 : Hid (KD w1 W3 c a len cap w2.heap.size k' ss) := by
    have hcr := H1.out.1.grew HB2.out
    have hkr : KR w2 W1.heap.size w2.heap.size k' ss := HKW.out.kr (Nat.le_refl _)
    exact hidP ⟨hcr.grew kB, (H1.out.2.1.trans (Kp.of_below H1.out.1.lt HB2.out)).trans (Kp.of_below hcr.lt kB), H1.out.2.2.2.2.1, (H1.out.2.2.1.later HB2.out).later kB, kX, by omega, (hkr.bel kB).mono (by omega)⟩
  generalize w2.heap.size = qb at *
  clear kB kX HKW HB2 hs2
  refine (l1Below_any c a len cap 4 _ H3.out.cur).mono ?_
  rintro e w4 ⟨⟨x, x0, x9, rfl⟩, hC4, hK4⟩
  have H4 := hidP (H3.out.keep hC4 hK4)
  have x8 := x9 (by omega)
  obtain ⟨xi, rfl⟩ := Int.eq_ofNat_of_zero_le x0
  have HKw := hidP (H1.out.2.2.2.2.2.2)
  clear hC4 hK4 x9 H3 x0 H1
  go_wp2_with fail
  go_loopw [6] (fun t6 wr => ∃ (i : Nat) (k1 : Kv) (ss1 : List Int), t6 = .int .i64 i ∧ i ≤ 4 ∧ KD w1 wr c a len cap qb k1 ss1 ∧ NB k1 i) (fun t6 _ => (intOf t6).toNat)
  case atStart => exact ⟨1 + xi, k', ss, by go_num, by omega, H4.out, (by have h9 := HN2.out; exact ⟨h9.b0, by have := h9.b1; omega, by have := h9.l1; omega, h9.t0, by have := h9.t1; omega, h9.e0, by have := h9.e1; omega, (fun e he => ⟨(h9.es e he).1, by have := (h9.es e he).2; omega⟩), h9.g, h9.h, h9.s⟩)⟩
  case round =>
    obtain ⟨i, k1, ss1, rfl, hi4, hD, hB1⟩ := hrel
    have H5 := hidP hD
    have HB := hidP hB1
    clear hD hB1 H4 HN2
    by_cases hlt : 0 < i
    · have dg1 : decide ((i : Int) > 0) = true := decide_eq_true (by omega)
      have dg2 : decide ((0 : Int) < (i : Int)) = true := dg1
      have HLs := hidP (l13Last_ex k1 wr H5.out.kr.read ⟨HB.out.b0, by have := HB.out.b1; omega⟩ (by have := HB.out.l1; omega))
      have htm := HB.out.tm k1.ln
      generalize hq9 : tmE k1 k1.ln = q9 at *
      have HQ9 := hidP hq9
      clear hq9
      obtain ⟨T1, V1, B1, E1, ga1, gn1, gc1, ha1, hn1, hc1, sa1, sn1, sc1, la1, ln1, lc1, ps1, bs1, es1⟩ := k1
      try simp only at HLs
      have nb0 : 0 ≤ B1 := HB.out.b0
      have nb1 : B1 + 40 * (i : Int) ≤ 400 := HB.out.b1
      have nl1 : ln1 + i ≤ 40 := HB.out.l1
      have nt0 : 0 ≤ T1 := HB.out.t0
      have nt1 : T1 + (i : Int) ≤ 60 := HB.out.t1
      have ne0 : 0 ≤ E1 := HB.out.e0
      have ne1 : E1 + (i : Int) ≤ 60 := HB.out.e1
      have nes : ∀ e ∈ es1, 0 ≤ e.T ∧ e.T + (i : Int) ≤ 60 := HB.out.es
      have ngh : gn1 ≤ 100 ∧ hn1 ≤ 100 ∧ sn1 ≤ 400 := ⟨HB.out.g, HB.out.h, HB.out.s⟩
      have NES := hidP nes
      have HNS := hidP (And.intro HB.out.ks HB.out.ta)
      clear nes HB
      obtain ⟨c50, c51, c52, c53, c54, c55, c56, c57⟩ := H5.out.bx.k8
      simp only at c50 c51 c52 c53 c54 c55 c56 c57
      go_wp2_with fail
      refine HLs.out.mono ?_
      rintro e X5 ⟨rfl, hb5⟩
      have H5b := hidP (H5.out.below hb5)
      clear hb5 HLs H5 c50 c51 c52 c53 c54 c55 c56 c57
      go_wp2_with fail
      refine (l1Below_any c a len cap 5 _ H5b.out.cur).mono ?_
      rintro e X6 ⟨⟨z, z0, z9, rfl⟩, hC6, hK6⟩
      have H6 := hidP (H5b.out.keep hC6 hK6)
      have z8 := z9 (by omega)
      clear hC6 hK6 z9 H5b
      by_cases hz : z = 0
      · have g52 : (z == 0) = true := by simp [hz]
        have hw1 : wrap64 (T1 + 1) = T1 + 1 := by unfold wrap64; omega
        obtain ⟨c60, c61, c62, c63, c64, c65, c66, c67⟩ := H6.out.bx.k8
        have f6 := H6.out.bx.frz
        clear hz
        go_wp2_with fail
        have H7 := hidP (H6.out.put (k' := ⟨T1 + 1, V1, B1, E1, ga1, gn1, gc1, ha1, hn1, hc1, sa1, sn1, sc1, la1, ln1, lc1, ps1, bs1, es1⟩) 0 _ (.int .i64 (T1 + 1)) rfl rfl (H6.out.kr.ints (T1 + 1) V1 B1 E1))
        clear c60 c61 c62 c63 c64 c65 c66 c67 f6
        try rw [hw1]
        generalize X6.setCell ⟨qb, 0, none⟩ (.int .i64 (T1 + 1)) = X7 at *
        refine (l1Below_any c a len cap 4 _ H7.out.cur).mono ?_
        rintro e X8 ⟨⟨y, y0, y9, rfl⟩, hC8, hK8⟩
        have H8 := hidP (H7.out.keep hC8 hK8)
        clear hC8 hK8 y9 H7 H6
        obtain ⟨c80, c81, c82, c83, c84, c85, c86, c87⟩ := H8.out.bx.k8
        have f8 := H8.out.bx.frz
        go_wp2_with fail
        have H9 := hidP (H8.out.put (k' := ⟨T1 + 1, y, B1, E1, ga1, gn1, gc1, ha1, hn1, hc1, sa1, sn1, sc1, la1, ln1, lc1, ps1, bs1, es1⟩) 1 _ (.int .i64 y) rfl rfl (H8.out.kr.ints (T1 + 1) y B1 E1))
        clear c80 c81 c82 c83 c84 c85 c86 c87 f8
        go_roundw
        case rel => exact ⟨i - 1, ⟨T1 + 1, y, B1, E1, ga1, gn1, gc1, ha1, hn1, hc1, sa1, sn1, sc1, la1, ln1, lc1, ps1, bs1, es1⟩, ss1, by go_num, by omega, H9.out, ⟨by show 0 ≤ (B1 : Int); omega, by show (B1 : Int) + 40 * ((i - 1 : Nat) : Int) ≤ 400; omega, by show ln1 + (i - 1) ≤ 40; omega, by show 0 ≤ (T1 + 1 : Int); omega, by show (T1 + 1 : Int) + ((i - 1 : Nat) : Int) ≤ 60; omega, by show 0 ≤ (E1 : Int); omega, by show (E1 : Int) + ((i - 1 : Nat) : Int) ≤ 60; omega, fun e he => ⟨(NES.out e he).1, by have := (NES.out e he).2; omega⟩, ngh.1, ngh.2.1, ngh.2.2⟩⟩
        case measure => simp [intOf]; omega
      · have g52 : (z == 0) = false := by simpa using hz
        by_cases hz1 : z = 1
        · have g61 : (z == 1) = true := by simp [hz1]
          clear hz hz1
          obtain ⟨c60, c61, c62, c63, c64, c65, c66, c67⟩ := H6.out.bx.k8
          simp only at c60 c61 c62 c63 c64 c65 c66 c67
          by_cases hln : 0 < ln1
          · have dg3 : decide (B1 + (ln1 : Int) > B1) = true := decide_eq_true (by omega)
            have dg4 : decide (B1 < B1 + (ln1 : Int)) = true := dg3
            go_upto_region 17 with fail
            go_cut [9] (fun t9 Y => ∃ x : Int, t9 = .int .i64 x ∧ B1 ≤ x ∧ x - B1 ≤ (ln1 : Int) ∧ KD w1 Y c a len cap qb ⟨T1, V1, B1, E1, ga1, gn1, gc1, ha1, hn1, hc1, sa1, sn1, sc1, la1, ln1, lc1, ps1, bs1, es1⟩ ss1)
            case first =>
              clear c60 c61 c62 c63 c64 c65 c66 c67
              refine wp_region_held_drew (S := (fun W => W.cell? ⟨qb, 2, none⟩ = some (.int .i64 B1))) (by kernel_rfl) ((H6.out.below (Below.refl _ _).drew).bx.cel 2 _ rfl) (fun hHeld => ?_)
              have HLd := hidP (H6.out.below (Below.refl X6.heap.size X6).drew)
              generalize X6.drew = Xd at *
              have wB : wrap64 (B1 + 1) = B1 + 1 := by unfold wrap64; omega
              have wB' : IntKind.i64.wrap (B1 + 1) = B1 + 1 := by rw [IntKind.wrap_i64]; omega
              have wN : wrap64 (B1 + (ln1 : Int) - B1) = B1 + (ln1 : Int) - B1 := by unfold wrap64; omega
              have wN' : IntKind.i64.wrap (B1 + (ln1 : Int) - B1) = B1 + (ln1 : Int) - B1 := by rw [IntKind.wrap_i64]; omega
              refine tk 0 66 rfl ?_
              simp only [pa]
              refine tk 1 67 rfl ?_
              simp only [pa]
              refine tk 2 68 rfl ?_
              simp only [pa]
              refine tk 3 69 rfl ?_
              simp only [pa]
              refine tk 4 70 rfl ?_
              simp only [pa]
              refine tk 5 71 rfl ?_
              simp only [pa]
              refine tk 6 72 rfl ?_
              simp only [pa]
              refine tk 7 73 rfl ?_
              simp only [pa]
              refine wpAnyH_ready (rs := [8]) (by kernel_rfl) (by simp) ?_
              refine AllReadyH.cons rfl (fun K hK => ?_) AllReadyH.nil
              go_simp
              go_wp2_with (first | (go_at_call 58; refine (l1Below_any c a len cap _ _ HLd.out.cur).mono ?_; rintro e Xb ⟨⟨y, y0, y9, rfl⟩, hCb, hKb⟩; have HLb := hidP (HLd.out.keep hCb hKb); clear hCb hKb))
              have y8 := y9 (by omega)
              have wY : wrap64 (B1 + 1 + y) = B1 + 1 + y := by unfold wrap64; omega
              have wY' : IntKind.i64.wrap (B1 + 1 + y) = B1 + 1 + y := by rw [IntKind.wrap_i64]; omega
              refine hK.out _ _ ?_ (fun hHeld => ?_)
              · try dsimp only
                exact (HLb.out.bx.cel 2 _ rfl)
              clear hK K
              refine wpAnyH_ready (rs := [9]) (by kernel_rfl) (by simp) ?_
              refine AllReadyH.cons rfl (fun K hK => ?_) AllReadyH.nil
              go_simp
              refine hK.out _ _ ?_ (fun hHeld => ?_)
              · try dsimp only
                exact (HLb.out.bx.cel 2 _ rfl)
              clear hK K
              refine wpAnyH_ready (rs := [10]) (by kernel_rfl) (by simp) ?_
              refine AllReadyH.cons rfl (fun K hK => ?_) AllReadyH.nil
              go_simp
              refine hK.out _ _ ?_ (fun hHeld => ?_)
              · try dsimp only
                exact (HLb.out.bx.cel 2 _ rfl)
              clear hK K
              refine wpAnyH_done (by kernel_rfl) ?_ _
              clear hHeld
              go_wp2_with fail
              go_meet
              case rel => exact ⟨B1 + 1 + y, rfl, by omega, by omega, HLb.out⟩
            case rest =>
              obtain ⟨x, rfl, hx0, hx1, hD⟩ := hcut
              have HX := hidP hD
              clear hD H6 c60 c61 c62 c63 c64 c65 c66 c67
              obtain ⟨c60, c61, c62, c63, c64, c65, c66, c67⟩ := HX.out.bx.k8
              simp only at c60 c61 c62 c63 c64 c65 c66 c67
              have HTm := hidP (l13TermAt_ex ⟨T1, V1, B1, E1, ga1, gn1, gc1, ha1, hn1, hc1, sa1, sn1, sc1, la1, ln1, lc1, ps1, bs1, es1⟩ x wc HX.out.kr.read ⟨nb0, by show B1 ≤ 1000000; omega⟩ (by show ln1 ≤ 120; omega) (by omega))
              have hta := HNS.out.2 x
              generalize hq : taT ⟨T1, V1, B1, E1, ga1, gn1, gc1, ha1, hn1, hc1, sa1, sn1, sc1, la1, ln1, lc1, ps1, bs1, es1⟩ x = tq at *
              generalize taO ⟨T1, V1, B1, E1, ga1, gn1, gc1, ha1, hn1, hc1, sa1, sn1, sc1, la1, ln1, lc1, ps1, bs1, es1⟩ x = to9 at *
              have HQ := hidP hq
              clear hq
              go_wp2_with fail
              refine HTm.out.mono ?_
              rintro e X7 ⟨rfl, hb7⟩
              have H7 := hidP (HX.out.below hb7)
              clear hb7 HTm HX c60 c61 c62 c63 c64 c65 c66 c67
              obtain ⟨c70, c71, c72, c73, c74, c75, c76, c77⟩ := H7.out.bx.k8
              simp only at c70 c71 c72 c73 c74 c75 c76 c77
              go_wp2_with fail
              refine (l13Group_any ⟨T1, V1, B1, E1, ga1, gn1, gc1, ha1, hn1, hc1, sa1, sn1, sc1, la1, ln1, lc1, ps1, bs1, es1⟩ ss1 x (w1.heap.size + 1) _ H7.out.kr.kw HNS.out.1 nb0 (by show B1 ≤ 10000; omega)).mono ?_
              rintro e X8 ⟨⟨y9, a1, n1, d1, a2, n2, d2, qs, rs, rfl, g1, g2, g4, g5, og, oh⟩, hb8⟩
              have H8 := hidP (H7.out.below hb8)
              have HGl := hidP (And.intro g1 (And.intro g2 (And.intro g4 g5)))
              have HOg := hidP (And.intro og oh)
              have hcB : c < X7.heap.size := H7.out.cur.lt
              clear g1 g2 g4 g5 og oh hb8 c70 c71 c72 c73 c74 c75 c76 c77 H7
              go_wp2_with fail
              have u9 := alloc_below X8 (.cells #[.slice a1 n1 d1, .slice a2 n2 d2] 26)
              have v9 : Bx (X8.alloc (.cells #[.slice a1 n1 d1, .slice a2 n2 d2] 26)) X8.heap.size [.slice a1 n1 d1, .slice a2 n2 d2] := Bx.new X8 [.slice a1 n1 d1, .slice a2 n2 d2] 26
              generalize X8.alloc (.cells #[.slice a1 n1 d1, .slice a2 n2 d2] 26) = X9 at *
              have dr9 := (Below.refl X9.heap.size X9).drew
              have HLd := hidP ((H8.out.below u9).below dr9)
              have HGd := hidP (v9.later dr9)
              have HOd := hidP (And.intro ((HOg.out.1.later u9).later dr9) ((HOg.out.2.later u9).later dr9))
              have HGn : Hid (X8.heap.size ≠ c) := hidP (by have := H8.out.cur.lt; omega)
              have HQG : Hid (qb ≠ X8.heap.size) := hidP (by have := H8.out.bx.lt; omega)
              clear u9 v9 dr9 HOg H8
              generalize X8.heap.size = gb at *
              refine wp_region_held_drew (S := (fun W => W.cell? ⟨gb, 0, none⟩ = some (.slice a1 n1 d1) ∧ W.cell? ⟨gb, 1, none⟩ = some (.slice a2 n2 d2))) (by kernel_rfl) ⟨HGd.out.cel 0 _ rfl, HGd.out.cel 1 _ rfl⟩ (fun hHeld => ?_)
              generalize X9.drew = Xd at *
              refine tk 1 89 rfl ?_
              simp only [pa]
              refine tk 2 90 rfl ?_
              simp only [pa]
              refine wpAnyH_take (i := 3) (oi := ⟨some 91, _, _, _, _, _⟩) (v := ?_) rfl (by kernel_rfl) (by kernel_rfl) (by kernel_rfl) (fun _ _ _ h => h) (Or.inl ⟨by rfl, ?_⟩) (by assumption) ?_
              rotate_left
              · intro w hSw
                try dsimp only at hSw
                obtain ⟨hSa, hSb⟩ := hSw
                go_simp
                try with_reducible rfl
              simp only [pa]
              refine tk 4 92 rfl ?_
              simp only [pa]
              refine wpAnyH_ready (rs := [0, 5]) (by kernel_rfl) (by simp) ?_
              refine AllReadyH.cons rfl (fun K hK => ?_) (AllReadyH.cons rfl (fun K hK => ?_) AllReadyH.nil)
              · obtain ⟨c90, c91, c92, c93, c94, c95, c96, c97⟩ := HLd.out.bx.k8
                simp only at c90 c91 c92 c93 c94 c95 c96 c97
                go_simp
                clear c90 c91 c92 c93 c94 c95 c96 c97
                refine hK.out _ _ ?_ (fun hHeld => ?_)
                · try dsimp only
                  exact ⟨HGd.out.cel 0 _ rfl, HGd.out.cel 1 _ rfl⟩
                clear hK K
                refine wpAnyH_ready (rs := [5]) (by kernel_rfl) (by simp) ?_
                refine AllReadyH.cons rfl (fun K hK => ?_) AllReadyH.nil
                go_simp
                go_wp2_with (first | (go_at_call 59; refine (l1Bytes_any c a len cap 3 (by omega) _ HLd.out.cur).mono ?_; rintro e Xb ⟨⟨g3, d3, zs, hz, hoz, rfl, o3⟩, hCb, hKb⟩; have HLb := hidP (HLd.out.keep hCb hKb); have HGb := hidP (HGd.out.kp hKb HGn.out); have HOb := hidP (And.intro (HOd.out.1.kpGr hKb hcB) (And.intro (HOd.out.2.kpGr hKb hcB) (own_by.2 o3))); clear hCb hKb o3))
                refine hK.out _ _ ?_ (fun hHeld => ?_)
                · try dsimp only
                  exact ⟨HGb.out.cel 0 _ rfl, HGb.out.cel 1 _ rfl⟩
                clear hK K
                refine wpAnyH_ready (rs := [6]) (by kernel_rfl) (by simp) ?_
                refine AllReadyH.cons rfl (fun K hK => ?_) AllReadyH.nil
                go_simp
                go_wp2_with (first | (go_at_call 64; refine (l13Snap_any ⟨T1, V1, B1, E1, ga1, gn1, gc1, ha1, hn1, hc1, sa1, sn1, sc1, la1, ln1, lc1, ps1, bs1, es1⟩ ss1 x tq a1 n1 d1 a2 n2 d2 qs rs (some ⟨g3, 0, none⟩) 3 d3 zs (w1.heap.size + 1) Xb HLb.out.kr.kw HNS.out.1 (by show ln1 ≤ 120; omega) nb0 (by show B1 ≤ 10000; omega) hx0 hx1 HQ.out ⟨HGl.out.1, HGl.out.2.1, HGl.out.2.2.1, HGl.out.2.2.2, HOb.out.1.row, HOb.out.2.1.row, HOb.out.1.caps.2.2.2, HOb.out.2.1.caps.2.2.2, hz.symm, hoz, (by omega), HOb.out.2.2.row, (fun h => by cases h)⟩).mono ?_; rintro e Xs ⟨⟨⟨T', V', B', E', ga', gn', gc', ha', hn', hc', sa', sn', sc', la', ln', lc', ps', bs', es'⟩, rfl, k1, k2, k3, k4, k5, k6, k7, k8, k9, kw⟩, hbs⟩; have HLs := hidP (HLb.out.below hbs); have HGs := hidP (HGb.out.later hbs); have HKs := hidP ((kw.kr2 HLb.out.bx.lt).mono (show w1.heap.size + 1 ≤ Xb.heap.size from HLb.out.rs.lt)); simp only at k1 k2 k3 k4 k5 k6 k7 k8 k9; have HEq := hidP (And.intro k1 (And.intro k3 (And.intro k4 (And.intro k5 (And.intro k6 (And.intro k7 k8)))))); have HSb := hidP k9; clear k1 k2 k3 k4 k5 k6 k7 k8 k9 kw hbs))
                refine hK.out _ _ ?_ (fun hHeld => ?_)
                · try dsimp only
                  exact ⟨HGs.out.cel 0 _ rfl, HGs.out.cel 1 _ rfl⟩
                clear hK K
                refine wpAnyH_ready (rs := [7]) (by kernel_rfl) (by simp) ?_
                refine AllReadyH.cons rfl (fun K hK => ?_) AllReadyH.nil
                obtain ⟨d80, d81, d82, d83, d84, d85, d86, d87⟩ := HLs.out.bx.k8
                have d9 := HLs.out.bx.frz
                have dL := HLs.out.bx.lt
                simp only at d80 d81 d82 d83 d84 d85 d86 d87
                go_simp
                have HN8 := hidP (KD.all HLs.out HKs.out)
                clear d80 d81 d82 d83 d84 d85 d86 d87
                refine hK.out _ _ ?_ (fun hHeld => ?_)
                · try dsimp only
                  exact ⟨(Bx.far8 HGs.out HQG.out _ _ _ _ _ _ _ _).cel 0 _ rfl, (Bx.far8 HGs.out HQG.out _ _ _ _ _ _ _ _).cel 1 _ rfl⟩
                clear hK K
                refine wpAnyH_done (by kernel_rfl) ?_ _
                clear hHeld d9
                go_wp2_with fail
                go_roundw
                have eqs := HEq.out
                have gls := HGl.out
                case rel => exact ⟨i - 1, ⟨T', V', B', E', ga', gn', gc', ha', hn', hc', sa', sn', sc', la', ln', lc', ps', bs', es'⟩, zs, by go_num, by omega, HN8.out, ⟨by show 0 ≤ (B' : Int); omega, by show (B' : Int) + 40 * ((i - 1 : Nat) : Int) ≤ 400; omega, by show ln' + (i - 1) ≤ 40; omega, by show 0 ≤ (T' : Int); omega, by show (T' : Int) + ((i - 1 : Nat) : Int) ≤ 60; omega, by show 0 ≤ (E' : Int); omega, by show (E' : Int) + ((i - 1 : Nat) : Int) ≤ 60; omega, es_sub NES.out HSb.out, by show gn' ≤ 100; omega, by show hn' ≤ 100; omega, by show sn' ≤ 400; omega⟩⟩
                case measure => simp [intOf]; omega
              · go_simp
                go_wp2_with (first | (go_at_call 59; refine (l1Bytes_any c a len cap 3 (by omega) _ HLd.out.cur).mono ?_; rintro e Xb ⟨⟨g3, d3, zs, hz, hoz, rfl, o3⟩, hCb, hKb⟩; have HLb := hidP (HLd.out.keep hCb hKb); have HGb := hidP (HGd.out.kp hKb HGn.out); have HOb := hidP (And.intro (HOd.out.1.kpGr hKb hcB) (And.intro (HOd.out.2.kpGr hKb hcB) (own_by.2 o3))); clear hCb hKb o3))
                refine hK.out _ _ ?_ (fun hHeld => ?_)
                · try dsimp only
                  exact ⟨HGb.out.cel 0 _ rfl, HGb.out.cel 1 _ rfl⟩
                clear hK K
                refine wpAnyH_ready (rs := [0]) (by kernel_rfl) (by simp) ?_
                refine AllReadyH.cons rfl (fun K hK => ?_) AllReadyH.nil
                obtain ⟨c90, c91, c92, c93, c94, c95, c96, c97⟩ := HLb.out.bx.k8
                simp only at c90 c91 c92 c93 c94 c95 c96 c97
                go_simp
                clear c90 c91 c92 c93 c94 c95 c96 c97
                refine hK.out _ _ ?_ (fun hHeld => ?_)
                · try dsimp only
                  exact ⟨HGb.out.cel 0 _ rfl, HGb.out.cel 1 _ rfl⟩
                clear hK K
                refine wpAnyH_ready (rs := [6]) (by kernel_rfl) (by simp) ?_
                refine AllReadyH.cons rfl (fun K hK => ?_) AllReadyH.nil
                go_simp
                go_wp2_with (first | (go_at_call 64; refine (l13Snap_any ⟨T1, V1, B1, E1, ga1, gn1, gc1, ha1, hn1, hc1, sa1, sn1, sc1, la1, ln1, lc1, ps1, bs1, es1⟩ ss1 x tq a1 n1 d1 a2 n2 d2 qs rs (some ⟨g3, 0, none⟩) 3 d3 zs (w1.heap.size + 1) Xb HLb.out.kr.kw HNS.out.1 (by show ln1 ≤ 120; omega) nb0 (by show B1 ≤ 10000; omega) hx0 hx1 HQ.out ⟨HGl.out.1, HGl.out.2.1, HGl.out.2.2.1, HGl.out.2.2.2, HOb.out.1.row, HOb.out.2.1.row, HOb.out.1.caps.2.2.2, HOb.out.2.1.caps.2.2.2, hz.symm, hoz, (by omega), HOb.out.2.2.row, (fun h => by cases h)⟩).mono ?_; rintro e Xs ⟨⟨⟨T', V', B', E', ga', gn', gc', ha', hn', hc', sa', sn', sc', la', ln', lc', ps', bs', es'⟩, rfl, k1, k2, k3, k4, k5, k6, k7, k8, k9, kw⟩, hbs⟩; have HLs := hidP (HLb.out.below hbs); have HGs := hidP (HGb.out.later hbs); have HKs := hidP ((kw.kr2 HLb.out.bx.lt).mono (show w1.heap.size + 1 ≤ Xb.heap.size from HLb.out.rs.lt)); simp only at k1 k2 k3 k4 k5 k6 k7 k8 k9; have HEq := hidP (And.intro k1 (And.intro k3 (And.intro k4 (And.intro k5 (And.intro k6 (And.intro k7 k8)))))); have HSb := hidP k9; clear k1 k2 k3 k4 k5 k6 k7 k8 k9 kw hbs))
                refine hK.out _ _ ?_ (fun hHeld => ?_)
                · try dsimp only
                  exact ⟨HGs.out.cel 0 _ rfl, HGs.out.cel 1 _ rfl⟩
                clear hK K
                refine wpAnyH_ready (rs := [7]) (by kernel_rfl) (by simp) ?_
                refine AllReadyH.cons rfl (fun K hK => ?_) AllReadyH.nil
                obtain ⟨d80, d81, d82, d83, d84, d85, d86, d87⟩ := HLs.out.bx.k8
                have d9 := HLs.out.bx.frz
                have dL := HLs.out.bx.lt
                simp only at d80 d81 d82 d83 d84 d85 d86 d87
                go_simp
                have HN8 := hidP (KD.all HLs.out HKs.out)
                clear d80 d81 d82 d83 d84 d85 d86 d87
                refine hK.out _ _ ?_ (fun hHeld => ?_)
                · try dsimp only
                  exact ⟨(Bx.far8 HGs.out HQG.out _ _ _ _ _ _ _ _).cel 0 _ rfl, (Bx.far8 HGs.out HQG.out _ _ _ _ _ _ _ _).cel 1 _ rfl⟩
                clear hK K
                refine wpAnyH_done (by kernel_rfl) ?_ _
                clear hHeld d9
                go_wp2_with fail
                go_roundw
                have eqs := HEq.out
                have gls := HGl.out
                case rel => exact ⟨i - 1, ⟨T', V', B', E', ga', gn', gc', ha', hn', hc', sa', sn', sc', la', ln', lc', ps', bs', es'⟩, zs, by go_num, by omega, HN8.out, ⟨by show 0 ≤ (B' : Int); omega, by show (B' : Int) + 40 * ((i - 1 : Nat) : Int) ≤ 400; omega, by show ln' + (i - 1) ≤ 40; omega, by show 0 ≤ (T' : Int); omega, by show (T' : Int) + ((i - 1 : Nat) : Int) ≤ 60; omega, by show 0 ≤ (E' : Int); omega, by show (E' : Int) + ((i - 1 : Nat) : Int) ≤ 60; omega, es_sub NES.out HSb.out, by show gn' ≤ 100; omega, by show hn' ≤ 100; omega, by show sn' ≤ 400; omega⟩⟩
                case measure => simp [intOf]; omega
          · have dg3 : decide (B1 + (ln1 : Int) > B1) = false := decide_eq_false (by omega)
            have dg4 : decide (B1 < B1 + (ln1 : Int)) = false := dg3
            go_wp2_with fail
            clear c60 c61 c62 c63 c64 c65 c66 c67
            go_roundw
            case rel => exact ⟨i - 1, ⟨T1, V1, B1, E1, ga1, gn1, gc1, ha1, hn1, hc1, sa1, sn1, sc1, la1, ln1, lc1, ps1, bs1, es1⟩, ss1, by go_num, by omega, H6.out, ⟨by show 0 ≤ (B1 : Int); omega, by show (B1 : Int) + 40 * ((i - 1 : Nat) : Int) ≤ 400; omega, by show ln1 + (i - 1) ≤ 40; omega, by show 0 ≤ (T1 : Int); omega, by show (T1 : Int) + ((i - 1 : Nat) : Int) ≤ 60; omega, by show 0 ≤ (E1 : Int); omega, by show (E1 : Int) + ((i - 1 : Nat) : Int) ≤ 60; omega, fun e he => ⟨(NES.out e he).1, by have := (NES.out e he).2; omega⟩, ngh.1, ngh.2.1, ngh.2.2⟩⟩
            case measure => simp [intOf]; omega
        · have g61 : (z == 1) = false := by simpa using hz1
          by_cases hz2 : z = 2
          · have g96 : (z == 2) = true := by simp [hz2]
            clear hz hz1 hz2
            obtain ⟨c60, c61, c62, c63, c64, c65, c66, c67⟩ := H6.out.bx.k8
            simp only at c60 c61 c62 c63 c64 c65 c66 c67
            by_cases hln : 0 < ln1
            · have dg3 : decide (B1 + (ln1 : Int) > B1) = true := decide_eq_true (by omega)
              have dg4 : decide (B1 < B1 + (ln1 : Int)) = true := dg3
              go_wp2_with fail
              clear c60 c61 c62 c63 c64 c65 c66 c67
              refine wp_region_held_drew (S := (fun _ => True)) (by kernel_rfl) trivial (fun hHeld => ?_)
              have HLd := hidP (H6.out.below (Below.refl X6.heap.size X6).drew)
              clear H6
              generalize X6.drew = Xd at *
              refine tk 0 101 rfl ?_
              simp only [pa]
              refine tk 2 103 rfl ?_
              simp only [pa]
              refine tk 3 104 rfl ?_
              simp only [pa]
              refine wpAnyH_ready (rs := [1, 4]) (by kernel_rfl) (by simp) ?_
              refine AllReadyH.cons rfl (fun K hK => ?_) (AllReadyH.cons rfl (fun K hK => ?_) AllReadyH.nil)
              · have c7 := HLd.out.bx.cel 7 _ rfl
                simp only at c7
                go_simp
                refine hK.out _ _ trivial (fun hHeld => ?_)
                clear hK K
                refine wpAnyH_ready (rs := [4]) (by kernel_rfl) (by simp) ?_
                refine AllReadyH.cons rfl (fun K hK => ?_) AllReadyH.nil
                have c7 := HLd.out.bx.cel 7 _ rfl
                simp only at c7
                go_simp
                refine hK.out _ _ trivial (fun hHeld => ?_)
                clear hK K
                refine wpAnyH_ready (rs := [5]) (by kernel_rfl) (by simp) ?_
                refine AllReadyH.cons rfl (fun K hK => ?_) AllReadyH.nil
                go_simp
                refine hK.out _ _ trivial (fun hHeld => ?_)
                clear hK K
                refine wpAnyH_ready (rs := [6]) (by kernel_rfl) (by simp) ?_
                refine AllReadyH.cons rfl (fun K hK => ?_) AllReadyH.nil
                go_simp
                go_wp2_with (first | (go_at_call 58; refine (l1Below_any c a len cap ln1 _ HLd.out.cur).mono ?_; rintro e Xb ⟨⟨y, y0, y9, rfl⟩, hCb, hKb⟩; have HLb := hidP (HLd.out.keep hCb hKb); clear hCb hKb))
                have y8 := y9 (by omega)
                obtain ⟨yj, rfl⟩ := Int.eq_ofNat_of_zero_le y0
                refine hK.out _ _ trivial (fun hHeld => ?_)
                clear hK K
                refine wpAnyH_ready (rs := [7]) (by kernel_rfl) (by simp) ?_
                refine AllReadyH.cons rfl (fun K hK => ?_) AllReadyH.nil
                have hcap := HLb.out.kr.ol.caps.2.1
                have hlen := HLb.out.kr.hl
                simp only at hcap hlen
                have e1 : (0 : Int) ≤ (yj : Int) := by omega
                have e2 : (yj : Int) ≤ (lc1 : Int) := by omega
                have e3 : yj ≤ lc1 := by omega
                go_simp
                refine hK.out _ _ trivial (fun hHeld => ?_)
                clear hK K
                refine tk 8 109 rfl ?_
                simp only [pa]
                refine wpAnyH_ready (rs := [9]) (by kernel_rfl) (by simp) ?_
                refine AllReadyH.cons rfl (fun K hK => ?_) AllReadyH.nil
                have d8 := HLb.out.bx.cel 7 _ rfl
                have d9 := HLb.out.bx.frz
                have dL := HLb.out.bx.lt
                simp only at d8
                go_simp
                have HN8 := hidP (HLb.out.put (k' := ⟨T1, V1, B1, E1, ga1, gn1, gc1, ha1, hn1, hc1, sa1, sn1, sc1, la1, yj, lc1, ps1, bs1, es1.take yj⟩) 7 _ (.slice la1 yj lc1) rfl rfl (HLb.out.kr.take yj (by show yj ≤ ln1; omega)))
                refine hK.out _ _ trivial (fun hHeld => ?_)
                clear hK K
                refine wpAnyH_done (by kernel_rfl) ?_ _
                clear hHeld d8 d9
                go_wp2_with fail
                go_roundw
                case rel => exact ⟨i - 1, ⟨T1, V1, B1, E1, ga1, gn1, gc1, ha1, hn1, hc1, sa1, sn1, sc1, la1, yj, lc1, ps1, bs1, es1.take yj⟩, ss1, by go_num, by omega, HN8.out, ⟨by show 0 ≤ (B1 : Int); omega, by show (B1 : Int) + 40 * ((i - 1 : Nat) : Int) ≤ 400; omega, by show yj + (i - 1) ≤ 40; omega, by show 0 ≤ (T1 : Int); omega, by show (T1 : Int) + ((i - 1 : Nat) : Int) ≤ 60; omega, by show 0 ≤ (E1 : Int); omega, by show (E1 : Int) + ((i - 1 : Nat) : Int) ≤ 60; omega, fun e he => ⟨(NES.out e (List.mem_of_mem_take he)).1, by have := (NES.out e (List.mem_of_mem_take he)).2; omega⟩, ngh.1, ngh.2.1, ngh.2.2⟩⟩
                case measure => simp [intOf]; omega
              · have c7 := HLd.out.bx.cel 7 _ rfl
                simp only at c7
                go_simp
                refine hK.out _ _ trivial (fun hHeld => ?_)
                clear hK K
                refine wpAnyH_ready (rs := [1, 5]) (by kernel_rfl) (by simp) ?_
                refine AllReadyH.cons rfl (fun K hK => ?_) (AllReadyH.cons rfl (fun K hK => ?_) AllReadyH.nil)
                · have c7 := HLd.out.bx.cel 7 _ rfl
                  simp only at c7
                  go_simp
                  refine hK.out _ _ trivial (fun hHeld => ?_)
                  clear hK K
                  refine wpAnyH_ready (rs := [5]) (by kernel_rfl) (by simp) ?_
                  refine AllReadyH.cons rfl (fun K hK => ?_) AllReadyH.nil
                  go_simp
                  refine hK.out _ _ trivial (fun hHeld => ?_)
                  clear hK K
                  refine wpAnyH_ready (rs := [6]) (by kernel_rfl) (by simp) ?_
                  refine AllReadyH.cons rfl (fun K hK => ?_) AllReadyH.nil
                  go_simp
                  go_wp2_with (first | (go_at_call 58; refine (l1Below_any c a len cap ln1 _ HLd.out.cur).mono ?_; rintro e Xb ⟨⟨y, y0, y9, rfl⟩, hCb, hKb⟩; have HLb := hidP (HLd.out.keep hCb hKb); clear hCb hKb))
                  have y8 := y9 (by omega)
                  obtain ⟨yj, rfl⟩ := Int.eq_ofNat_of_zero_le y0
                  refine hK.out _ _ trivial (fun hHeld => ?_)
                  clear hK K
                  refine wpAnyH_ready (rs := [7]) (by kernel_rfl) (by simp) ?_
                  refine AllReadyH.cons rfl (fun K hK => ?_) AllReadyH.nil
                  have hcap := HLb.out.kr.ol.caps.2.1
                  have hlen := HLb.out.kr.hl
                  simp only at hcap hlen
                  have e1 : (0 : Int) ≤ (yj : Int) := by omega
                  have e2 : (yj : Int) ≤ (lc1 : Int) := by omega
                  have e3 : yj ≤ lc1 := by omega
                  go_simp
                  refine hK.out _ _ trivial (fun hHeld => ?_)
                  clear hK K
                  refine tk 8 109 rfl ?_
                  simp only [pa]
                  refine wpAnyH_ready (rs := [9]) (by kernel_rfl) (by simp) ?_
                  refine AllReadyH.cons rfl (fun K hK => ?_) AllReadyH.nil
                  have d8 := HLb.out.bx.cel 7 _ rfl
                  have d9 := HLb.out.bx.frz
                  have dL := HLb.out.bx.lt
                  simp only at d8
                  go_simp
                  have HN8 := hidP (HLb.out.put (k' := ⟨T1, V1, B1, E1, ga1, gn1, gc1, ha1, hn1, hc1, sa1, sn1, sc1, la1, yj, lc1, ps1, bs1, es1.take yj⟩) 7 _ (.slice la1 yj lc1) rfl rfl (HLb.out.kr.take yj (by show yj ≤ ln1; omega)))
                  refine hK.out _ _ trivial (fun hHeld => ?_)
                  clear hK K
                  refine wpAnyH_done (by kernel_rfl) ?_ _
                  clear hHeld d8 d9
                  go_wp2_with fail
                  go_roundw
                  case rel => exact ⟨i - 1, ⟨T1, V1, B1, E1, ga1, gn1, gc1, ha1, hn1, hc1, sa1, sn1, sc1, la1, yj, lc1, ps1, bs1, es1.take yj⟩, ss1, by go_num, by omega, HN8.out, ⟨by show 0 ≤ (B1 : Int); omega, by show (B1 : Int) + 40 * ((i - 1 : Nat) : Int) ≤ 400; omega, by show yj + (i - 1) ≤ 40; omega, by show 0 ≤ (T1 : Int); omega, by show (T1 : Int) + ((i - 1 : Nat) : Int) ≤ 60; omega, by show 0 ≤ (E1 : Int); omega, by show (E1 : Int) + ((i - 1 : Nat) : Int) ≤ 60; omega, fun e he => ⟨(NES.out e (List.mem_of_mem_take he)).1, by have := (NES.out e (List.mem_of_mem_take he)).2; omega⟩, ngh.1, ngh.2.1, ngh.2.2⟩⟩
                  case measure => simp [intOf]; omega
                · go_simp
                  refine hK.out _ _ trivial (fun hHeld => ?_)
                  clear hK K
                  refine wpAnyH_ready (rs := [1, 6]) (by kernel_rfl) (by simp) ?_
                  refine AllReadyH.cons rfl (fun K hK => ?_) (AllReadyH.cons rfl (fun K hK => ?_) AllReadyH.nil)
                  · have c7 := HLd.out.bx.cel 7 _ rfl
                    simp only at c7
                    go_simp
                    refine hK.out _ _ trivial (fun hHeld => ?_)
                    clear hK K
                    refine wpAnyH_ready (rs := [6]) (by kernel_rfl) (by simp) ?_
                    refine AllReadyH.cons rfl (fun K hK => ?_) AllReadyH.nil
                    go_simp
                    go_wp2_with (first | (go_at_call 58; refine (l1Below_any c a len cap ln1 _ HLd.out.cur).mono ?_; rintro e Xb ⟨⟨y, y0, y9, rfl⟩, hCb, hKb⟩; have HLb := hidP (HLd.out.keep hCb hKb); clear hCb hKb))
                    have y8 := y9 (by omega)
                    obtain ⟨yj, rfl⟩ := Int.eq_ofNat_of_zero_le y0
                    refine hK.out _ _ trivial (fun hHeld => ?_)
                    clear hK K
                    refine wpAnyH_ready (rs := [7]) (by kernel_rfl) (by simp) ?_
                    refine AllReadyH.cons rfl (fun K hK => ?_) AllReadyH.nil
                    have hcap := HLb.out.kr.ol.caps.2.1
                    have hlen := HLb.out.kr.hl
                    simp only at hcap hlen
                    have e1 : (0 : Int) ≤ (yj : Int) := by omega
                    have e2 : (yj : Int) ≤ (lc1 : Int) := by omega
                    have e3 : yj ≤ lc1 := by omega
                    go_simp
                    refine hK.out _ _ trivial (fun hHeld => ?_)
                    clear hK K
                    refine tk 8 109 rfl ?_
                    simp only [pa]
                    refine wpAnyH_ready (rs := [9]) (by kernel_rfl) (by simp) ?_
                    refine AllReadyH.cons rfl (fun K hK => ?_) AllReadyH.nil
                    have d8 := HLb.out.bx.cel 7 _ rfl
                    have d9 := HLb.out.bx.frz
                    have dL := HLb.out.bx.lt
                    simp only at d8
                    go_simp
                    have HN8 := hidP (HLb.out.put (k' := ⟨T1, V1, B1, E1, ga1, gn1, gc1, ha1, hn1, hc1, sa1, sn1, sc1, la1, yj, lc1, ps1, bs1, es1.take yj⟩) 7 _ (.slice la1 yj lc1) rfl rfl (HLb.out.kr.take yj (by show yj ≤ ln1; omega)))
                    refine hK.out _ _ trivial (fun hHeld => ?_)
                    clear hK K
                    refine wpAnyH_done (by kernel_rfl) ?_ _
                    clear hHeld d8 d9
                    go_wp2_with fail
                    go_roundw
                    case rel => exact ⟨i - 1, ⟨T1, V1, B1, E1, ga1, gn1, gc1, ha1, hn1, hc1, sa1, sn1, sc1, la1, yj, lc1, ps1, bs1, es1.take yj⟩, ss1, by go_num, by omega, HN8.out, ⟨by show 0 ≤ (B1 : Int); omega, by show (B1 : Int) + 40 * ((i - 1 : Nat) : Int) ≤ 400; omega, by show yj + (i - 1) ≤ 40; omega, by show 0 ≤ (T1 : Int); omega, by show (T1 : Int) + ((i - 1 : Nat) : Int) ≤ 60; omega, by show 0 ≤ (E1 : Int); omega, by show (E1 : Int) + ((i - 1 : Nat) : Int) ≤ 60; omega, fun e he => ⟨(NES.out e (List.mem_of_mem_take he)).1, by have := (NES.out e (List.mem_of_mem_take he)).2; omega⟩, ngh.1, ngh.2.1, ngh.2.2⟩⟩
                    case measure => simp [intOf]; omega
                  · go_simp
                    go_wp2_with (first | (go_at_call 58; refine (l1Below_any c a len cap ln1 _ HLd.out.cur).mono ?_; rintro e Xb ⟨⟨y, y0, y9, rfl⟩, hCb, hKb⟩; have HLb := hidP (HLd.out.keep hCb hKb); clear hCb hKb))
                    have y8 := y9 (by omega)
                    obtain ⟨yj, rfl⟩ := Int.eq_ofNat_of_zero_le y0
                    refine hK.out _ _ trivial (fun hHeld => ?_)
                    clear hK K
                    refine wpAnyH_ready (rs := [1]) (by kernel_rfl) (by simp) ?_
                    refine AllReadyH.cons rfl (fun K hK => ?_) AllReadyH.nil
                    have c7 := HLb.out.bx.cel 7 _ rfl
                    simp only at c7
                    go_simp
                    refine hK.out _ _ trivial (fun hHeld => ?_)
                    clear hK K
                    refine wpAnyH_ready (rs := [7]) (by kernel_rfl) (by simp) ?_
                    refine AllReadyH.cons rfl (fun K hK => ?_) AllReadyH.nil
                    have hcap := HLb.out.kr.ol.caps.2.1
                    have hlen := HLb.out.kr.hl
                    simp only at hcap hlen
                    have e1 : (0 : Int) ≤ (yj : Int) := by omega
                    have e2 : (yj : Int) ≤ (lc1 : Int) := by omega
                    have e3 : yj ≤ lc1 := by omega
                    go_simp
                    refine hK.out _ _ trivial (fun hHeld => ?_)
                    clear hK K
                    refine tk 8 109 rfl ?_
                    simp only [pa]
                    refine wpAnyH_ready (rs := [9]) (by kernel_rfl) (by simp) ?_
                    refine AllReadyH.cons rfl (fun K hK => ?_) AllReadyH.nil
                    have d8 := HLb.out.bx.cel 7 _ rfl
                    have d9 := HLb.out.bx.frz
                    have dL := HLb.out.bx.lt
                    simp only at d8
                    go_simp
                    have HN8 := hidP (HLb.out.put (k' := ⟨T1, V1, B1, E1, ga1, gn1, gc1, ha1, hn1, hc1, sa1, sn1, sc1, la1, yj, lc1, ps1, bs1, es1.take yj⟩) 7 _ (.slice la1 yj lc1) rfl rfl (HLb.out.kr.take yj (by show yj ≤ ln1; omega)))
                    refine hK.out _ _ trivial (fun hHeld => ?_)
                    clear hK K
                    refine wpAnyH_done (by kernel_rfl) ?_ _
                    clear hHeld d8 d9
                    go_wp2_with fail
                    go_roundw
                    case rel => exact ⟨i - 1, ⟨T1, V1, B1, E1, ga1, gn1, gc1, ha1, hn1, hc1, sa1, sn1, sc1, la1, yj, lc1, ps1, bs1, es1.take yj⟩, ss1, by go_num, by omega, HN8.out, ⟨by show 0 ≤ (B1 : Int); omega, by show (B1 : Int) + 40 * ((i - 1 : Nat) : Int) ≤ 400; omega, by show yj + (i - 1) ≤ 40; omega, by show 0 ≤ (T1 : Int); omega, by show (T1 : Int) + ((i - 1 : Nat) : Int) ≤ 60; omega, by show 0 ≤ (E1 : Int); omega, by show (E1 : Int) + ((i - 1 : Nat) : Int) ≤ 60; omega, fun e he => ⟨(NES.out e (List.mem_of_mem_take he)).1, by have := (NES.out e (List.mem_of_mem_take he)).2; omega⟩, ngh.1, ngh.2.1, ngh.2.2⟩⟩
                    case measure => simp [intOf]; omega
            · have dg3 : decide (B1 + (ln1 : Int) > B1) = false := decide_eq_false (by omega)
              have dg4 : decide (B1 < B1 + (ln1 : Int)) = false := dg3
              go_wp2_with fail
              clear c60 c61 c62 c63 c64 c65 c66 c67
              go_roundw
              case rel => exact ⟨i - 1, ⟨T1, V1, B1, E1, ga1, gn1, gc1, ha1, hn1, hc1, sa1, sn1, sc1, la1, ln1, lc1, ps1, bs1, es1⟩, ss1, by go_num, by omega, H6.out, ⟨by show 0 ≤ (B1 : Int); omega, by show (B1 : Int) + 40 * ((i - 1 : Nat) : Int) ≤ 400; omega, by show ln1 + (i - 1) ≤ 40; omega, by show 0 ≤ (T1 : Int); omega, by show (T1 : Int) + ((i - 1 : Nat) : Int) ≤ 60; omega, by show 0 ≤ (E1 : Int); omega, by show (E1 : Int) + ((i - 1 : Nat) : Int) ≤ 60; omega, fun e he => ⟨(NES.out e he).1, by have := (NES.out e he).2; omega⟩, ngh.1, ngh.2.1, ngh.2.2⟩⟩
              case measure => simp [intOf]; omega
          · have g96 : (z == 2) = false := by simpa using hz2
            clear hz hz1 hz2
            go_upto_if 31 with fail
            go_cut [8] (fun t8 Y => ∃ tt : Int, t8 = .int .i64 tt ∧ 1 ≤ tt ∧ tt + (i : Int) ≤ 60 ∧ KD w1 Y c a len cap qb ⟨T1, V1, B1, E1, ga1, gn1, gc1, ha1, hn1, hc1, sa1, sn1, sc1, la1, ln1, lc1, ps1, bs1, es1⟩ ss1)
            case first =>
              by_cases hq0 : q9 = 0
              · have g31 : (q9 == 0) = true := by simp [hq0]
                go_wp2_with fail
                go_meet
                case rel => exact ⟨1, rfl, by omega, by omega, H6.out⟩
              · have g31 : (q9 == 0) = false := by simpa using hq0
                go_wp2_with fail
                go_meet
                case rel => exact ⟨q9, rfl, by omega, by omega, H6.out⟩
            case rest =>
              obtain ⟨tt, rfl, ht1, ht2, hD⟩ := hcut
              have HX := hidP hD
              clear hD H6
              obtain ⟨c60, c61, c62, c63, c64, c65, c66, c67⟩ := HX.out.bx.k8
              have f6 := HX.out.bx.frz
              simp only at c60 c61 c62 c63 c64 c65 c66 c67
              go_upto_if 35 with fail
              go_cut [] (fun Y => ∃ Tn : Int, 1 ≤ Tn ∧ Tn + (i : Int) ≤ 60 ∧ KD w1 Y c a len cap qb ⟨Tn, V1, B1, E1, ga1, gn1, gc1, ha1, hn1, hc1, sa1, sn1, sc1, la1, ln1, lc1, ps1, bs1, es1⟩ ss1)
              case first =>
                by_cases hT : T1 < tt
                · have g35 : decide (T1 < tt) = true := decide_eq_true hT
                  have H7 := hidP (HX.out.put (k' := ⟨tt, V1, B1, E1, ga1, gn1, gc1, ha1, hn1, hc1, sa1, sn1, sc1, la1, ln1, lc1, ps1, bs1, es1⟩) 0 _ (.int .i64 tt) rfl rfl (HX.out.kr.ints tt V1 B1 E1))
                  go_wp2_with fail
                  go_meet
                  case rel => exact ⟨tt, ht1, ht2, H7.out⟩
                · have g35 : decide (T1 < tt) = false := decide_eq_false hT
                  go_wp2_with fail
                  go_meet
                  case rel => exact ⟨T1, by omega, by omega, HX.out⟩
              case rest =>
                obtain ⟨Tn, hm1, hm2, hD⟩ := hcut
                have HY := hidP hD
                clear hD HX c60 c61 c62 c63 c64 c65 c66 c67 f6
                go_wp2_with fail
                refine wp_region_held_drew (S := (fun W => W.cell? ⟨qb, 0, none⟩ = some (.int .i64 (Tn)))) (by kernel_rfl) ((HY.out.below (Below.refl _ _).drew).bx.cel 0 _ rfl) (fun hHeld => ?_)
                have HLd := hidP (HY.out.below (Below.refl _ _).drew)
                clear HY
                generalize wc.drew = Xd at *
                refine tk 0 38 rfl ?_
                simp only [pa]
                refine tk 2 40 rfl ?_
                simp only [pa]
                refine tk 3 41 rfl ?_
                simp only [pa]
                refine tk 4 42 rfl ?_
                simp only [pa]
                refine tk 5 43 rfl ?_
                simp only [pa]
                refine tk 6 44 rfl ?_
                simp only [pa]
                refine wpAnyH_ready (rs := [1, 7]) (by kernel_rfl) (by simp) ?_
                refine AllReadyH.cons rfl (fun K hK => ?_) (AllReadyH.cons rfl (fun K hK => ?_) AllReadyH.nil)
                · have c7 := HLd.out.bx.cel 7 _ rfl
                  go_simp
                  refine hK.out _ _ ?_ (fun hHeld => ?_)
                  · try dsimp only
                    exact (HLd.out.bx.cel 0 _ rfl)
                  clear hK K
                  refine wpAnyH_ready (rs := [7]) (by kernel_rfl) (by simp) ?_
                  refine AllReadyH.cons rfl (fun K hK => ?_) AllReadyH.nil
                  go_simp
                  have sA := alloc_below Xd (.cells #[.int .i64 (tt), .int .i64 (Tn)] 3)
                  have cA : Bx (Xd.alloc (.cells #[.int .i64 (tt), .int .i64 (Tn)] 3)) Xd.heap.size [.int .i64 (tt), .int .i64 (Tn)] := Bx.new Xd [.int .i64 (tt), .int .i64 (Tn)] 3
                  generalize Xd.alloc (.cells #[.int .i64 (tt), .int .i64 (Tn)] 3) = Xa at *
                  have HLa := hidP (HLd.out.below sA)
                  have HCa := hidP cA
                  clear sA cA
                  refine hK.out _ _ ?_ (fun hHeld => ?_)
                  · try dsimp only
                    exact (HLa.out.bx.cel 0 _ rfl)
                  clear hK K
                  refine wpAnyH_ready (rs := [8]) (by kernel_rfl) (by simp) ?_
                  refine AllReadyH.cons rfl (fun K hK => ?_) AllReadyH.nil
                  go_simp
                  go_wp2_with (first | (go_at_call 65; refine (l1Int_any (fun z => 1 ≤ z ∧ z + (i : Int) ≤ 60) c a len cap Xd.heap.size 2 _ HLa.out.cur (by omega) (by omega) HCa.out.lt (by have := HLd.out.cur.lt; omega) (two_cells HCa.out ⟨by omega, by omega⟩ ⟨by omega, by omega⟩)).mono ?_; rintro e Xb ⟨⟨z', hz', rfl⟩, hCb, hKb⟩; have hz' : 1 ≤ z' ∧ z' + (i : Int) ≤ 60 := hz'; have HLb := hidP (HLa.out.keep hCb hKb); clear hCb hKb))
                  refine hK.out _ _ ?_ (fun hHeld => ?_)
                  · try dsimp only
                    exact (HLb.out.bx.cel 0 _ rfl)
                  clear hK K
                  refine wpAnyH_ready (rs := [9]) (by kernel_rfl) (by simp) ?_
                  refine AllReadyH.cons rfl (fun K hK => ?_) AllReadyH.nil
                  go_simp
                  have hXs : w1.heap.size + 1 ≤ Xb.heap.size := HLb.out.rs.lt
                  have hXk : qb < Xb.heap.size := HLb.out.bx.lt
                  go_wp2_with (first | (go_at_call 60; refine (l13Entry_ok c a len cap z' (by omega) (by omega) _ HLb.out.cur).mono ?_; rintro e w6 ⟨⟨E, rfl, hE6⟩, hC6, hK6⟩; have HE6 := hidP (And.intro hE6 (And.intro hC6 hK6)); clear hE6 hC6 hK6))
                  have HL6 := hidP (HLb.out.keep HE6.out.2.1 HE6.out.2.2)
                  have HEn : Hid (EnS w6 (w1.heap.size + 1) qb E) := hidP ⟨HE6.out.1.2.2.1, HE6.out.1.2.2.2.1, En.ok_n HE6.out.1.2.1 HE6.out.1.2.2.1, OwnG.mono HE6.out.1.2.2.2.2 hXs, fun q hq => by have h1 := (OwnG.lt HE6.out.1.2.2.2.2 q hq).1; omega⟩
                  have HEk := hidP (And.intro HE6.out.1.1 HE6.out.1.2.1)
                  clear HE6 hXs hXk
                  refine hK.out _ _ ?_ (fun hHeld => ?_)
                  · try dsimp only
                    exact (HL6.out.bx.cel 0 _ rfl)
                  clear hK K
                  refine wpAnyH_ready (rs := [10]) (by kernel_rfl) (by simp) ?_
                  refine AllReadyH.cons rfl (fun K hK => ?_) AllReadyH.nil
                  go_simp
                  have sB := alloc_below w6 (.cells #[.int .i64 E.T, .int .i64 E.K, .slice E.a E.n E.c] 65)
                  have sO : OwnG KEn 65 (w6.alloc (.cells #[.int .i64 E.T, .int .i64 E.K, .slice E.a E.n E.c] 65)) (w1.heap.size + 1) (.slice (some ⟨w6.heap.size, 0, none⟩) 1 1) [E] := own_oneG KEn w6 (w1.heap.size + 1) 65 E (by have := HL6.out.rs.lt; omega)
                  generalize w6.alloc (.cells #[.int .i64 E.T, .int .i64 E.K, .slice E.a E.n E.c] 65) = w7 at *
                  have HL7 := hidP (HL6.out.below sB)
                  have HE7 : Hid (EnS w7 (w1.heap.size + 1) qb E) := hidP ⟨HEn.out.hn, HEn.out.ho, HEn.out.n4, HEn.out.own.later sB, HEn.out.nk⟩
                  have HS7 := hidP (src_rowG Try.tyEn.1 1 1 (by show 0 < 3; omega) rfl sO.row (fun h => by cases h))
                  clear sO sB
                  refine hK.out _ _ ?_ (fun hHeld => ?_)
                  · try dsimp only
                    exact (HL7.out.bx.cel 0 _ rfl)
                  clear hK K
                  refine wpAnyH_ready (rs := [11]) (by kernel_rfl) (by simp) ?_
                  refine AllReadyH.cons rfl (fun K hK => ?_) AllReadyH.nil
                  refine step_appG Try.tyEn _ rfl (.tmp 39) (.tmp 48) 27 rfl (w1.heap.size + 1) la1 ln1 lc1 1 es1 [E] (.slice (some ⟨w6.heap.size, 0, none⟩) 1 1) rfl HL7.out.kr.hl rfl HL7.out.kr.ol rfl HS7.out (by have h2 := HL7.out.kr.hl; simp only at h2; omega) (by have := HL7.out.rs.lt; omega) ?_
                  intro a8 c8 w8 ho8 hg8 ht8
                  have HG8 := hidP (HL7.out.grown hg8)
                  have HK8 := hidP (And.intro ho8 (And.intro hg8 ht8))
                  clear ho8 hg8 ht8
                  refine hK.out _ _ ?_ (fun hHeld => ?_)
                  · try dsimp only
                    exact (HG8.out.2.2.2.cel 0 _ rfl)
                  clear hK K
                  refine tk 12 50 rfl ?_
                  simp only [Act.put, List.setIfInBounds_toArray]
                  refine wpAnyH_ready (rs := [13]) (by kernel_rfl) (by simp) ?_
                  refine AllReadyH.cons rfl (fun K hK => ?_) AllReadyH.nil
                  have d8 := HG8.out.2.2.2.cel 7 _ rfl
                  have d9 := HG8.out.2.2.2.frz
                  have dL := HG8.out.2.2.2.lt
                  go_simp
                  have HN8 : Hid (KD w1 (w8.setCell ⟨qb, 7, none⟩ (.slice a8 (ln1 + 1) c8)) c a len cap qb ⟨Tn, V1, B1, E1, ga1, gn1, gc1, ha1, hn1, hc1, sa1, sn1, sc1, a8, ln1 + 1, c8, ps1, bs1, es1 ++ [E]⟩ ss1) := by
                    have hr := KR.app14 HL7.out HK8.out.2.1 HK8.out.1 HK8.out.2.2 HE7.out
                    have l1 := HL7.out.hc
                    have l2 := HL7.out.lt
                    exact hidP ⟨HG8.out.1.far (by omega) _, HG8.out.2.1.setNew l1 (by omega) _, l1, HG8.out.2.2.1.far (by omega) _, HG8.out.2.2.2.set 7 _ _ rfl, l2, hr.set 7 _⟩
                  refine hK.out _ _ ?_ (fun hHeld => ?_)
                  · try dsimp only
                    exact (HN8.out.bx.cel 0 _ rfl)
                  clear hK K
                  refine wpAnyH_done (by kernel_rfl) ?_ _
                  clear hHeld d8 d9
                  go_wp2_with fail
                  go_roundw
                  case rel => exact ⟨i - 1, ⟨Tn, V1, B1, E1, ga1, gn1, gc1, ha1, hn1, hc1, sa1, sn1, sc1, a8, ln1 + 1, c8, ps1, bs1, es1 ++ [E]⟩, ss1, by go_num, by omega, HN8.out, ⟨by show 0 ≤ (B1 : Int); omega, by show (B1 : Int) + 40 * ((i - 1 : Nat) : Int) ≤ 400; omega, by show ln1 + 1 + (i - 1) ≤ 40; omega, by show 0 ≤ (Tn : Int); omega, by show (Tn : Int) + ((i - 1 : Nat) : Int) ≤ 60; omega, by show 0 ≤ (E1 : Int); omega, by show (E1 : Int) + ((i - 1 : Nat) : Int) ≤ 60; omega, es_app NES.out HEk.out.1 hz', ngh.1, ngh.2.1, ngh.2.2⟩⟩
                  case measure => simp [intOf]; omega
                · go_simp
                  have sA := alloc_below Xd (.cells #[.int .i64 (tt), .int .i64 (Tn)] 3)
                  have cA : Bx (Xd.alloc (.cells #[.int .i64 (tt), .int .i64 (Tn)] 3)) Xd.heap.size [.int .i64 (tt), .int .i64 (Tn)] := Bx.new Xd [.int .i64 (tt), .int .i64 (Tn)] 3
                  generalize Xd.alloc (.cells #[.int .i64 (tt), .int .i64 (Tn)] 3) = Xa at *
                  have HLa := hidP (HLd.out.below sA)
                  have HCa := hidP cA
                  clear sA cA
                  refine hK.out _ _ ?_ (fun hHeld => ?_)
                  · try dsimp only
                    exact (HLa.out.bx.cel 0 _ rfl)
                  clear hK K
                  refine wpAnyH_ready (rs := [1, 8]) (by kernel_rfl) (by simp) ?_
                  refine AllReadyH.cons rfl (fun K hK => ?_) (AllReadyH.cons rfl (fun K hK => ?_) AllReadyH.nil)
                  · have c7 := HLa.out.bx.cel 7 _ rfl
                    go_simp
                    refine hK.out _ _ ?_ (fun hHeld => ?_)
                    · try dsimp only
                      exact (HLa.out.bx.cel 0 _ rfl)
                    clear hK K
                    refine wpAnyH_ready (rs := [8]) (by kernel_rfl) (by simp) ?_
                    refine AllReadyH.cons rfl (fun K hK => ?_) AllReadyH.nil
                    go_simp
                    go_wp2_with (first | (go_at_call 65; refine (l1Int_any (fun z => 1 ≤ z ∧ z + (i : Int) ≤ 60) c a len cap Xd.heap.size 2 _ HLa.out.cur (by omega) (by omega) HCa.out.lt (by have := HLd.out.cur.lt; omega) (two_cells HCa.out ⟨by omega, by omega⟩ ⟨by omega, by omega⟩)).mono ?_; rintro e Xb ⟨⟨z', hz', rfl⟩, hCb, hKb⟩; have hz' : 1 ≤ z' ∧ z' + (i : Int) ≤ 60 := hz'; have HLb := hidP (HLa.out.keep hCb hKb); clear hCb hKb))
                    refine hK.out _ _ ?_ (fun hHeld => ?_)
                    · try dsimp only
                      exact (HLb.out.bx.cel 0 _ rfl)
                    clear hK K
                    refine wpAnyH_ready (rs := [9]) (by kernel_rfl) (by simp) ?_
                    refine AllReadyH.cons rfl (fun K hK => ?_) AllReadyH.nil
                    go_simp
                    have hXs : w1.heap.size + 1 ≤ Xb.heap.size := HLb.out.rs.lt
                    have hXk : qb < Xb.heap.size := HLb.out.bx.lt
                    go_wp2_with (first | (go_at_call 60; refine (l13Entry_ok c a len cap z' (by omega) (by omega) _ HLb.out.cur).mono ?_; rintro e w6 ⟨⟨E, rfl, hE6⟩, hC6, hK6⟩; have HE6 := hidP (And.intro hE6 (And.intro hC6 hK6)); clear hE6 hC6 hK6))
                    have HL6 := hidP (HLb.out.keep HE6.out.2.1 HE6.out.2.2)
                    have HEn : Hid (EnS w6 (w1.heap.size + 1) qb E) := hidP ⟨HE6.out.1.2.2.1, HE6.out.1.2.2.2.1, En.ok_n HE6.out.1.2.1 HE6.out.1.2.2.1, OwnG.mono HE6.out.1.2.2.2.2 hXs, fun q hq => by have h1 := (OwnG.lt HE6.out.1.2.2.2.2 q hq).1; omega⟩
                    have HEk := hidP (And.intro HE6.out.1.1 HE6.out.1.2.1)
                    clear HE6 hXs hXk
                    refine hK.out _ _ ?_ (fun hHeld => ?_)
                    · try dsimp only
                      exact (HL6.out.bx.cel 0 _ rfl)
                    clear hK K
                    refine wpAnyH_ready (rs := [10]) (by kernel_rfl) (by simp) ?_
                    refine AllReadyH.cons rfl (fun K hK => ?_) AllReadyH.nil
                    go_simp
                    have sB := alloc_below w6 (.cells #[.int .i64 E.T, .int .i64 E.K, .slice E.a E.n E.c] 65)
                    have sO : OwnG KEn 65 (w6.alloc (.cells #[.int .i64 E.T, .int .i64 E.K, .slice E.a E.n E.c] 65)) (w1.heap.size + 1) (.slice (some ⟨w6.heap.size, 0, none⟩) 1 1) [E] := own_oneG KEn w6 (w1.heap.size + 1) 65 E (by have := HL6.out.rs.lt; omega)
                    generalize w6.alloc (.cells #[.int .i64 E.T, .int .i64 E.K, .slice E.a E.n E.c] 65) = w7 at *
                    have HL7 := hidP (HL6.out.below sB)
                    have HE7 : Hid (EnS w7 (w1.heap.size + 1) qb E) := hidP ⟨HEn.out.hn, HEn.out.ho, HEn.out.n4, HEn.out.own.later sB, HEn.out.nk⟩
                    have HS7 := hidP (src_rowG Try.tyEn.1 1 1 (by show 0 < 3; omega) rfl sO.row (fun h => by cases h))
                    clear sO sB
                    refine hK.out _ _ ?_ (fun hHeld => ?_)
                    · try dsimp only
                      exact (HL7.out.bx.cel 0 _ rfl)
                    clear hK K
                    refine wpAnyH_ready (rs := [11]) (by kernel_rfl) (by simp) ?_
                    refine AllReadyH.cons rfl (fun K hK => ?_) AllReadyH.nil
                    refine step_appG Try.tyEn _ rfl (.tmp 39) (.tmp 48) 27 rfl (w1.heap.size + 1) la1 ln1 lc1 1 es1 [E] (.slice (some ⟨w6.heap.size, 0, none⟩) 1 1) rfl HL7.out.kr.hl rfl HL7.out.kr.ol rfl HS7.out (by have h2 := HL7.out.kr.hl; simp only at h2; omega) (by have := HL7.out.rs.lt; omega) ?_
                    intro a8 c8 w8 ho8 hg8 ht8
                    have HG8 := hidP (HL7.out.grown hg8)
                    have HK8 := hidP (And.intro ho8 (And.intro hg8 ht8))
                    clear ho8 hg8 ht8
                    refine hK.out _ _ ?_ (fun hHeld => ?_)
                    · try dsimp only
                      exact (HG8.out.2.2.2.cel 0 _ rfl)
                    clear hK K
                    refine tk 12 50 rfl ?_
                    simp only [Act.put, List.setIfInBounds_toArray]
                    refine wpAnyH_ready (rs := [13]) (by kernel_rfl) (by simp) ?_
                    refine AllReadyH.cons rfl (fun K hK => ?_) AllReadyH.nil
                    have d8 := HG8.out.2.2.2.cel 7 _ rfl
                    have d9 := HG8.out.2.2.2.frz
                    have dL := HG8.out.2.2.2.lt
                    go_simp
                    have HN8 : Hid (KD w1 (w8.setCell ⟨qb, 7, none⟩ (.slice a8 (ln1 + 1) c8)) c a len cap qb ⟨Tn, V1, B1, E1, ga1, gn1, gc1, ha1, hn1, hc1, sa1, sn1, sc1, a8, ln1 + 1, c8, ps1, bs1, es1 ++ [E]⟩ ss1) := by
                      have hr := KR.app14 HL7.out HK8.out.2.1 HK8.out.1 HK8.out.2.2 HE7.out
                      have l1 := HL7.out.hc
                      have l2 := HL7.out.lt
                      exact hidP ⟨HG8.out.1.far (by omega) _, HG8.out.2.1.setNew l1 (by omega) _, l1, HG8.out.2.2.1.far (by omega) _, HG8.out.2.2.2.set 7 _ _ rfl, l2, hr.set 7 _⟩
                    refine hK.out _ _ ?_ (fun hHeld => ?_)
                    · try dsimp only
                      exact (HN8.out.bx.cel 0 _ rfl)
                    clear hK K
                    refine wpAnyH_done (by kernel_rfl) ?_ _
                    clear hHeld d8 d9
                    go_wp2_with fail
                    go_roundw
                    case rel => exact ⟨i - 1, ⟨Tn, V1, B1, E1, ga1, gn1, gc1, ha1, hn1, hc1, sa1, sn1, sc1, a8, ln1 + 1, c8, ps1, bs1, es1 ++ [E]⟩, ss1, by go_num, by omega, HN8.out, ⟨by show 0 ≤ (B1 : Int); omega, by show (B1 : Int) + 40 * ((i - 1 : Nat) : Int) ≤ 400; omega, by show ln1 + 1 + (i - 1) ≤ 40; omega, by show 0 ≤ (Tn : Int); omega, by show (Tn : Int) + ((i - 1 : Nat) : Int) ≤ 60; omega, by show 0 ≤ (E1 : Int); omega, by show (E1 : Int) + ((i - 1 : Nat) : Int) ≤ 60; omega, es_app NES.out HEk.out.1 hz', ngh.1, ngh.2.1, ngh.2.2⟩⟩
                    case measure => simp [intOf]; omega
                  · go_simp
                    go_wp2_with (first | (go_at_call 65; refine (l1Int_any (fun z => 1 ≤ z ∧ z + (i : Int) ≤ 60) c a len cap Xd.heap.size 2 _ HLa.out.cur (by omega) (by omega) HCa.out.lt (by have := HLd.out.cur.lt; omega) (two_cells HCa.out ⟨by omega, by omega⟩ ⟨by omega, by omega⟩)).mono ?_; rintro e Xb ⟨⟨z', hz', rfl⟩, hCb, hKb⟩; have hz' : 1 ≤ z' ∧ z' + (i : Int) ≤ 60 := hz'; have HLb := hidP (HLa.out.keep hCb hKb); clear hCb hKb))
                    refine hK.out _ _ ?_ (fun hHeld => ?_)
                    · try dsimp only
                      exact (HLb.out.bx.cel 0 _ rfl)
                    clear hK K
                    refine wpAnyH_ready (rs := [1, 9]) (by kernel_rfl) (by simp) ?_
                    refine AllReadyH.cons rfl (fun K hK => ?_) (AllReadyH.cons rfl (fun K hK => ?_) AllReadyH.nil)
                    · have c7 := HLb.out.bx.cel 7 _ rfl
                      go_simp
                      refine hK.out _ _ ?_ (fun hHeld => ?_)
                      · try dsimp only
                        exact (HLb.out.bx.cel 0 _ rfl)
                      clear hK K
                      refine wpAnyH_ready (rs := [9]) (by kernel_rfl) (by simp) ?_
                      refine AllReadyH.cons rfl (fun K hK => ?_) AllReadyH.nil
                      go_simp
                      have hXs : w1.heap.size + 1 ≤ Xb.heap.size := HLb.out.rs.lt
                      have hXk : qb < Xb.heap.size := HLb.out.bx.lt
                      go_wp2_with (first | (go_at_call 60; refine (l13Entry_ok c a len cap z' (by omega) (by omega) _ HLb.out.cur).mono ?_; rintro e w6 ⟨⟨E, rfl, hE6⟩, hC6, hK6⟩; have HE6 := hidP (And.intro hE6 (And.intro hC6 hK6)); clear hE6 hC6 hK6))
                      have HL6 := hidP (HLb.out.keep HE6.out.2.1 HE6.out.2.2)
                      have HEn : Hid (EnS w6 (w1.heap.size + 1) qb E) := hidP ⟨HE6.out.1.2.2.1, HE6.out.1.2.2.2.1, En.ok_n HE6.out.1.2.1 HE6.out.1.2.2.1, OwnG.mono HE6.out.1.2.2.2.2 hXs, fun q hq => by have h1 := (OwnG.lt HE6.out.1.2.2.2.2 q hq).1; omega⟩
                      have HEk := hidP (And.intro HE6.out.1.1 HE6.out.1.2.1)
                      clear HE6 hXs hXk
                      refine hK.out _ _ ?_ (fun hHeld => ?_)
                      · try dsimp only
                        exact (HL6.out.bx.cel 0 _ rfl)
                      clear hK K
                      refine wpAnyH_ready (rs := [10]) (by kernel_rfl) (by simp) ?_
                      refine AllReadyH.cons rfl (fun K hK => ?_) AllReadyH.nil
                      go_simp
                      have sB := alloc_below w6 (.cells #[.int .i64 E.T, .int .i64 E.K, .slice E.a E.n E.c] 65)
                      have sO : OwnG KEn 65 (w6.alloc (.cells #[.int .i64 E.T, .int .i64 E.K, .slice E.a E.n E.c] 65)) (w1.heap.size + 1) (.slice (some ⟨w6.heap.size, 0, none⟩) 1 1) [E] := own_oneG KEn w6 (w1.heap.size + 1) 65 E (by have := HL6.out.rs.lt; omega)
                      generalize w6.alloc (.cells #[.int .i64 E.T, .int .i64 E.K, .slice E.a E.n E.c] 65) = w7 at *
                      have HL7 := hidP (HL6.out.below sB)
                      have HE7 : Hid (EnS w7 (w1.heap.size + 1) qb E) := hidP ⟨HEn.out.hn, HEn.out.ho, HEn.out.n4, HEn.out.own.later sB, HEn.out.nk⟩
                      have HS7 := hidP (src_rowG Try.tyEn.1 1 1 (by show 0 < 3; omega) rfl sO.row (fun h => by cases h))
                      clear sO sB
                      refine hK.out _ _ ?_ (fun hHeld => ?_)
                      · try dsimp only
                        exact (HL7.out.bx.cel 0 _ rfl)
                      clear hK K
                      refine wpAnyH_ready (rs := [11]) (by kernel_rfl) (by simp) ?_
                      refine AllReadyH.cons rfl (fun K hK => ?_) AllReadyH.nil
                      refine step_appG Try.tyEn _ rfl (.tmp 39) (.tmp 48) 27 rfl (w1.heap.size + 1) la1 ln1 lc1 1 es1 [E] (.slice (some ⟨w6.heap.size, 0, none⟩) 1 1) rfl HL7.out.kr.hl rfl HL7.out.kr.ol rfl HS7.out (by have h2 := HL7.out.kr.hl; simp only at h2; omega) (by have := HL7.out.rs.lt; omega) ?_
                      intro a8 c8 w8 ho8 hg8 ht8
                      have HG8 := hidP (HL7.out.grown hg8)
                      have HK8 := hidP (And.intro ho8 (And.intro hg8 ht8))
                      clear ho8 hg8 ht8
                      refine hK.out _ _ ?_ (fun hHeld => ?_)
                      · try dsimp only
                        exact (HG8.out.2.2.2.cel 0 _ rfl)
                      clear hK K
                      refine tk 12 50 rfl ?_
                      simp only [Act.put, List.setIfInBounds_toArray]
                      refine wpAnyH_ready (rs := [13]) (by kernel_rfl) (by simp) ?_
                      refine AllReadyH.cons rfl (fun K hK => ?_) AllReadyH.nil
                      have d8 := HG8.out.2.2.2.cel 7 _ rfl
                      have d9 := HG8.out.2.2.2.frz
                      have dL := HG8.out.2.2.2.lt
                      go_simp
                      have HN8 : Hid (KD w1 (w8.setCell ⟨qb, 7, none⟩ (.slice a8 (ln1 + 1) c8)) c a len cap qb ⟨Tn, V1, B1, E1, ga1, gn1, gc1, ha1, hn1, hc1, sa1, sn1, sc1, a8, ln1 + 1, c8, ps1, bs1, es1 ++ [E]⟩ ss1) := by
                        have hr := KR.app14 HL7.out HK8.out.2.1 HK8.out.1 HK8.out.2.2 HE7.out
                        have l1 := HL7.out.hc
                        have l2 := HL7.out.lt
                        exact hidP ⟨HG8.out.1.far (by omega) _, HG8.out.2.1.setNew l1 (by omega) _, l1, HG8.out.2.2.1.far (by omega) _, HG8.out.2.2.2.set 7 _ _ rfl, l2, hr.set 7 _⟩
                      refine hK.out _ _ ?_ (fun hHeld => ?_)
                      · try dsimp only
                        exact (HN8.out.bx.cel 0 _ rfl)
                      clear hK K
                      refine wpAnyH_done (by kernel_rfl) ?_ _
                      clear hHeld d8 d9
                      go_wp2_with fail
                      go_roundw
                      case rel => exact ⟨i - 1, ⟨Tn, V1, B1, E1, ga1, gn1, gc1, ha1, hn1, hc1, sa1, sn1, sc1, a8, ln1 + 1, c8, ps1, bs1, es1 ++ [E]⟩, ss1, by go_num, by omega, HN8.out, ⟨by show 0 ≤ (B1 : Int); omega, by show (B1 : Int) + 40 * ((i - 1 : Nat) : Int) ≤ 400; omega, by show ln1 + 1 + (i - 1) ≤ 40; omega, by show 0 ≤ (Tn : Int); omega, by show (Tn : Int) + ((i - 1 : Nat) : Int) ≤ 60; omega, by show 0 ≤ (E1 : Int); omega, by show (E1 : Int) + ((i - 1 : Nat) : Int) ≤ 60; omega, es_app NES.out HEk.out.1 hz', ngh.1, ngh.2.1, ngh.2.2⟩⟩
                      case measure => simp [intOf]; omega
                    · go_simp
                      have hXs : w1.heap.size + 1 ≤ Xb.heap.size := HLb.out.rs.lt
                      have hXk : qb < Xb.heap.size := HLb.out.bx.lt
                      go_wp2_with (first | (go_at_call 60; refine (l13Entry_ok c a len cap z' (by omega) (by omega) _ HLb.out.cur).mono ?_; rintro e w6 ⟨⟨E, rfl, hE6⟩, hC6, hK6⟩; have HE6 := hidP (And.intro hE6 (And.intro hC6 hK6)); clear hE6 hC6 hK6))
                      have HL6 := hidP (HLb.out.keep HE6.out.2.1 HE6.out.2.2)
                      have HEn : Hid (EnS w6 (w1.heap.size + 1) qb E) := hidP ⟨HE6.out.1.2.2.1, HE6.out.1.2.2.2.1, En.ok_n HE6.out.1.2.1 HE6.out.1.2.2.1, OwnG.mono HE6.out.1.2.2.2.2 hXs, fun q hq => by have h1 := (OwnG.lt HE6.out.1.2.2.2.2 q hq).1; omega⟩
                      have HEk := hidP (And.intro HE6.out.1.1 HE6.out.1.2.1)
                      clear HE6 hXs hXk
                      refine hK.out _ _ ?_ (fun hHeld => ?_)
                      · try dsimp only
                        exact (HL6.out.bx.cel 0 _ rfl)
                      clear hK K
                      refine wpAnyH_ready (rs := [1, 10]) (by kernel_rfl) (by simp) ?_
                      refine AllReadyH.cons rfl (fun K hK => ?_) (AllReadyH.cons rfl (fun K hK => ?_) AllReadyH.nil)
                      · have c7 := HL6.out.bx.cel 7 _ rfl
                        go_simp
                        refine hK.out _ _ ?_ (fun hHeld => ?_)
                        · try dsimp only
                          exact (HL6.out.bx.cel 0 _ rfl)
                        clear hK K
                        refine wpAnyH_ready (rs := [10]) (by kernel_rfl) (by simp) ?_
                        refine AllReadyH.cons rfl (fun K hK => ?_) AllReadyH.nil
                        go_simp
                        have sB := alloc_below w6 (.cells #[.int .i64 E.T, .int .i64 E.K, .slice E.a E.n E.c] 65)
                        have sO : OwnG KEn 65 (w6.alloc (.cells #[.int .i64 E.T, .int .i64 E.K, .slice E.a E.n E.c] 65)) (w1.heap.size + 1) (.slice (some ⟨w6.heap.size, 0, none⟩) 1 1) [E] := own_oneG KEn w6 (w1.heap.size + 1) 65 E (by have := HL6.out.rs.lt; omega)
                        generalize w6.alloc (.cells #[.int .i64 E.T, .int .i64 E.K, .slice E.a E.n E.c] 65) = w7 at *
                        have HL7 := hidP (HL6.out.below sB)
                        have HE7 : Hid (EnS w7 (w1.heap.size + 1) qb E) := hidP ⟨HEn.out.hn, HEn.out.ho, HEn.out.n4, HEn.out.own.later sB, HEn.out.nk⟩
                        have HS7 := hidP (src_rowG Try.tyEn.1 1 1 (by show 0 < 3; omega) rfl sO.row (fun h => by cases h))
                        clear sO sB
                        refine hK.out _ _ ?_ (fun hHeld => ?_)
                        · try dsimp only
                          exact (HL7.out.bx.cel 0 _ rfl)
                        clear hK K
                        refine wpAnyH_ready (rs := [11]) (by kernel_rfl) (by simp) ?_
                        refine AllReadyH.cons rfl (fun K hK => ?_) AllReadyH.nil
                        refine step_appG Try.tyEn _ rfl (.tmp 39) (.tmp 48) 27 rfl (w1.heap.size + 1) la1 ln1 lc1 1 es1 [E] (.slice (some ⟨w6.heap.size, 0, none⟩) 1 1) rfl HL7.out.kr.hl rfl HL7.out.kr.ol rfl HS7.out (by have h2 := HL7.out.kr.hl; simp only at h2; omega) (by have := HL7.out.rs.lt; omega) ?_
                        intro a8 c8 w8 ho8 hg8 ht8
                        have HG8 := hidP (HL7.out.grown hg8)
                        have HK8 := hidP (And.intro ho8 (And.intro hg8 ht8))
                        clear ho8 hg8 ht8
                        refine hK.out _ _ ?_ (fun hHeld => ?_)
                        · try dsimp only
                          exact (HG8.out.2.2.2.cel 0 _ rfl)
                        clear hK K
                        refine tk 12 50 rfl ?_
                        simp only [Act.put, List.setIfInBounds_toArray]
                        refine wpAnyH_ready (rs := [13]) (by kernel_rfl) (by simp) ?_
                        refine AllReadyH.cons rfl (fun K hK => ?_) AllReadyH.nil
                        have d8 := HG8.out.2.2.2.cel 7 _ rfl
                        have d9 := HG8.out.2.2.2.frz
                        have dL := HG8.out.2.2.2.lt
                        go_simp
                        have HN8 : Hid (KD w1 (w8.setCell ⟨qb, 7, none⟩ (.slice a8 (ln1 + 1) c8)) c a len cap qb ⟨Tn, V1, B1, E1, ga1, gn1, gc1, ha1, hn1, hc1, sa1, sn1, sc1, a8, ln1 + 1, c8, ps1, bs1, es1 ++ [E]⟩ ss1) := by
                          have hr := KR.app14 HL7.out HK8.out.2.1 HK8.out.1 HK8.out.2.2 HE7.out
                          have l1 := HL7.out.hc
                          have l2 := HL7.out.lt
                          exact hidP ⟨HG8.out.1.far (by omega) _, HG8.out.2.1.setNew l1 (by omega) _, l1, HG8.out.2.2.1.far (by omega) _, HG8.out.2.2.2.set 7 _ _ rfl, l2, hr.set 7 _⟩
                        refine hK.out _ _ ?_ (fun hHeld => ?_)
                        · try dsimp only
                          exact (HN8.out.bx.cel 0 _ rfl)
                        clear hK K
                        refine wpAnyH_done (by kernel_rfl) ?_ _
                        clear hHeld d8 d9
                        go_wp2_with fail
                        go_roundw
                        case rel => exact ⟨i - 1, ⟨Tn, V1, B1, E1, ga1, gn1, gc1, ha1, hn1, hc1, sa1, sn1, sc1, a8, ln1 + 1, c8, ps1, bs1, es1 ++ [E]⟩, ss1, by go_num, by omega, HN8.out, ⟨by show 0 ≤ (B1 : Int); omega, by show (B1 : Int) + 40 * ((i - 1 : Nat) : Int) ≤ 400; omega, by show ln1 + 1 + (i - 1) ≤ 40; omega, by show 0 ≤ (Tn : Int); omega, by show (Tn : Int) + ((i - 1 : Nat) : Int) ≤ 60; omega, by show 0 ≤ (E1 : Int); omega, by show (E1 : Int) + ((i - 1 : Nat) : Int) ≤ 60; omega, es_app NES.out HEk.out.1 hz', ngh.1, ngh.2.1, ngh.2.2⟩⟩
                        case measure => simp [intOf]; omega
                      · go_simp
                        have sB := alloc_below w6 (.cells #[.int .i64 E.T, .int .i64 E.K, .slice E.a E.n E.c] 65)
                        have sO : OwnG KEn 65 (w6.alloc (.cells #[.int .i64 E.T, .int .i64 E.K, .slice E.a E.n E.c] 65)) (w1.heap.size + 1) (.slice (some ⟨w6.heap.size, 0, none⟩) 1 1) [E] := own_oneG KEn w6 (w1.heap.size + 1) 65 E (by have := HL6.out.rs.lt; omega)
                        generalize w6.alloc (.cells #[.int .i64 E.T, .int .i64 E.K, .slice E.a E.n E.c] 65) = w7 at *
                        have HL7 := hidP (HL6.out.below sB)
                        have HE7 : Hid (EnS w7 (w1.heap.size + 1) qb E) := hidP ⟨HEn.out.hn, HEn.out.ho, HEn.out.n4, HEn.out.own.later sB, HEn.out.nk⟩
                        have HS7 := hidP (src_rowG Try.tyEn.1 1 1 (by show 0 < 3; omega) rfl sO.row (fun h => by cases h))
                        clear sO sB
                        refine hK.out _ _ ?_ (fun hHeld => ?_)
                        · try dsimp only
                          exact (HL7.out.bx.cel 0 _ rfl)
                        clear hK K
                        refine wpAnyH_ready (rs := [1]) (by kernel_rfl) (by simp) ?_
                        refine AllReadyH.cons rfl (fun K hK => ?_) AllReadyH.nil
                        have c7 := HL7.out.bx.cel 7 _ rfl
                        go_simp
                        refine hK.out _ _ ?_ (fun hHeld => ?_)
                        · try dsimp only
                          exact (HL7.out.bx.cel 0 _ rfl)
                        clear hK K
                        refine wpAnyH_ready (rs := [11]) (by kernel_rfl) (by simp) ?_
                        refine AllReadyH.cons rfl (fun K hK => ?_) AllReadyH.nil
                        refine step_appG Try.tyEn _ rfl (.tmp 39) (.tmp 48) 27 rfl (w1.heap.size + 1) la1 ln1 lc1 1 es1 [E] (.slice (some ⟨w6.heap.size, 0, none⟩) 1 1) rfl HL7.out.kr.hl rfl HL7.out.kr.ol rfl HS7.out (by have h2 := HL7.out.kr.hl; simp only at h2; omega) (by have := HL7.out.rs.lt; omega) ?_
                        intro a8 c8 w8 ho8 hg8 ht8
                        have HG8 := hidP (HL7.out.grown hg8)
                        have HK8 := hidP (And.intro ho8 (And.intro hg8 ht8))
                        clear ho8 hg8 ht8
                        refine hK.out _ _ ?_ (fun hHeld => ?_)
                        · try dsimp only
                          exact (HG8.out.2.2.2.cel 0 _ rfl)
                        clear hK K
                        refine tk 12 50 rfl ?_
                        simp only [Act.put, List.setIfInBounds_toArray]
                        refine wpAnyH_ready (rs := [13]) (by kernel_rfl) (by simp) ?_
                        refine AllReadyH.cons rfl (fun K hK => ?_) AllReadyH.nil
                        have d8 := HG8.out.2.2.2.cel 7 _ rfl
                        have d9 := HG8.out.2.2.2.frz
                        have dL := HG8.out.2.2.2.lt
                        go_simp
                        have HN8 : Hid (KD w1 (w8.setCell ⟨qb, 7, none⟩ (.slice a8 (ln1 + 1) c8)) c a len cap qb ⟨Tn, V1, B1, E1, ga1, gn1, gc1, ha1, hn1, hc1, sa1, sn1, sc1, a8, ln1 + 1, c8, ps1, bs1, es1 ++ [E]⟩ ss1) := by
                          have hr := KR.app14 HL7.out HK8.out.2.1 HK8.out.1 HK8.out.2.2 HE7.out
                          have l1 := HL7.out.hc
                          have l2 := HL7.out.lt
                          exact hidP ⟨HG8.out.1.far (by omega) _, HG8.out.2.1.setNew l1 (by omega) _, l1, HG8.out.2.2.1.far (by omega) _, HG8.out.2.2.2.set 7 _ _ rfl, l2, hr.set 7 _⟩
                        refine hK.out _ _ ?_ (fun hHeld => ?_)
                        · try dsimp only
                          exact (HN8.out.bx.cel 0 _ rfl)
                        clear hK K
                        refine wpAnyH_done (by kernel_rfl) ?_ _
                        clear hHeld d8 d9
                        go_wp2_with fail
                        go_roundw
                        case rel => exact ⟨i - 1, ⟨Tn, V1, B1, E1, ga1, gn1, gc1, ha1, hn1, hc1, sa1, sn1, sc1, a8, ln1 + 1, c8, ps1, bs1, es1 ++ [E]⟩, ss1, by go_num, by omega, HN8.out, ⟨by show 0 ≤ (B1 : Int); omega, by show (B1 : Int) + 40 * ((i - 1 : Nat) : Int) ≤ 400; omega, by show ln1 + 1 + (i - 1) ≤ 40; omega, by show 0 ≤ (Tn : Int); omega, by show (Tn : Int) + ((i - 1 : Nat) : Int) ≤ 60; omega, by show 0 ≤ (E1 : Int); omega, by show (E1 : Int) + ((i - 1 : Nat) : Int) ≤ 60; omega, es_app NES.out HEk.out.1 hz', ngh.1, ngh.2.1, ngh.2.2⟩⟩
                        case measure => simp [intOf]; omega
    · have dg1 : decide ((i : Int) > 0) = false := decide_eq_false (by omega)
      have dg2 : decide ((0 : Int) < (i : Int)) = false := dg1
      obtain ⟨c50, c51, c52, c53, c54, c55, c56, c57⟩ := H5.out.bx.k8
      have r50 := H5.out.rs.cel 0 _ rfl
      have r51 := H5.out.rs.cel 1 _ rfl
      have r52 := H5.out.rs.cel 2 _ rfl
      have r53 := H5.out.rs.cel 3 _ rfl
      have r54 := H5.out.rs.cel 4 _ rfl
      have r55 := H5.out.rs.cel 5 _ rfl
      have r56 := H5.out.rs.cel 6 _ rfl
      have r57 := H5.out.rs.cel 7 _ rfl
      have sF := H5.out.rs.frz
      have n8 : w1.heap.size ≠ qb := by have := H5.out.lt; omega
      rw [hz9] at r50 r51 r52 r53 r54 r55 r56 r57 n8
      have sG : ∀ o : Nat, wr.frozen? ⟨w.heap.size + 1, o, none⟩ = false := by rw [← hz9]; exact sF
      obtain ⟨T1, V1, B1, E1, ga1, gn1, gc1, ha1, hn1, hc1, sa1, sn1, sc1, la1, ln1, lc1, ps1, bs1, es1⟩ := k1
      simp only at c50 c51 c52 c53 c54 c55 c56 c57
      have H9 := next_fin (u0 := .int .i64 T1) (u1 := .int .i64 V1) (u2 := .int .i64 B1) (u3 := .int .i64 E1) (u4 := .slice ga1 gn1 gc1) (u5 := .slice ha1 hn1 hc1) (u6 := .slice sa1 sn1 sc1) (u7 := .slice la1 ln1 lc1) H5.out HKw.out hcl
      clear sF
      go_wp2_with fail
      refine bodyPost_ret (v := Kv.v ⟨T1, V1, B1, E1, ga1, gn1, gc1, ha1, hn1, hc1, sa1, sn1, sc1, la1, ln1, lc1, ps1, bs1, es1⟩) (by simp [results, Try.results24, go_sem, r50, r51, r52, r53, r54, r55, r56, r57]) rfl ⟨⟨_, rfl, ⟨⟨T1, V1, B1, E1, ga1, gn1, gc1, ha1, hn1, hc1, sa1, sn1, sc1, la1, ln1, lc1, ps1, bs1, es1⟩, rfl⟩⟩, H9⟩

end Go.Proofs.Ytlhddiikbfobjaa
