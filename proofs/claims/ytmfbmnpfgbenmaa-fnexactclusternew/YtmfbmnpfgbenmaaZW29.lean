/-
  The specification's KeepOk: the entries.
-/
import Derived.Test.YtmfbmnpfgbenmaaZW28
import Derived.Test.YtmfbmnpfgbenmaaZW1
namespace Go.Proofs.Ytmfbmnpfgbenmaa
open Go.ChangeShapes Go.WideShapes Go.ChangeAt Go.RowKit Go.Joins Go.Deep

set_option maxRecDepth 10000 in
set_option maxHeartbeats 20000000 in
theorem sKeep_yes (k : Kv) (w : World) (h : kaB k = true) (hl : k.ln ≤ 1048576) (hr : KvR w k) (hf : ∀ e ∈ k.es, EnF e)
    (HG : ∀ W, Below w.heap.size w W → Calls Try.prog 61 #[.agg #[.slice k.ga k.gn k.gc, .slice k.ha k.hn k.hc]] W fun e w' => e = .returned (.bool (grB k.ps k.bs)) ∧ Below W.heap.size W w') :
    Calls Try.prog 59 #[k.v] w fun e w' => e = .returned (.bool (rngE k.T k.E k.es)) ∧ Below w.heap.size w w' := by
  have HR := hidP (And.intro hr.rl (And.intro hr.dt hf))
  have HN := hidP hr.hl
  clear hr hf
  obtain ⟨T, V, B, E, ga, gn, gc, ha, hn, hc, sa, sn, sc, la, ln, lc, ps, bs, es⟩ := k
  unfold kaB at h
  simp only at h hl HG HR HN
  dsimp only
  replace HG := hidP HG
  rw [Bool.and_eq_true, Bool.and_eq_true, Bool.and_eq_true, Bool.and_eq_true, Bool.and_eq_true, Bool.and_eq_true, Bool.and_eq_true, Bool.and_eq_true] at h
  obtain ⟨hT, hV, hB, hE, hq, hG, hsn, hb, hln⟩ := h
  rw [hG] at HG
  have hn : ((B == 0) != (E == 0)) = false := by show (!((B == 0) == (E == 0))) = false; rw [hq]; rfl
  have hsn2 := of_decide_eq_true hsn
  have hln2 := of_decide_eq_true hln
  have psn : decide ((sn : Int) > 20000) = false := decide_eq_false (by omega)
  have qsn : decide ((20000 : Int) < sn) = false := psn
  have pl : decide ((ln : Int) > 120) = false := decide_eq_false (by omega)
  have ql : decide ((120 : Int) < ln) = false := pl
  have H0 := hidP (fun W => l1In14 T 0 1000000 true hT W)
  have H1 := hidP (fun W => l1In14 V 0 7 true hV W)
  have H2 := hidP (fun W => l1In14 B 0 (1000000 - (ln : Int)) true hB W)
  have H3 := hidP (fun W => l1In14 E 0 T true hE W)
  clear hT hV hB hE hG hsn hln hsn2 hq
  have hb2 : ((B == 0) = false ∧ (E == 0) = false) ∨ ((B == 0) = true ∧ (E == 0) = true ∧ decide ((sn : Int) > 0) = false ∧ decide ((0 : Int) < sn) = false ∧ decide (0 < sn) = false) := by
    cases u1 : (B == 0)
    · rw [u1] at hn
      refine Or.inl ⟨rfl, ?_⟩
      cases e1 : (E == 0)
      · rfl
      · rw [e1] at hn; cases hn
    · rw [u1] at hn hb
      refine Or.inr ⟨rfl, ?_⟩
      cases e1 : (E == 0)
      · rw [e1] at hn; cases hn
      · simp only [Bool.true_and, Bool.not_eq_true'] at hb
        exact ⟨rfl, hb, hb, decide_eq_false (by have := of_decide_eq_false hb; omega)⟩
  clear hb hn
  rcases hb2 with ⟨u1, e1⟩ | ⟨u1, e1, p0, q0, r0⟩
  · go_enter Try.func59, Try.ntmps59
    simp only [List.append_eq, List.cons_append, List.nil_append]
    go_wp2_with fail
    obtain ⟨b0, b1, b2, b3, b4, b5, b6, b7⟩ := box8K w 54 (.int .i64 T) (.int .i64 V) (.int .i64 B) (.int .i64 E) (.slice ga gn gc) (.slice ha hn hc) (.slice sa sn sc) (.slice la ln lc)
    have bB := alloc_below w (.cells #[.int .i64 T, .int .i64 V, .int .i64 B, .int .i64 E, .slice ga gn gc, .slice ha hn hc, .slice sa sn sc, .slice la ln lc] 54)
    have bL : w.heap.size < (w.alloc (.cells #[.int .i64 T, .int .i64 V, .int .i64 B, .int .i64 E, .slice ga gn gc, .slice ha hn hc, .slice sa sn sc, .slice la ln lc] 54)).heap.size := by simp
    generalize w.alloc (.cells #[.int .i64 T, .int .i64 V, .int .i64 B, .int .i64 E, .slice ga gn gc, .slice ha hn hc, .slice sa sn sc, .slice la ln lc] 54) = W1 at *
    refine (H0.out _).mono ?_
    rintro e0 w0 ⟨rfl, rfl⟩
    go_wp2_with fail
    refine (H1.out _).mono ?_
    rintro e0 w0 ⟨rfl, rfl⟩
    go_wp2_with fail
    refine (H2.out _).mono ?_
    rintro e0 w0 ⟨rfl, rfl⟩
    go_wp2_with fail
    refine (H3.out _).mono ?_
    rintro e0 w0 ⟨rfl, rfl⟩
    go_wp2_with fail
    refine (HG.out _ bB).mono ?_
    rintro e0 w2 ⟨rfl, hb2⟩
    have c0 := (hb2.cell bL).trans b0
    have c1 := (hb2.cell bL).trans b1
    have c2 := (hb2.cell bL).trans b2
    have c3 := (hb2.cell bL).trans b3
    have c4 := (hb2.cell bL).trans b4
    have c5 := (hb2.cell bL).trans b5
    have c6 := (hb2.cell bL).trans b6
    have c7 := (hb2.cell bL).trans b7
    have cL := Nat.lt_of_lt_of_le bL hb2.size
    have cB := bB.trans (hb2.mono bB.size)
    clear hb2 b0 b1 b2 b3 b4 b5 b6 b7 bB bL
    have CB := hidP cB
    clear cB
    go_wp2_with fail
    clear H0 H1 H2 H3 psn qsn pl ql HG
    go_loopw [3, 4] (fun t3 t4 wr => ∃ (i : Nat) (l : Int), i ≤ ln ∧ t4 = .int .i64 i ∧ t3 = .int .i64 l ∧ rngE T l (es.drop i) = rngE T E es ∧ Below w2.heap.size w2 wr) (fun _ t4 _ => ln - (intOf t4).toNat)
    case atStart => exact ⟨0, E, Nat.zero_le _, rfl, rfl, rfl, Below.refl _ _⟩
    case round =>
      obtain ⟨i, l, hin, rfl, rfl, h1, hbr⟩ := hrel
      have HB := hidP hbr
      have d0 := (hbr.cell cL).trans c0
      have d1 := (hbr.cell cL).trans c1
      have d2 := (hbr.cell cL).trans c2
      have d3 := (hbr.cell cL).trans c3
      have d4 := (hbr.cell cL).trans c4
      have d5 := (hbr.cell cL).trans c5
      have d6 := (hbr.cell cL).trans c6
      have d7 := (hbr.cell cL).trans c7
      have hwr : w.heap.size < wr.heap.size := Nat.lt_of_lt_of_le cL hbr.size
      have HWr := hidP (CB.out.trans (hbr.mono CB.out.size))
      clear c0 c1 c2 c3 c4 c5 c6 c7
      by_cases hlt : i < ln
      · obtain ⟨p, o, e, rfl, hp, he, c0, c1, c2⟩ := rowEn HR.out.1 i (by have := HN.out; omega)
        rw [dropE he] at h1
        have hm := List.mem_of_getElem? he
        have hD := (HR.out.2.1 e hm).later HWr.out
        have HEn := hidP (fun W (hb : Below wr.heap.size wr W) => sEntry_any e W (hD.later hb) (HR.out.2.2 e hm))
        have hp2 : p < wr.heap.size := Nat.lt_of_lt_of_le hp HWr.out.size
        have x0 := (HWr.out.cell hp).trans c0
        have x1 := (HWr.out.cell hp).trans c1
        have x2 := (HWr.out.cell hp).trans c2
        have HS : Hid (((e.ok && inB e.T l T) && rngE T e.T (es.drop (i + 1))) = rngE T E es) := hidP h1
        have i0 : (0 : Int) ≤ (i : Int) := by omega
        have i1 : (i : Int) < (ln : Int) := by omega
        clear c0 c1 c2 h1 hD hbr he hp hm
        cases ho : e.ok
        · rw [ho] at HEn HS
          go_wp2_with fail
          have HSx : Hid (∀ x, Below wr.heap.size wr x → (x.cell? ⟨w.heap.size, 0, none⟩ = some (.int .i64 T) ∧ x.cell? ⟨w.heap.size, 7, none⟩ = some (.slice (some ⟨p, o, none⟩) ln lc) ∧ x.cell? ⟨p, o + i * 3, none⟩ = some (.int .i64 e.T) ∧ x.cell? ⟨p, o + i * 3 + 1, none⟩ = some (.int .i64 e.K) ∧ x.cell? ⟨p, o + i * 3 + 2, none⟩ = some (.slice e.a e.n e.c) ∧ Below wr.heap.size wr x)) := hidP fun x h =>
            ⟨(h.cell hwr).trans d0, (h.cell hwr).trans d7, (h.cell hp2).trans x0, (h.cell hp2).trans x1, (h.cell hp2).trans x2, h⟩
          refine wp_region_held_drew (S := (fun x => x.cell? ⟨w.heap.size, 0, none⟩ = some (.int .i64 T) ∧ x.cell? ⟨w.heap.size, 7, none⟩ = some (.slice (some ⟨p, o, none⟩) ln lc) ∧ x.cell? ⟨p, o + i * 3, none⟩ = some (.int .i64 e.T) ∧ x.cell? ⟨p, o + i * 3 + 1, none⟩ = some (.int .i64 e.K) ∧ x.cell? ⟨p, o + i * 3 + 2, none⟩ = some (.slice e.a e.n e.c) ∧ Below wr.heap.size wr x)) (by kernel_rfl) ?_ (fun hHeld => ?_)
          · try dsimp only
            exact HSx.out _ ((Below.refl _ _).drew)
          refine tk 0 80 rfl ?_
          simp only [pa]
          refine tk 1 81 rfl ?_
          simp only [pa]
          refine tk 2 82 rfl ?_
          simp only [pa]
          refine tk 3 83 rfl ?_
          simp only [pa]
          refine tk 4 84 rfl ?_
          simp only [pa]
          refine wpAnyH_ready (rs := [5]) (by kernel_rfl) (by simp) ?_
          refine AllReadyH.cons rfl (fun K hK => ?_) AllReadyH.nil
          go_simp
          go_wp2_with (first | (go_at_call 92; refine (HEn.out _ (hHeld.2.2.2.2.2)).mono ?_; rintro e w2 ⟨rfl, hb2⟩; have b2 := (hHeld.2.2.2.2.2).trans (hb2.mono (hHeld.2.2.2.2.2).size)))
          refine hK.out _ _ ?_ (fun hHeld => ?_)
          · try dsimp only
            exact HSx.out _ b2
          clear hK K
          refine tk 6 86 rfl ?_
          simp only [pa]
          refine tk 7 87 rfl ?_
          simp only [pa]
          refine sk 8 88 rfl ?_
          simp only [pa]
          refine sk 9 89 rfl ?_
          simp only [pa]
          refine sk 10 90 rfl ?_
          simp only [pa]
          refine sk 11 91 rfl ?_
          simp only [pa]
          refine sk 12 92 rfl ?_
          simp only [pa]
          refine sk 13 93 rfl ?_
          simp only [pa]
          refine sk 14 94 rfl ?_
          simp only [pa]
          refine sk 15 95 rfl ?_
          simp only [pa]
          refine sk 16 96 rfl ?_
          simp only [pa]
          refine sk 17 97 rfl ?_
          simp only [pa]
          refine sk 18 98 rfl ?_
          simp only [pa]
          refine tk 19 99 rfl ?_
          simp only [pa]
          have HE := hidP (hHeld.2.2.2.2.2)
          refine wpAnyH_done (by kernel_rfl) ?_ _
          clear hHeld
          go_wp2_with fail
          go_ret
          exact ⟨by rw [← HS.out]; rfl, HWr.out.trans (HE.out.mono HWr.out.size)⟩
        · rw [ho] at HEn HS
          cases hT : inB e.T l T
          · rw [hT] at HS
            have HT := hidP (fun W => l1In14 e.T l T false hT W)
            clear hT
            go_wp2_with fail
            have HSx : Hid (∀ x, Below wr.heap.size wr x → (x.cell? ⟨w.heap.size, 0, none⟩ = some (.int .i64 T) ∧ x.cell? ⟨w.heap.size, 7, none⟩ = some (.slice (some ⟨p, o, none⟩) ln lc) ∧ x.cell? ⟨p, o + i * 3, none⟩ = some (.int .i64 e.T) ∧ x.cell? ⟨p, o + i * 3 + 1, none⟩ = some (.int .i64 e.K) ∧ x.cell? ⟨p, o + i * 3 + 2, none⟩ = some (.slice e.a e.n e.c) ∧ Below wr.heap.size wr x)) := hidP fun x h =>
              ⟨(h.cell hwr).trans d0, (h.cell hwr).trans d7, (h.cell hp2).trans x0, (h.cell hp2).trans x1, (h.cell hp2).trans x2, h⟩
            refine wp_region_held_drew (S := (fun x => x.cell? ⟨w.heap.size, 0, none⟩ = some (.int .i64 T) ∧ x.cell? ⟨w.heap.size, 7, none⟩ = some (.slice (some ⟨p, o, none⟩) ln lc) ∧ x.cell? ⟨p, o + i * 3, none⟩ = some (.int .i64 e.T) ∧ x.cell? ⟨p, o + i * 3 + 1, none⟩ = some (.int .i64 e.K) ∧ x.cell? ⟨p, o + i * 3 + 2, none⟩ = some (.slice e.a e.n e.c) ∧ Below wr.heap.size wr x)) (by kernel_rfl) ?_ (fun hHeld => ?_)
            · try dsimp only
              exact HSx.out _ ((Below.refl _ _).drew)
            refine tk 0 80 rfl ?_
            simp only [pa]
            refine tk 1 81 rfl ?_
            simp only [pa]
            refine tk 2 82 rfl ?_
            simp only [pa]
            refine tk 3 83 rfl ?_
            simp only [pa]
            refine tk 4 84 rfl ?_
            simp only [pa]
            refine wpAnyH_ready (rs := [5]) (by kernel_rfl) (by simp) ?_
            refine AllReadyH.cons rfl (fun K hK => ?_) AllReadyH.nil
            go_simp
            go_wp2_with (first | (go_at_call 92; refine (HEn.out _ (hHeld.2.2.2.2.2)).mono ?_; rintro e w2 ⟨rfl, hb2⟩; have b2 := (hHeld.2.2.2.2.2).trans (hb2.mono (hHeld.2.2.2.2.2).size)))
            refine hK.out _ _ ?_ (fun hHeld => ?_)
            · try dsimp only
              exact HSx.out _ b2
            clear hK K
            refine tk 6 86 rfl ?_
            simp only [pa]
            refine tk 7 87 rfl ?_
            simp only [pa]
            refine tk 8 88 rfl ?_
            simp only [pa]
            refine tk 9 89 rfl ?_
            simp only [pa]
            refine tk 10 90 rfl ?_
            simp only [pa]
            refine tk 11 91 rfl ?_
            simp only [pa]
            refine tk 12 92 rfl ?_
            simp only [pa]
            refine tk 13 93 rfl ?_
            simp only [pa]
            refine tk 14 94 rfl ?_
            simp only [pa]
            refine tk 15 95 rfl ?_
            simp only [pa]
            refine tk 16 96 rfl ?_
            simp only [pa]
            refine wpAnyH_ready (rs := [17]) (by kernel_rfl) (by simp) ?_
            refine AllReadyH.cons rfl (fun K hK => ?_) AllReadyH.nil
            go_simp
            go_wp2_with (first | (go_at_call 17; refine (HT.out _).mono ?_; rintro e w' ⟨rfl, rfl⟩))
            refine hK.out _ _ ?_ (fun hHeld => ?_)
            · try dsimp only
              exact HSx.out _ (hHeld.2.2.2.2.2)
            clear hK K
            refine tk 18 98 rfl ?_
            simp only [pa]
            refine tk 19 99 rfl ?_
            simp only [pa]
            have HE := hidP (hHeld.2.2.2.2.2)
            refine wpAnyH_done (by kernel_rfl) ?_ _
            clear hHeld
            go_wp2_with fail
            go_ret
            exact ⟨by rw [← HS.out]; rfl, HWr.out.trans (HE.out.mono HWr.out.size)⟩
          · rw [hT] at HS
            have HT := hidP (fun W => l1In14 e.T l T true hT W)
            clear hT
            go_wp2_with fail
            have HSx : Hid (∀ x, Below wr.heap.size wr x → (x.cell? ⟨w.heap.size, 0, none⟩ = some (.int .i64 T) ∧ x.cell? ⟨w.heap.size, 7, none⟩ = some (.slice (some ⟨p, o, none⟩) ln lc) ∧ x.cell? ⟨p, o + i * 3, none⟩ = some (.int .i64 e.T) ∧ x.cell? ⟨p, o + i * 3 + 1, none⟩ = some (.int .i64 e.K) ∧ x.cell? ⟨p, o + i * 3 + 2, none⟩ = some (.slice e.a e.n e.c) ∧ Below wr.heap.size wr x)) := hidP fun x h =>
              ⟨(h.cell hwr).trans d0, (h.cell hwr).trans d7, (h.cell hp2).trans x0, (h.cell hp2).trans x1, (h.cell hp2).trans x2, h⟩
            refine wp_region_held_drew (S := (fun x => x.cell? ⟨w.heap.size, 0, none⟩ = some (.int .i64 T) ∧ x.cell? ⟨w.heap.size, 7, none⟩ = some (.slice (some ⟨p, o, none⟩) ln lc) ∧ x.cell? ⟨p, o + i * 3, none⟩ = some (.int .i64 e.T) ∧ x.cell? ⟨p, o + i * 3 + 1, none⟩ = some (.int .i64 e.K) ∧ x.cell? ⟨p, o + i * 3 + 2, none⟩ = some (.slice e.a e.n e.c) ∧ Below wr.heap.size wr x)) (by kernel_rfl) ?_ (fun hHeld => ?_)
            · try dsimp only
              exact HSx.out _ ((Below.refl _ _).drew)
            refine tk 0 80 rfl ?_
            simp only [pa]
            refine tk 1 81 rfl ?_
            simp only [pa]
            refine tk 2 82 rfl ?_
            simp only [pa]
            refine tk 3 83 rfl ?_
            simp only [pa]
            refine tk 4 84 rfl ?_
            simp only [pa]
            refine wpAnyH_ready (rs := [5]) (by kernel_rfl) (by simp) ?_
            refine AllReadyH.cons rfl (fun K hK => ?_) AllReadyH.nil
            go_simp
            go_wp2_with (first | (go_at_call 92; refine (HEn.out _ (hHeld.2.2.2.2.2)).mono ?_; rintro e w2 ⟨rfl, hb2⟩; have b2 := (hHeld.2.2.2.2.2).trans (hb2.mono (hHeld.2.2.2.2.2).size)))
            refine hK.out _ _ ?_ (fun hHeld => ?_)
            · try dsimp only
              exact HSx.out _ b2
            clear hK K
            refine tk 6 86 rfl ?_
            simp only [pa]
            refine tk 7 87 rfl ?_
            simp only [pa]
            refine tk 8 88 rfl ?_
            simp only [pa]
            refine tk 9 89 rfl ?_
            simp only [pa]
            refine tk 10 90 rfl ?_
            simp only [pa]
            refine tk 11 91 rfl ?_
            simp only [pa]
            refine tk 12 92 rfl ?_
            simp only [pa]
            refine tk 13 93 rfl ?_
            simp only [pa]
            refine tk 14 94 rfl ?_
            simp only [pa]
            refine tk 15 95 rfl ?_
            simp only [pa]
            refine tk 16 96 rfl ?_
            simp only [pa]
            refine wpAnyH_ready (rs := [17]) (by kernel_rfl) (by simp) ?_
            refine AllReadyH.cons rfl (fun K hK => ?_) AllReadyH.nil
            go_simp
            go_wp2_with (first | (go_at_call 17; refine (HT.out _).mono ?_; rintro e w' ⟨rfl, rfl⟩))
            refine hK.out _ _ ?_ (fun hHeld => ?_)
            · try dsimp only
              exact HSx.out _ (hHeld.2.2.2.2.2)
            clear hK K
            refine tk 18 98 rfl ?_
            simp only [pa]
            refine tk 19 99 rfl ?_
            simp only [pa]
            have HE := hidP (hHeld.2.2.2.2.2)
            refine wpAnyH_done (by kernel_rfl) ?_ _
            clear hHeld
            have y7 := (HE.out.cell hwr).trans d7
            have y5 := (HE.out.cell hp2).trans x0
            go_wp2_with fail
            go_roundw
            case rel => exact ⟨i + 1, e.T, by omega, by go_num, rfl, HS.out, HB.out.trans (HE.out.mono HB.out.size)⟩
            case measure => simp [intOf]; omega
      · have hiE : ln = i := by omega
        subst hiE
        rw [List.drop_of_length_le (by have := HN.out; omega)] at h1
        have HS : Hid (true = rngE T E es) := hidP h1
        clear h1 hbr
        go_wp2_with fail
        go_ret
        exact ⟨by rw [← HS.out]; rfl, HWr.out⟩
  · go_enter Try.func59, Try.ntmps59
    simp only [List.append_eq, List.cons_append, List.nil_append]
    go_wp2_with fail
    obtain ⟨b0, b1, b2, b3, b4, b5, b6, b7⟩ := box8K w 54 (.int .i64 T) (.int .i64 V) (.int .i64 B) (.int .i64 E) (.slice ga gn gc) (.slice ha hn hc) (.slice sa sn sc) (.slice la ln lc)
    have bB := alloc_below w (.cells #[.int .i64 T, .int .i64 V, .int .i64 B, .int .i64 E, .slice ga gn gc, .slice ha hn hc, .slice sa sn sc, .slice la ln lc] 54)
    have bL : w.heap.size < (w.alloc (.cells #[.int .i64 T, .int .i64 V, .int .i64 B, .int .i64 E, .slice ga gn gc, .slice ha hn hc, .slice sa sn sc, .slice la ln lc] 54)).heap.size := by simp
    generalize w.alloc (.cells #[.int .i64 T, .int .i64 V, .int .i64 B, .int .i64 E, .slice ga gn gc, .slice ha hn hc, .slice sa sn sc, .slice la ln lc] 54) = W1 at *
    refine (H0.out _).mono ?_
    rintro e0 w0 ⟨rfl, rfl⟩
    go_wp2_with fail
    refine (H1.out _).mono ?_
    rintro e0 w0 ⟨rfl, rfl⟩
    go_wp2_with fail
    refine (H2.out _).mono ?_
    rintro e0 w0 ⟨rfl, rfl⟩
    go_wp2_with fail
    refine (H3.out _).mono ?_
    rintro e0 w0 ⟨rfl, rfl⟩
    go_wp2_with fail
    refine (HG.out _ bB).mono ?_
    rintro e0 w2 ⟨rfl, hb2⟩
    have c0 := (hb2.cell bL).trans b0
    have c1 := (hb2.cell bL).trans b1
    have c2 := (hb2.cell bL).trans b2
    have c3 := (hb2.cell bL).trans b3
    have c4 := (hb2.cell bL).trans b4
    have c5 := (hb2.cell bL).trans b5
    have c6 := (hb2.cell bL).trans b6
    have c7 := (hb2.cell bL).trans b7
    have cL := Nat.lt_of_lt_of_le bL hb2.size
    have cB := bB.trans (hb2.mono bB.size)
    clear hb2 b0 b1 b2 b3 b4 b5 b6 b7 bB bL
    have CB := hidP cB
    clear cB
    go_wp2_with fail
    clear H0 H1 H2 H3 psn qsn pl ql HG
    go_loopw [3, 4] (fun t3 t4 wr => ∃ (i : Nat) (l : Int), i ≤ ln ∧ t4 = .int .i64 i ∧ t3 = .int .i64 l ∧ rngE T l (es.drop i) = rngE T E es ∧ Below w2.heap.size w2 wr) (fun _ t4 _ => ln - (intOf t4).toNat)
    case atStart => exact ⟨0, E, Nat.zero_le _, rfl, rfl, rfl, Below.refl _ _⟩
    case round =>
      obtain ⟨i, l, hin, rfl, rfl, h1, hbr⟩ := hrel
      have HB := hidP hbr
      have d0 := (hbr.cell cL).trans c0
      have d1 := (hbr.cell cL).trans c1
      have d2 := (hbr.cell cL).trans c2
      have d3 := (hbr.cell cL).trans c3
      have d4 := (hbr.cell cL).trans c4
      have d5 := (hbr.cell cL).trans c5
      have d6 := (hbr.cell cL).trans c6
      have d7 := (hbr.cell cL).trans c7
      have hwr : w.heap.size < wr.heap.size := Nat.lt_of_lt_of_le cL hbr.size
      have HWr := hidP (CB.out.trans (hbr.mono CB.out.size))
      clear c0 c1 c2 c3 c4 c5 c6 c7
      by_cases hlt : i < ln
      · obtain ⟨p, o, e, rfl, hp, he, c0, c1, c2⟩ := rowEn HR.out.1 i (by have := HN.out; omega)
        rw [dropE he] at h1
        have hm := List.mem_of_getElem? he
        have hD := (HR.out.2.1 e hm).later HWr.out
        have HEn := hidP (fun W (hb : Below wr.heap.size wr W) => sEntry_any e W (hD.later hb) (HR.out.2.2 e hm))
        have hp2 : p < wr.heap.size := Nat.lt_of_lt_of_le hp HWr.out.size
        have x0 := (HWr.out.cell hp).trans c0
        have x1 := (HWr.out.cell hp).trans c1
        have x2 := (HWr.out.cell hp).trans c2
        have HS : Hid (((e.ok && inB e.T l T) && rngE T e.T (es.drop (i + 1))) = rngE T E es) := hidP h1
        have i0 : (0 : Int) ≤ (i : Int) := by omega
        have i1 : (i : Int) < (ln : Int) := by omega
        clear c0 c1 c2 h1 hD hbr he hp hm
        cases ho : e.ok
        · rw [ho] at HEn HS
          go_wp2_with fail
          have HSx : Hid (∀ x, Below wr.heap.size wr x → (x.cell? ⟨w.heap.size, 0, none⟩ = some (.int .i64 T) ∧ x.cell? ⟨w.heap.size, 7, none⟩ = some (.slice (some ⟨p, o, none⟩) ln lc) ∧ x.cell? ⟨p, o + i * 3, none⟩ = some (.int .i64 e.T) ∧ x.cell? ⟨p, o + i * 3 + 1, none⟩ = some (.int .i64 e.K) ∧ x.cell? ⟨p, o + i * 3 + 2, none⟩ = some (.slice e.a e.n e.c) ∧ Below wr.heap.size wr x)) := hidP fun x h =>
            ⟨(h.cell hwr).trans d0, (h.cell hwr).trans d7, (h.cell hp2).trans x0, (h.cell hp2).trans x1, (h.cell hp2).trans x2, h⟩
          refine wp_region_held_drew (S := (fun x => x.cell? ⟨w.heap.size, 0, none⟩ = some (.int .i64 T) ∧ x.cell? ⟨w.heap.size, 7, none⟩ = some (.slice (some ⟨p, o, none⟩) ln lc) ∧ x.cell? ⟨p, o + i * 3, none⟩ = some (.int .i64 e.T) ∧ x.cell? ⟨p, o + i * 3 + 1, none⟩ = some (.int .i64 e.K) ∧ x.cell? ⟨p, o + i * 3 + 2, none⟩ = some (.slice e.a e.n e.c) ∧ Below wr.heap.size wr x)) (by kernel_rfl) ?_ (fun hHeld => ?_)
          · try dsimp only
            exact HSx.out _ ((Below.refl _ _).drew)
          refine tk 0 80 rfl ?_
          simp only [pa]
          refine tk 1 81 rfl ?_
          simp only [pa]
          refine tk 2 82 rfl ?_
          simp only [pa]
          refine tk 3 83 rfl ?_
          simp only [pa]
          refine tk 4 84 rfl ?_
          simp only [pa]
          refine wpAnyH_ready (rs := [5]) (by kernel_rfl) (by simp) ?_
          refine AllReadyH.cons rfl (fun K hK => ?_) AllReadyH.nil
          go_simp
          go_wp2_with (first | (go_at_call 92; refine (HEn.out _ (hHeld.2.2.2.2.2)).mono ?_; rintro e w2 ⟨rfl, hb2⟩; have b2 := (hHeld.2.2.2.2.2).trans (hb2.mono (hHeld.2.2.2.2.2).size)))
          refine hK.out _ _ ?_ (fun hHeld => ?_)
          · try dsimp only
            exact HSx.out _ b2
          clear hK K
          refine tk 6 86 rfl ?_
          simp only [pa]
          refine tk 7 87 rfl ?_
          simp only [pa]
          refine sk 8 88 rfl ?_
          simp only [pa]
          refine sk 9 89 rfl ?_
          simp only [pa]
          refine sk 10 90 rfl ?_
          simp only [pa]
          refine sk 11 91 rfl ?_
          simp only [pa]
          refine sk 12 92 rfl ?_
          simp only [pa]
          refine sk 13 93 rfl ?_
          simp only [pa]
          refine sk 14 94 rfl ?_
          simp only [pa]
          refine sk 15 95 rfl ?_
          simp only [pa]
          refine sk 16 96 rfl ?_
          simp only [pa]
          refine sk 17 97 rfl ?_
          simp only [pa]
          refine sk 18 98 rfl ?_
          simp only [pa]
          refine tk 19 99 rfl ?_
          simp only [pa]
          have HE := hidP (hHeld.2.2.2.2.2)
          refine wpAnyH_done (by kernel_rfl) ?_ _
          clear hHeld
          go_wp2_with fail
          go_ret
          exact ⟨by rw [← HS.out]; rfl, HWr.out.trans (HE.out.mono HWr.out.size)⟩
        · rw [ho] at HEn HS
          cases hT : inB e.T l T
          · rw [hT] at HS
            have HT := hidP (fun W => l1In14 e.T l T false hT W)
            clear hT
            go_wp2_with fail
            have HSx : Hid (∀ x, Below wr.heap.size wr x → (x.cell? ⟨w.heap.size, 0, none⟩ = some (.int .i64 T) ∧ x.cell? ⟨w.heap.size, 7, none⟩ = some (.slice (some ⟨p, o, none⟩) ln lc) ∧ x.cell? ⟨p, o + i * 3, none⟩ = some (.int .i64 e.T) ∧ x.cell? ⟨p, o + i * 3 + 1, none⟩ = some (.int .i64 e.K) ∧ x.cell? ⟨p, o + i * 3 + 2, none⟩ = some (.slice e.a e.n e.c) ∧ Below wr.heap.size wr x)) := hidP fun x h =>
              ⟨(h.cell hwr).trans d0, (h.cell hwr).trans d7, (h.cell hp2).trans x0, (h.cell hp2).trans x1, (h.cell hp2).trans x2, h⟩
            refine wp_region_held_drew (S := (fun x => x.cell? ⟨w.heap.size, 0, none⟩ = some (.int .i64 T) ∧ x.cell? ⟨w.heap.size, 7, none⟩ = some (.slice (some ⟨p, o, none⟩) ln lc) ∧ x.cell? ⟨p, o + i * 3, none⟩ = some (.int .i64 e.T) ∧ x.cell? ⟨p, o + i * 3 + 1, none⟩ = some (.int .i64 e.K) ∧ x.cell? ⟨p, o + i * 3 + 2, none⟩ = some (.slice e.a e.n e.c) ∧ Below wr.heap.size wr x)) (by kernel_rfl) ?_ (fun hHeld => ?_)
            · try dsimp only
              exact HSx.out _ ((Below.refl _ _).drew)
            refine tk 0 80 rfl ?_
            simp only [pa]
            refine tk 1 81 rfl ?_
            simp only [pa]
            refine tk 2 82 rfl ?_
            simp only [pa]
            refine tk 3 83 rfl ?_
            simp only [pa]
            refine tk 4 84 rfl ?_
            simp only [pa]
            refine wpAnyH_ready (rs := [5]) (by kernel_rfl) (by simp) ?_
            refine AllReadyH.cons rfl (fun K hK => ?_) AllReadyH.nil
            go_simp
            go_wp2_with (first | (go_at_call 92; refine (HEn.out _ (hHeld.2.2.2.2.2)).mono ?_; rintro e w2 ⟨rfl, hb2⟩; have b2 := (hHeld.2.2.2.2.2).trans (hb2.mono (hHeld.2.2.2.2.2).size)))
            refine hK.out _ _ ?_ (fun hHeld => ?_)
            · try dsimp only
              exact HSx.out _ b2
            clear hK K
            refine tk 6 86 rfl ?_
            simp only [pa]
            refine tk 7 87 rfl ?_
            simp only [pa]
            refine tk 8 88 rfl ?_
            simp only [pa]
            refine tk 9 89 rfl ?_
            simp only [pa]
            refine tk 10 90 rfl ?_
            simp only [pa]
            refine tk 11 91 rfl ?_
            simp only [pa]
            refine tk 12 92 rfl ?_
            simp only [pa]
            refine tk 13 93 rfl ?_
            simp only [pa]
            refine tk 14 94 rfl ?_
            simp only [pa]
            refine tk 15 95 rfl ?_
            simp only [pa]
            refine tk 16 96 rfl ?_
            simp only [pa]
            refine wpAnyH_ready (rs := [17]) (by kernel_rfl) (by simp) ?_
            refine AllReadyH.cons rfl (fun K hK => ?_) AllReadyH.nil
            go_simp
            go_wp2_with (first | (go_at_call 17; refine (HT.out _).mono ?_; rintro e w' ⟨rfl, rfl⟩))
            refine hK.out _ _ ?_ (fun hHeld => ?_)
            · try dsimp only
              exact HSx.out _ (hHeld.2.2.2.2.2)
            clear hK K
            refine tk 18 98 rfl ?_
            simp only [pa]
            refine tk 19 99 rfl ?_
            simp only [pa]
            have HE := hidP (hHeld.2.2.2.2.2)
            refine wpAnyH_done (by kernel_rfl) ?_ _
            clear hHeld
            go_wp2_with fail
            go_ret
            exact ⟨by rw [← HS.out]; rfl, HWr.out.trans (HE.out.mono HWr.out.size)⟩
          · rw [hT] at HS
            have HT := hidP (fun W => l1In14 e.T l T true hT W)
            clear hT
            go_wp2_with fail
            have HSx : Hid (∀ x, Below wr.heap.size wr x → (x.cell? ⟨w.heap.size, 0, none⟩ = some (.int .i64 T) ∧ x.cell? ⟨w.heap.size, 7, none⟩ = some (.slice (some ⟨p, o, none⟩) ln lc) ∧ x.cell? ⟨p, o + i * 3, none⟩ = some (.int .i64 e.T) ∧ x.cell? ⟨p, o + i * 3 + 1, none⟩ = some (.int .i64 e.K) ∧ x.cell? ⟨p, o + i * 3 + 2, none⟩ = some (.slice e.a e.n e.c) ∧ Below wr.heap.size wr x)) := hidP fun x h =>
              ⟨(h.cell hwr).trans d0, (h.cell hwr).trans d7, (h.cell hp2).trans x0, (h.cell hp2).trans x1, (h.cell hp2).trans x2, h⟩
            refine wp_region_held_drew (S := (fun x => x.cell? ⟨w.heap.size, 0, none⟩ = some (.int .i64 T) ∧ x.cell? ⟨w.heap.size, 7, none⟩ = some (.slice (some ⟨p, o, none⟩) ln lc) ∧ x.cell? ⟨p, o + i * 3, none⟩ = some (.int .i64 e.T) ∧ x.cell? ⟨p, o + i * 3 + 1, none⟩ = some (.int .i64 e.K) ∧ x.cell? ⟨p, o + i * 3 + 2, none⟩ = some (.slice e.a e.n e.c) ∧ Below wr.heap.size wr x)) (by kernel_rfl) ?_ (fun hHeld => ?_)
            · try dsimp only
              exact HSx.out _ ((Below.refl _ _).drew)
            refine tk 0 80 rfl ?_
            simp only [pa]
            refine tk 1 81 rfl ?_
            simp only [pa]
            refine tk 2 82 rfl ?_
            simp only [pa]
            refine tk 3 83 rfl ?_
            simp only [pa]
            refine tk 4 84 rfl ?_
            simp only [pa]
            refine wpAnyH_ready (rs := [5]) (by kernel_rfl) (by simp) ?_
            refine AllReadyH.cons rfl (fun K hK => ?_) AllReadyH.nil
            go_simp
            go_wp2_with (first | (go_at_call 92; refine (HEn.out _ (hHeld.2.2.2.2.2)).mono ?_; rintro e w2 ⟨rfl, hb2⟩; have b2 := (hHeld.2.2.2.2.2).trans (hb2.mono (hHeld.2.2.2.2.2).size)))
            refine hK.out _ _ ?_ (fun hHeld => ?_)
            · try dsimp only
              exact HSx.out _ b2
            clear hK K
            refine tk 6 86 rfl ?_
            simp only [pa]
            refine tk 7 87 rfl ?_
            simp only [pa]
            refine tk 8 88 rfl ?_
            simp only [pa]
            refine tk 9 89 rfl ?_
            simp only [pa]
            refine tk 10 90 rfl ?_
            simp only [pa]
            refine tk 11 91 rfl ?_
            simp only [pa]
            refine tk 12 92 rfl ?_
            simp only [pa]
            refine tk 13 93 rfl ?_
            simp only [pa]
            refine tk 14 94 rfl ?_
            simp only [pa]
            refine tk 15 95 rfl ?_
            simp only [pa]
            refine tk 16 96 rfl ?_
            simp only [pa]
            refine wpAnyH_ready (rs := [17]) (by kernel_rfl) (by simp) ?_
            refine AllReadyH.cons rfl (fun K hK => ?_) AllReadyH.nil
            go_simp
            go_wp2_with (first | (go_at_call 17; refine (HT.out _).mono ?_; rintro e w' ⟨rfl, rfl⟩))
            refine hK.out _ _ ?_ (fun hHeld => ?_)
            · try dsimp only
              exact HSx.out _ (hHeld.2.2.2.2.2)
            clear hK K
            refine tk 18 98 rfl ?_
            simp only [pa]
            refine tk 19 99 rfl ?_
            simp only [pa]
            have HE := hidP (hHeld.2.2.2.2.2)
            refine wpAnyH_done (by kernel_rfl) ?_ _
            clear hHeld
            have y7 := (HE.out.cell hwr).trans d7
            have y5 := (HE.out.cell hp2).trans x0
            go_wp2_with fail
            go_roundw
            case rel => exact ⟨i + 1, e.T, by omega, by go_num, rfl, HS.out, HB.out.trans (HE.out.mono HB.out.size)⟩
            case measure => simp [intOf]; omega
      · have hiE : ln = i := by omega
        subst hiE
        rw [List.drop_of_length_le (by have := HN.out; omega)] at h1
        have HS : Hid (true = rngE T E es) := hidP h1
        clear h1 hbr
        go_wp2_with fail
        go_ret
        exact ⟨by rw [← HS.out]; rfl, HWr.out⟩

theorem sKeep_any (k : Kv) (w : World) (hs : k.gn ≤ 1048576 ∧ k.hn ≤ 1048576 ∧ k.ln ≤ 1048576) (hr : KvR w k) (hf : ∀ e ∈ k.es, EnF e) :
    Calls Try.prog 59 #[k.v] w fun e w' => e = .returned (.bool (kvB k)) ∧ Below w.heap.size w w' := by
  have HG := fun W (hb : Below w.heap.size w W) => sGroupOk_any k.ga k.gn k.gc k.ha k.hn k.hc k.ps k.bs W hr.hg hr.hh (hr.rg.later hb) (hr.rh.later hb) hs.1 hs.2.1
  rw [← kv_same]
  cases h : kaB k
  · exact sKeep_no k w h hs.2.2 HG
  · exact sKeep_yes k w h hs.2.2 hr hf HG

end Go.Proofs.Ytmfbmnpfgbenmaa
