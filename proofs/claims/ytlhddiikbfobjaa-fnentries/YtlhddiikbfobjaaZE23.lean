/-
  The specification's l13Group: some group in rows of its own.
-/
import Derived.Test.YtlhddiikbfobjaaZE22
import Derived.Test.YtlhddiikbfobjaaZE1
namespace Go.Proofs.Ytlhddiikbfobjaa
open Go.ChangeShapes Go.WideShapes Go.ChangeAt Go.RowKit Go.Joins Go.Deep

/-- How an index and a group come out. -/
def GpO (w w' : World) (e : Ending) : Prop := ∃ (y : Int) (a1 : Option Addr) (n1 c1 : Nat) (a2 : Option Addr) (n2 c2 : Nat) (ps bs : List Int), e = .returned (.tuple #[.int .i64 y, .agg #[.slice a1 n1 c1, .slice a2 n2 c2]]) ∧ n1 = ps.length ∧ n2 = bs.length ∧ n1 ≤ 100 ∧ n2 ≤ 100 ∧ OwnG KI 3 w' w.heap.size (.slice a1 n1 c1) ps ∧ OwnG KI 3 w' w.heap.size (.slice a2 n2 c2) bs

set_option maxRecDepth 10000 in
set_option maxHeartbeats 8000000 in
theorem l13Group_any (k : Kv) (ss : List Int) (x : Int) (Bd : Nat) (w : World) (hr : KW w Bd k ss) (hs : KS k) (hb0 : 0 ≤ k.B) (hb1 : k.B ≤ 10000) :
    Calls Try.prog 63 #[k.v, .int .i64 x] w fun e w' => GpO w w' e ∧ Below w.heap.size w w' := by
  have HG := hidP (fun W (hb : Below w.heap.size w W) => l12Copy_any k.ga k.gn k.gc k.ha k.hn k.hc k.ps k.bs W hr.hg hr.hh (hr.og.row.later hb) (hr.oh.row.later hb) hr.og.caps.2.2.2 hr.oh.caps.2.2.2 (by have := hs.g; omega) (by have := hs.h; omega))
  have HR := hidP (And.intro hr.hl (And.intro hr.ol.row hr.oe))
  have HN := hidP (And.intro hr.hg (And.intro hr.hh hs))
  have hln := hs.l
  clear hr hs
  obtain ⟨T, V, B, E, ga, gn, gc, ha, hn, hc, sa, sn, sc, la, ln, lc, ps, bs, es⟩ := k
  simp only at HG HR hb0 hb1 hln
  have A1 : Hid (Bx ((w.alloc (.cells #[.int .i64 T, .int .i64 V, .int .i64 B, .int .i64 E, .slice ga gn gc, .slice ha hn hc, .slice sa sn sc, .slice la ln lc] 29)).alloc (.cells #[.slice none 0 0, .slice none 0 0] 26)) w.heap.size [.int .i64 T, .int .i64 V, .int .i64 B, .int .i64 E, .slice ga gn gc, .slice ha hn hc, .slice sa sn sc, .slice la ln lc] ∧ Bx ((w.alloc (.cells #[.int .i64 T, .int .i64 V, .int .i64 B, .int .i64 E, .slice ga gn gc, .slice ha hn hc, .slice sa sn sc, .slice la ln lc] 29)).alloc (.cells #[.slice none 0 0, .slice none 0 0] 26)) (w.heap.size + 1) [.slice none 0 0, .slice none 0 0] ∧ Below w.heap.size w ((w.alloc (.cells #[.int .i64 T, .int .i64 V, .int .i64 B, .int .i64 E, .slice ga gn gc, .slice ha hn hc, .slice sa sn sc, .slice la ln lc] 29)).alloc (.cells #[.slice none 0 0, .slice none 0 0] 26)) ∧ ((w.alloc (.cells #[.int .i64 T, .int .i64 V, .int .i64 B, .int .i64 E, .slice ga gn gc, .slice ha hn hc, .slice sa sn sc, .slice la ln lc] 29)).alloc (.cells #[.slice none 0 0, .slice none 0 0] 26)).heap.size = w.heap.size + 2) := by
    have u1 := alloc_below w (.cells #[.int .i64 T, .int .i64 V, .int .i64 B, .int .i64 E, .slice ga gn gc, .slice ha hn hc, .slice sa sn sc, .slice la ln lc] 29)
    have u2 := alloc_below (w.alloc (.cells #[.int .i64 T, .int .i64 V, .int .i64 B, .int .i64 E, .slice ga gn gc, .slice ha hn hc, .slice sa sn sc, .slice la ln lc] 29)) (.cells #[.slice none 0 0, .slice none 0 0] 26)
    have v1 := Bx.new w [.int .i64 T, .int .i64 V, .int .i64 B, .int .i64 E, .slice ga gn gc, .slice ha hn hc, .slice sa sn sc, .slice la ln lc] 29
    have v2 := Bx.new (w.alloc (.cells #[.int .i64 T, .int .i64 V, .int .i64 B, .int .i64 E, .slice ga gn gc, .slice ha hn hc, .slice sa sn sc, .slice la ln lc] 29)) [.slice none 0 0, .slice none 0 0] 26
    have s1 : (w.alloc (.cells #[.int .i64 T, .int .i64 V, .int .i64 B, .int .i64 E, .slice ga gn gc, .slice ha hn hc, .slice sa sn sc, .slice la ln lc] 29)).heap.size = w.heap.size + 1 := by simp
    rw [s1] at v2
    exact hidP ⟨v1.later u2, v2, u1.trans (u2.mono u1.size), by simp⟩
  have wl : IntKind.i64.wrap ((ln : Int) - 1) = (ln : Int) - 1 := by rw [IntKind.wrap_i64]; omega
  go_enter Try.func63, Try.ntmps63
  go_wp2_with fail
  generalize (w.alloc (.cells #[.int .i64 T, .int .i64 V, .int .i64 B, .int .i64 E, .slice ga gn gc, .slice ha hn hc, .slice sa sn sc, .slice la ln lc] 29)).alloc (.cells #[.slice none 0 0, .slice none 0 0] 26) = W1 at *
  go_loopw [6, 7, 8] (fun t6 _ _ wr => ∃ j : Nat, j ≤ ln ∧ t6 = .int .i64 ((j : Int) - 1) ∧ Below W1.heap.size W1 wr) (fun t6 _ _ _ => (intOf t6 + 1).toNat)
  case atStart => exact ⟨ln, Nat.le_refl _, rfl, Below.refl _ _⟩
  case round =>
    obtain ⟨j, hj, rfl, hbr⟩ := hrel
    have A2 := hidP (And.intro (A1.out.1.later hbr) (And.intro (A1.out.2.1.later hbr) (And.intro (A1.out.2.2.1.trans (hbr.mono A1.out.2.2.1.size)) hbr)))
    have hsz : w.heap.size + 2 ≤ wr.heap.size := by have h1 := A1.out.2.2.2; have h2 := hbr.size; omega
    clear hbr
    obtain ⟨a0, a1, a2, a3, a4, a5, a6, a7⟩ := (show _ ∧ _ ∧ _ ∧ _ ∧ _ ∧ _ ∧ _ ∧ _ from ⟨A2.out.1.cel 0 _ rfl, A2.out.1.cel 1 _ rfl, A2.out.1.cel 2 _ rfl, A2.out.1.cel 3 _ rfl, A2.out.1.cel 4 _ rfl, A2.out.1.cel 5 _ rfl, A2.out.1.cel 6 _ rfl, A2.out.1.cel 7 _ rfl⟩)
    have n1 : w.heap.size < wr.heap.size := A2.out.1.lt
    by_cases hlt : 0 < j
    · obtain ⟨m, rfl⟩ : ∃ m, j = m + 1 := ⟨j - 1, by omega⟩
      have em : ((m + 1 : Nat) : Int) - 1 = (m : Int) := by omega
      rw [em]
      obtain ⟨p, o, q, rfl, hp, hq, c0, c1, c2⟩ := rowEn HR.out.2.1 m (by have := HR.out.1; omega)
      have x1 := (A2.out.2.2.1.cell hp).trans c1
      have x2 := (A2.out.2.2.1.cell hp).trans c2
      have HQ := hidP ((HR.out.2.2 q (List.mem_of_getElem? hq)).later A2.out.2.2.1)
      have g0 : decide ((m : Int) ≥ 0) = true := decide_eq_true (by omega)
      have g1 : decide ((0 : Int) ≤ (m : Int)) = true := g0
      have i0 : (0 : Int) ≤ (m : Int) := by omega
      have i1 : (m : Int) < (ln : Int) := by omega
      have iw : IntKind.i64.wrap (m : Int) = (m : Int) := by rw [IntKind.wrap_i64]; omega
      have wB : IntKind.i64.wrap (B + 1) = B + 1 := by rw [IntKind.wrap_i64]; omega
      have w2 : IntKind.i64.wrap (B + 1 + (m : Int)) = B + 1 + (m : Int) := by rw [IntKind.wrap_i64]; omega
      have w3 : IntKind.i64.wrap ((m : Int) - 1) = (m : Int) - 1 := by rw [IntKind.wrap_i64]; omega
      clear c0 c1 c2 hq em
      by_cases hK : q.K = 3
      · have k1 : (q.K == 3) = true := by simp [hK]
        by_cases hX : B + 1 + (m : Int) ≤ x
        · have e1 : decide (B + 1 + (m : Int) ≤ x) = true := decide_eq_true hX
          have HGt := hidP (sGetC q.a q.n q.c q.zs wr Bd HQ.out.hn HQ.out.ho HQ.out.own)
          go_wp2_with fail
          refine HGt.out.mono ?_
          rintro e w5 ⟨⟨b1, m1, d1, b2, m2, d2, qs, rs, ok, rfl, hm1, hm2, l1, l2, o1, o2⟩, hb5⟩
          have u6 := alloc_below w5 (.cells #[.slice b1 m1 d1, .slice b2 m2 d2] 26)
          have v6 := Bx.new w5 [.slice b1 m1 d1, .slice b2 m2 d2] 26
          have v6' : Bx (w5.alloc (.cells #[.slice b1 m1 d1, .slice b2 m2 d2] 26)) w5.heap.size [.slice b1 m1 d1, .slice b2 m2 d2] := v6
          have hb6 := hb5.trans (u6.mono hb5.size)
          have A6 := hidP (And.intro (A2.out.1.later hb6) (And.intro (A2.out.2.1.later hb6) (And.intro (A2.out.2.2.1.trans (hb6.mono A2.out.2.2.1.size)) (And.intro (A2.out.2.2.2.trans (hb6.mono A2.out.2.2.2.size)) v6'))))
          have O6 : Hid ((OwnG KI 3 (w5.alloc (.cells #[.slice b1 m1 d1, .slice b2 m2 d2] 26)) (w.heap.size + 2) (.slice b1 m1 d1) qs ∧ OwnG KI 3 (w5.alloc (.cells #[.slice b1 m1 d1, .slice b2 m2 d2] 26)) (w.heap.size + 2) (.slice b2 m2 d2) rs) ∧ m1 = qs.length ∧ m2 = rs.length ∧ m1 ≤ 100 ∧ m2 ≤ 100) := hidP ⟨⟨(o1.later u6).mono hsz, (o2.later u6).mono hsz⟩, hm1, hm2, l1, l2⟩
          have hs5 : wr.heap.size ≤ w5.heap.size := hb5.size
          clear o1 o2 hm1 hm2 l1 l2 hb5 hb6 u6 v6 v6' HGt a0 a1 a2 a3 a4 a5 a6 a7 x1 x2
          cases ok
          · go_wp2_with fail
            go_roundw
            case rel => exact ⟨m, by omega, rfl, A6.out.2.2.2.1⟩
            case measure => simp [intOf]
          · go_wp2_with fail
            generalize w5.alloc (.cells #[.slice b1 m1 d1, .slice b2 m2 d2] 26) = w6 at *
            have y2 := A6.out.1.cel 2 _ rfl
            have r0 := A6.out.2.1.cel 0 _ rfl
            have r1 := A6.out.2.1.cel 1 _ rfl
            have rF := A6.out.2.1.frz
            have t0 := A6.out.2.2.2.2.cel 0 _ rfl
            have t1 := A6.out.2.2.2.2.cel 1 _ rfl
            have n6 : w.heap.size < w6.heap.size := A6.out.1.lt
            have n7 : w.heap.size + 1 < w6.heap.size := A6.out.2.1.lt
            have n8 : w5.heap.size < w6.heap.size := A6.out.2.2.2.2.lt
            have n9 : w.heap.size + 1 ≠ w5.heap.size := by omega
            have HD6 := hidP ((Below.refl w6.heap.size w6).drew)
            have HSx : Hid (∀ x, Below w6.heap.size w6 x → (x.cell? ⟨w.heap.size, 2, none⟩ = some (.int .i64 B) ∧ x.cell? ⟨w5.heap.size, 0, none⟩ = some (.slice b1 m1 d1) ∧ x.cell? ⟨w5.heap.size, 1, none⟩ = some (.slice b2 m2 d2))) := hidP fun x h => ⟨(h.cell n6).trans y2, (h.cell n8).trans t0, (h.cell n8).trans t1⟩
            have HSy : Hid (∀ x u v, Below w6.heap.size w6 x → (fun x => x.cell? ⟨w.heap.size, 2, none⟩ = some (.int .i64 B) ∧ x.cell? ⟨w5.heap.size, 0, none⟩ = some (.slice b1 m1 d1) ∧ x.cell? ⟨w5.heap.size, 1, none⟩ = some (.slice b2 m2 d2)) ((x.setCell ⟨w.heap.size + 1, 0, none⟩ u).setCell ⟨w.heap.size + 1, 1, none⟩ v)) := hidP fun x u v h => by
              have k1 := kpt_cell x (w.heap.size + 1) 0 u
              have k2 := kpt_cell (x.setCell ⟨w.heap.size + 1, 0, none⟩ u) (w.heap.size + 1) 1 v
              have z1 : (x.setCell ⟨w.heap.size + 1, 0, none⟩ u).heap.size = x.heap.size := by simp
              have z2 := h.size
              have kk := k1.trans k2
              exact ⟨(kk.cell (p := ⟨w.heap.size, 2, none⟩) (by show w.heap.size < _; omega) (by show w.heap.size ≠ w.heap.size + 1; omega)).trans ((h.cell n6).trans y2), (kk.cell (p := ⟨w5.heap.size, 0, none⟩) (by show w5.heap.size < _; omega) (by show w5.heap.size ≠ _; omega)).trans ((h.cell n8).trans t0), (kk.cell (p := ⟨w5.heap.size, 1, none⟩) (by show w5.heap.size < _; omega) (by show w5.heap.size ≠ _; omega)).trans ((h.cell n8).trans t1)⟩
            refine wp_region_held_drew (S := (fun x => x.cell? ⟨w.heap.size, 2, none⟩ = some (.int .i64 B) ∧ x.cell? ⟨w5.heap.size, 0, none⟩ = some (.slice b1 m1 d1) ∧ x.cell? ⟨w5.heap.size, 1, none⟩ = some (.slice b2 m2 d2))) (by kernel_rfl) ?_ (fun hHeld => ?_)
            · try dsimp only
              exact HSx.out _ HD6.out
            refine tk 0 44 rfl ?_
            simp only [pa]
            refine tk 1 45 rfl ?_
            simp only [pa]
            refine tk 2 46 rfl ?_
            simp only [pa]
            refine tk 3 47 rfl ?_
            simp only [pa]
            refine tk 4 48 rfl ?_
            simp only [pa]
            refine tk 5 49 rfl ?_
            simp only [pa]
            have p0 := (HD6.out.cell n7).trans r0
            have p1 := (HD6.out.cell n7).trans r1
            have pF : ∀ o, w6.drew.frozen? ⟨w.heap.size + 1, o, none⟩ = false := fun o => (HD6.out.frozen n7).trans (rF o)
            have pn : w.heap.size + 1 < w6.drew.heap.size := n7
            generalize w6.drew = w7 at *
            refine wpAnyH_ready (rs := [6]) (by kernel_rfl) (by simp) ?_
            refine AllReadyH.cons rfl (fun K hK => ?_) AllReadyH.nil
            go_simp
            refine hK.out _ _ ?_ (fun hHeld => ?_)
            · try dsimp only
              exact HSx.out _ HD6.out
            clear hK K
            refine wpAnyH_ready (rs := [7]) (by kernel_rfl) (by simp) ?_
            refine AllReadyH.cons rfl (fun K hK => ?_) AllReadyH.nil
            go_simp
            refine hK.out _ _ ?_ (fun hHeld => ?_)
            · try dsimp only
              exact HSy.out _ _ _ HD6.out
            clear hK K
            refine wpAnyH_done (by kernel_rfl) ?_ _
            clear hHeld
            go_wp2_with fail
            refine bodyPost_ret (v := .tuple #[.int .i64 (B + 1 + (m : Int)), .agg #[.slice b1 m1 d1, .slice b2 m2 d2]]) (by simp [results, Try.results63, go_sem, p0, p1]) rfl ⟨⟨_, b1, m1, d1, b2, m2, d2, qs, rs, rfl, O6.out.2.1, O6.out.2.2.1, O6.out.2.2.2.1, O6.out.2.2.2.2, ?_, ?_⟩, ?_⟩
            · exact (((O6.out.1.1.later HD6.out).low (by omega) _).low (by omega) _).mono (by omega)
            · exact (((O6.out.1.2.later HD6.out).low (by omega) _).low (by omega) _).mono (by omega)
            · exact (((A6.out.2.2.1.trans (HD6.out.mono A6.out.2.2.1.size)).setCell (by show w.heap.size ≤ w.heap.size + 1; omega) _).setCell (by show w.heap.size ≤ w.heap.size + 1; omega) _)
        · have e1 : decide (B + 1 + (m : Int) ≤ x) = false := decide_eq_false hX
          go_wp2_with fail
          go_roundw
          case rel => exact ⟨m, by omega, rfl, A2.out.2.2.2⟩
          case measure => simp [intOf]
      · have k1 : (q.K == 3) = false := by simp [hK]
        go_wp2_with fail
        go_roundw
        case rel => exact ⟨m, by omega, rfl, A2.out.2.2.2⟩
        case measure => simp [intOf]
    · have hj0 : j = 0 := by omega
      subst hj0
      have g0 : decide (((0 : Nat) : Int) - 1 ≥ 0) = false := by decide
      have g1 : decide ((0 : Int) ≤ ((0 : Nat) : Int) - 1) = false := by decide
      have r0 := A2.out.2.1.cel 0 _ rfl
      have r1 := A2.out.2.1.cel 1 _ rfl
      have rF := A2.out.2.1.frz
      have n7 : w.heap.size + 1 < wr.heap.size := A2.out.2.1.lt
      have HBd := hidP (A2.out.2.2.1.drew)
      go_wp2_with fail
      have HSx : Hid (∀ x, Below wr.heap.size wr x → (x.cell? ⟨w.heap.size, 2, none⟩ = some (.int .i64 B) ∧ x.cell? ⟨w.heap.size, 4, none⟩ = some (.slice ga gn gc) ∧ x.cell? ⟨w.heap.size, 5, none⟩ = some (.slice ha hn hc))) := hidP fun x h => ⟨(h.cell n1).trans a2, (h.cell n1).trans a4, (h.cell n1).trans a5⟩
      refine wp_region_held_drew (S := (fun x => x.cell? ⟨w.heap.size, 2, none⟩ = some (.int .i64 B) ∧ x.cell? ⟨w.heap.size, 4, none⟩ = some (.slice ga gn gc) ∧ x.cell? ⟨w.heap.size, 5, none⟩ = some (.slice ha hn hc))) (by kernel_rfl) ?_ (fun hHeld => ?_)
      · try dsimp only
        exact HSx.out _ (Below.refl _ _).drew
      have HDr := hidP ((Below.refl wr.heap.size wr).drew)
      have hsd : w.heap.size + 2 ≤ wr.drew.heap.size := hsz
      generalize wr.drew = wd at *
      refine tk 0 50 rfl ?_
      simp only [pa]
      refine tk 1 51 rfl ?_
      simp only [pa]
      refine tk 2 52 rfl ?_
      simp only [pa]
      refine tk 3 53 rfl ?_
      simp only [pa]
      refine wpAnyH_ready (rs := [4]) (by kernel_rfl) (by simp) ?_
      refine AllReadyH.cons rfl (fun K hK => ?_) AllReadyH.nil
      go_simp
      go_wp2_with (first | (go_at_call 74; refine (HG.out _ HBd.out).mono ?_; rintro e w5 ⟨b1, d1, b2, d2, rfl, o1, o2, nq, hb5⟩; have HO5 := hidP (And.intro o1 (And.intro o2 hb5)); clear o1 o2 nq hb5))
      have HB5 := hidP (HDr.out.trans (HO5.out.2.2.mono HDr.out.size))
      refine hK.out _ _ ?_ (fun hHeld => ?_)
      · try dsimp only
        exact HSx.out _ HB5.out
      clear hK K
      refine wpAnyH_ready (rs := [5]) (by kernel_rfl) (by simp) ?_
      refine AllReadyH.cons rfl (fun K hK => ?_) AllReadyH.nil
      go_simp
      refine hK.out _ _ ?_ (fun hHeld => ?_)
      · try dsimp only
        exact HSx.out _ HB5.out
      clear hK K
      have p0 := (HB5.out.cell n7).trans r0
      have p1 := (HB5.out.cell n7).trans r1
      have pF : ∀ o, w5.frozen? ⟨w.heap.size + 1, o, none⟩ = false := fun o => (HB5.out.frozen n7).trans (rF o)
      have pn : w.heap.size + 1 < w5.heap.size := Nat.lt_of_lt_of_le n7 HB5.out.size
      refine wpAnyH_ready (rs := [6]) (by kernel_rfl) (by simp) ?_
      refine AllReadyH.cons rfl (fun K hK => ?_) AllReadyH.nil
      go_simp
      refine hK.out _ _ ?_ (fun hHeld => ?_)
      · try dsimp only
        have h5 := HSx.out _ HB5.out
        have kk := (kpt_cell w5 (w.heap.size + 1) 0 (.slice b1 gn d1)).trans (kpt_cell (w5.setCell ⟨w.heap.size + 1, 0, none⟩ (.slice b1 gn d1)) (w.heap.size + 1) 1 (.slice b2 hn d2))
        exact ⟨(kk.cell (p := ⟨w.heap.size, 2, none⟩) (by show w.heap.size < _; omega) (by show w.heap.size ≠ w.heap.size + 1; omega)).trans h5.1, (kk.cell (p := ⟨w.heap.size, 4, none⟩) (by show w.heap.size < _; omega) (by show w.heap.size ≠ w.heap.size + 1; omega)).trans h5.2.1, (kk.cell (p := ⟨w.heap.size, 5, none⟩) (by show w.heap.size < _; omega) (by show w.heap.size ≠ w.heap.size + 1; omega)).trans h5.2.2⟩
      clear hK K
      refine wpAnyH_done (by kernel_rfl) ?_ _
      clear hHeld
      go_wp2_with fail
      refine bodyPost_ret (v := .tuple #[.int .i64 B, .agg #[.slice b1 gn d1, .slice b2 hn d2]]) (by simp [results, Try.results63, go_sem, p0, p1]) rfl ⟨⟨_, b1, gn, d1, b2, hn, d2, ps, bs, rfl, HN.out.1, HN.out.2.1, HN.out.2.2.g, HN.out.2.2.h, ?_, ?_⟩, ?_⟩
      · exact (((HO5.out.1.mono hsd).low (by omega) _).low (by omega) _).mono (by omega)
      · exact (((HO5.out.2.1.mono hsd).low (by omega) _).low (by omega) _).mono (by omega)
      · exact (((HBd.out.trans (HO5.out.2.2.mono HBd.out.size)).setCell (by show w.heap.size ≤ w.heap.size + 1; omega) _).setCell (by show w.heap.size ≤ w.heap.size + 1; omega) _)

end Go.Proofs.Ytlhddiikbfobjaa
