/-
  The program's KeepOk of any Keep.
-/
import Derived.Test.YtamaanbnlnpjcaaV15Q
import Derived.Test.YtamaanbnlnpjcaaV13L
namespace Go.Proofs.Ytamaanbnlnpjcaa
open Go.ChangeShapes Go.WideShapes Go.ChangeAt Go.RowKit Go.Joins Go.Deep

set_option maxRecDepth 10000 in
set_option maxHeartbeats 8000000 in
theorem iKeep_any (k : Kv) (w : World) (hs : k.gn ≤ 1048576 ∧ k.hn ≤ 1048576) (hr : KvR w k) :
    Calls Try.prog 13 #[k.v] w fun e w' => e = .returned (.bool (kvB k)) ∧ Below w.heap.size w w' := by
  cases ht : ((decide (0 ≤ k.T) && decide (k.T ≤ 1000000)) && (decide (0 ≤ k.V) && decide (k.V ≤ 7)))
  · rw [kvB_no ht]
    clear hr hs
    obtain ⟨T, V, B, E, ga, gn, gc, ha, hn, hc, sa, sn, sc, la, ln, lc, ps, bs, es⟩ := k
    simp only at ht
    cases a1 : decide (0 ≤ T) <;> cases a2 : decide (T ≤ 1000000) <;> cases a3 : decide (0 ≤ V) <;> cases a4 : decide (V ≤ 7) <;> first
      | (exfalso; rw [a1, a2, a3, a4] at ht; exact absurd ht (by decide))
      | (clear ht
         go_enter Try.func13, Try.ntmps13
         go_wp2_with fail
         go_ret
         exact ⟨rfl, alloc_below w _⟩)
  · have HBs := hidP (fun W => baseOk_any k W)
    have HGr := hidP (fun W h => iGroupOk_any k.ga k.gn k.gc k.ha k.hn k.hc k.ps k.bs W hr.hg hr.hh (hr.rg.later h) (hr.rh.later h) hs.1 hs.2)
    have HLo := hidP (fun (hb : baB k = true) W h => logOk_any k W (hr.later h) (baB_b hb))
    unfold kvB
    rw [Bool.and_eq_true] at ht
    rw [ht.1, ht.2, Bool.true_and, Bool.true_and]
    simp only [Bool.and_eq_true, decide_eq_true_eq] at ht
    obtain ⟨⟨t0, t1⟩, t2, t3⟩ := ht
    have a1 : decide (0 ≤ k.T) = true := decide_eq_true t0
    have a2 : decide (k.T ≤ 1000000) = true := decide_eq_true t1
    have a3 : decide (0 ≤ k.V) = true := decide_eq_true t2
    have a4 : decide (k.V ≤ 7) = true := decide_eq_true t3
    clear hr hs t0 t1 t2 t3
    cases hb : baB k
    · rw [hb] at HBs
      clear hb HGr HLo
      obtain ⟨T, V, B, E, ga, gn, gc, ha, hn, hc, sa, sn, sc, la, ln, lc, ps, bs, es⟩ := k
      simp only at a1 a2 a3 a4 HBs
      go_enter Try.func13, Try.ntmps13
      go_wp2_with fail
      refine (HBs.out _).mono ?_
      rintro e w2 ⟨rfl, hb2⟩
      have HB := hidP ((alloc_below w (.cells #[.int .i64 T, .int .i64 V, .int .i64 B, .int .i64 E, .slice ga gn gc, .slice ha hn hc, .slice sa sn sc, .slice la ln lc] 29)).trans (hb2.mono (alloc_below w _).size))
      clear hb2
      go_wp2_with fail
      go_ret
      exact ⟨rfl, HB.out⟩
    · rw [hb] at HBs
      have HL2 := hidP (HLo.out hb)
      clear HLo hb
      rw [Bool.true_and]
      generalize grB k.ps k.bs = G at *
      generalize loB k = R at *
      obtain ⟨T, V, B, E, ga, gn, gc, ha, hn, hc, sa, sn, sc, la, ln, lc, ps, bs, es⟩ := k
      simp only at a1 a2 a3 a4 HBs HGr HL2
      cases G
      · clear HL2
        go_enter Try.func13, Try.ntmps13
        go_wp2_with fail
        obtain ⟨b0, b1, b2, b3, b4, b5, b6, b7⟩ := box8K w 29 (.int .i64 T) (.int .i64 V) (.int .i64 B) (.int .i64 E) (.slice ga gn gc) (.slice ha hn hc) (.slice sa sn sc) (.slice la ln lc)
        have bB := alloc_below w (.cells #[.int .i64 T, .int .i64 V, .int .i64 B, .int .i64 E, .slice ga gn gc, .slice ha hn hc, .slice sa sn sc, .slice la ln lc] 29)
        have bL : w.heap.size < (w.alloc (.cells #[.int .i64 T, .int .i64 V, .int .i64 B, .int .i64 E, .slice ga gn gc, .slice ha hn hc, .slice sa sn sc, .slice la ln lc] 29)).heap.size := by simp
        generalize w.alloc (.cells #[.int .i64 T, .int .i64 V, .int .i64 B, .int .i64 E, .slice ga gn gc, .slice ha hn hc, .slice sa sn sc, .slice la ln lc] 29) = W1 at *
        refine (HBs.out _).mono ?_
        rintro e w2 ⟨rfl, hb2⟩
        have c0 := (hb2.cell bL).trans b0
        have c1 := (hb2.cell bL).trans b1
        have c2 := (hb2.cell bL).trans b2
        have c3 := (hb2.cell bL).trans b3
        have c4 := (hb2.cell bL).trans b4
        have c5 := (hb2.cell bL).trans b5
        have c6 := (hb2.cell bL).trans b6
        have c7 := (hb2.cell bL).trans b7
        have cL := Nat.lt_of_lt_of_le bL hb2.size
        have CB := hidP (bB.trans (hb2.mono bB.size))
        clear hb2 b0 b1 b2 b3 b4 b5 b6 b7 bB bL
        go_wp2_with fail
        refine (HGr.out _ CB.out).mono ?_
        rintro e w3 ⟨rfl, hb3⟩
        have HB := hidP (CB.out.trans (hb3.mono CB.out.size))
        clear hb3
        go_wp2_with fail
        go_ret
        exact ⟨rfl, HB.out⟩
      · rw [Bool.true_and]
        go_enter Try.func13, Try.ntmps13
        go_wp2_with fail
        obtain ⟨b0, b1, b2, b3, b4, b5, b6, b7⟩ := box8K w 29 (.int .i64 T) (.int .i64 V) (.int .i64 B) (.int .i64 E) (.slice ga gn gc) (.slice ha hn hc) (.slice sa sn sc) (.slice la ln lc)
        have bB := alloc_below w (.cells #[.int .i64 T, .int .i64 V, .int .i64 B, .int .i64 E, .slice ga gn gc, .slice ha hn hc, .slice sa sn sc, .slice la ln lc] 29)
        have bL : w.heap.size < (w.alloc (.cells #[.int .i64 T, .int .i64 V, .int .i64 B, .int .i64 E, .slice ga gn gc, .slice ha hn hc, .slice sa sn sc, .slice la ln lc] 29)).heap.size := by simp
        generalize w.alloc (.cells #[.int .i64 T, .int .i64 V, .int .i64 B, .int .i64 E, .slice ga gn gc, .slice ha hn hc, .slice sa sn sc, .slice la ln lc] 29) = W1 at *
        refine (HBs.out _).mono ?_
        rintro e w2 ⟨rfl, hb2⟩
        have c0 := (hb2.cell bL).trans b0
        have c1 := (hb2.cell bL).trans b1
        have c2 := (hb2.cell bL).trans b2
        have c3 := (hb2.cell bL).trans b3
        have c4 := (hb2.cell bL).trans b4
        have c5 := (hb2.cell bL).trans b5
        have c6 := (hb2.cell bL).trans b6
        have c7 := (hb2.cell bL).trans b7
        have cL := Nat.lt_of_lt_of_le bL hb2.size
        have CB := hidP (bB.trans (hb2.mono bB.size))
        clear hb2 b0 b1 b2 b3 b4 b5 b6 b7 bB bL
        go_wp2_with fail
        refine (HGr.out _ CB.out).mono ?_
        rintro e w3 ⟨rfl, hb3⟩
        have d0 := (hb3.cell cL).trans c0
        have d1 := (hb3.cell cL).trans c1
        have d2 := (hb3.cell cL).trans c2
        have d3 := (hb3.cell cL).trans c3
        have d4 := (hb3.cell cL).trans c4
        have d5 := (hb3.cell cL).trans c5
        have d6 := (hb3.cell cL).trans c6
        have d7 := (hb3.cell cL).trans c7
        have HB := hidP (CB.out.trans (hb3.mono CB.out.size))
        clear hb3 CB cL c0 c1 c2 c3 c4 c5 c6 c7
        go_wp2_with fail
        refine (HL2.out _ HB.out).mono ?_
        rintro e w4 ⟨rfl, hb4⟩
        have HB4 := hidP (HB.out.trans (hb4.mono HB.out.size))
        clear hb4
        go_wp2_with fail
        go_ret
        exact ⟨rfl, HB4.out⟩

end Go.Proofs.Ytamaanbnlnpjcaa
