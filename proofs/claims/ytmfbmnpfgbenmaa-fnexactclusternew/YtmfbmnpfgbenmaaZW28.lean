/-
  The specification's KeepOk: what stands ahead of the entries.
-/
import Derived.Test.YtmfbmnpfgbenmaaZW27
namespace Go.Proofs.Ytmfbmnpfgbenmaa
open Go.ChangeShapes Go.WideShapes Go.ChangeAt Go.RowKit Go.Joins Go.Deep

set_option maxRecDepth 10000 in
set_option maxHeartbeats 20000000 in
theorem sKeep_no (k : Kv) (w : World) (h : kaB k = false) (hl : k.ln ≤ 1048576)
    (HG : ∀ W, Below w.heap.size w W → Calls Try.prog 61 #[.agg #[.slice k.ga k.gn k.gc, .slice k.ha k.hn k.hc]] W fun e w' => e = .returned (.bool (grB k.ps k.bs)) ∧ Below W.heap.size W w') :
    Calls Try.prog 59 #[k.v] w fun e w' => e = .returned (.bool false) ∧ Below w.heap.size w w' := by
  obtain ⟨T, V, B, E, ga, gn, gc, ha, hn, hc, sa, sn, sc, la, ln, lc, ps, bs, es⟩ := k
  unfold kaB at h
  simp only at h hl HG
  replace HG := hidP HG
  generalize grB ps bs = G at *
  cases hT : inB T 0 1000000
  · have H0 := hidP (fun W => l1In14 T 0 1000000 false hT W)
    clear h hT
    go_enter Try.func59, Try.ntmps59
    simp only [List.append_eq, List.cons_append, List.nil_append]
    go_wp2_with fail
    obtain ⟨b0, b1, b2, b3, b4, b5, b6, b7⟩ := box8K w 54 (.int .i64 T) (.int .i64 V) (.int .i64 B) (.int .i64 E) (.slice ga gn gc) (.slice ha hn hc) (.slice sa sn sc) (.slice la ln lc)
    have bB := alloc_below w (.cells #[.int .i64 T, .int .i64 V, .int .i64 B, .int .i64 E, .slice ga gn gc, .slice ha hn hc, .slice sa sn sc, .slice la ln lc] 54)
    have bL : w.heap.size < (w.alloc (.cells #[.int .i64 T, .int .i64 V, .int .i64 B, .int .i64 E, .slice ga gn gc, .slice ha hn hc, .slice sa sn sc, .slice la ln lc] 54)).heap.size := by simp
    generalize w.alloc (.cells #[.int .i64 T, .int .i64 V, .int .i64 B, .int .i64 E, .slice ga gn gc, .slice ha hn hc, .slice sa sn sc, .slice la ln lc] 54) = W1 at *
    refine (H0.out _).mono ?_
    rintro e0 w0 ⟨rfl, rfl⟩
    go_wp2_with fail
    go_ret
    exact ⟨rfl, bB⟩
  · skip
    cases hV : inB V 0 7
    · have H0 := hidP (fun W => l1In14 T 0 1000000 true hT W)
      have H1 := hidP (fun W => l1In14 V 0 7 false hV W)
      clear h hT hV
      go_enter Try.func59, Try.ntmps59
      simp only [List.append_eq, List.cons_append, List.nil_append]
      go_wp2_with fail
      obtain ⟨b0, b1, b2, b3, b4, b5, b6, b7⟩ := box8K w 54 (.int .i64 T) (.int .i64 V) (.int .i64 B) (.int .i64 E) (.slice ga gn gc) (.slice ha hn hc) (.slice sa sn sc) (.slice la ln lc)
      have bB := alloc_below w (.cells #[.int .i64 T, .int .i64 V, .int .i64 B, .int .i64 E, .slice ga gn gc, .slice ha hn hc, .slice sa sn sc, .slice la ln lc] 54)
      have bL : w.heap.size < (w.alloc (.cells #[.int .i64 T, .int .i64 V, .int .i64 B, .int .i64 E, .slice ga gn gc, .slice ha hn hc, .slice sa sn sc, .slice la ln lc] 54)).heap.size := by simp
      generalize w.alloc (.cells #[.int .i64 T, .int .i64 V, .int .i64 B, .int .i64 E, .slice ga gn gc, .slice ha hn hc, .slice sa sn sc, .slice la ln lc] 54) = W1 at *
      refine (H0.out _).mono ?_
      rintro e0 w0 ⟨rfl, rfl⟩
      go_wp2_with fail
      refine (H1.out _).mono ?_
      rintro e0 w0 ⟨rfl, rfl⟩
      go_wp2_with fail
      go_ret
      exact ⟨rfl, bB⟩
    · skip
      cases hB : inB B 0 (1000000 - (ln : Int))
      · have H0 := hidP (fun W => l1In14 T 0 1000000 true hT W)
        have H1 := hidP (fun W => l1In14 V 0 7 true hV W)
        have H2 := hidP (fun W => l1In14 B 0 (1000000 - (ln : Int)) false hB W)
        clear h hT hV hB
        go_enter Try.func59, Try.ntmps59
        simp only [List.append_eq, List.cons_append, List.nil_append]
        go_wp2_with fail
        obtain ⟨b0, b1, b2, b3, b4, b5, b6, b7⟩ := box8K w 54 (.int .i64 T) (.int .i64 V) (.int .i64 B) (.int .i64 E) (.slice ga gn gc) (.slice ha hn hc) (.slice sa sn sc) (.slice la ln lc)
        have bB := alloc_below w (.cells #[.int .i64 T, .int .i64 V, .int .i64 B, .int .i64 E, .slice ga gn gc, .slice ha hn hc, .slice sa sn sc, .slice la ln lc] 54)
        have bL : w.heap.size < (w.alloc (.cells #[.int .i64 T, .int .i64 V, .int .i64 B, .int .i64 E, .slice ga gn gc, .slice ha hn hc, .slice sa sn sc, .slice la ln lc] 54)).heap.size := by simp
        generalize w.alloc (.cells #[.int .i64 T, .int .i64 V, .int .i64 B, .int .i64 E, .slice ga gn gc, .slice ha hn hc, .slice sa sn sc, .slice la ln lc] 54) = W1 at *
        refine (H0.out _).mono ?_
        rintro e0 w0 ⟨rfl, rfl⟩
        go_wp2_with fail
        refine (H1.out _).mono ?_
        rintro e0 w0 ⟨rfl, rfl⟩
        go_wp2_with fail
        refine (H2.out _).mono ?_
        rintro e0 w0 ⟨rfl, rfl⟩
        go_wp2_with fail
        go_ret
        exact ⟨rfl, bB⟩
      · skip
        cases hE : inB E 0 T
        · have H0 := hidP (fun W => l1In14 T 0 1000000 true hT W)
          have H1 := hidP (fun W => l1In14 V 0 7 true hV W)
          have H2 := hidP (fun W => l1In14 B 0 (1000000 - (ln : Int)) true hB W)
          have H3 := hidP (fun W => l1In14 E 0 T false hE W)
          clear h hT hV hB hE
          go_enter Try.func59, Try.ntmps59
          simp only [List.append_eq, List.cons_append, List.nil_append]
          go_wp2_with fail
          obtain ⟨b0, b1, b2, b3, b4, b5, b6, b7⟩ := box8K w 54 (.int .i64 T) (.int .i64 V) (.int .i64 B) (.int .i64 E) (.slice ga gn gc) (.slice ha hn hc) (.slice sa sn sc) (.slice la ln lc)
          have bB := alloc_below w (.cells #[.int .i64 T, .int .i64 V, .int .i64 B, .int .i64 E, .slice ga gn gc, .slice ha hn hc, .slice sa sn sc, .slice la ln lc] 54)
          have bL : w.heap.size < (w.alloc (.cells #[.int .i64 T, .int .i64 V, .int .i64 B, .int .i64 E, .slice ga gn gc, .slice ha hn hc, .slice sa sn sc, .slice la ln lc] 54)).heap.size := by simp
          generalize w.alloc (.cells #[.int .i64 T, .int .i64 V, .int .i64 B, .int .i64 E, .slice ga gn gc, .slice ha hn hc, .slice sa sn sc, .slice la ln lc] 54) = W1 at *
          refine (H0.out _).mono ?_
          rintro e0 w0 ⟨rfl, rfl⟩
          go_wp2_with fail
          refine (H1.out _).mono ?_
          rintro e0 w0 ⟨rfl, rfl⟩
          go_wp2_with fail
          refine (H2.out _).mono ?_
          rintro e0 w0 ⟨rfl, rfl⟩
          go_wp2_with fail
          refine (H3.out _).mono ?_
          rintro e0 w0 ⟨rfl, rfl⟩
          go_wp2_with fail
          go_ret
          exact ⟨rfl, bB⟩
        · skip
          cases u1 : (B == 0)
          · cases e1 : (E == 0)
            · cases G
              · have H0 := hidP (fun W => l1In14 T 0 1000000 true hT W)
                have H1 := hidP (fun W => l1In14 V 0 7 true hV W)
                have H2 := hidP (fun W => l1In14 B 0 (1000000 - (ln : Int)) true hB W)
                have H3 := hidP (fun W => l1In14 E 0 T true hE W)
                clear h hT hV hB hE
                go_enter Try.func59, Try.ntmps59
                simp only [List.append_eq, List.cons_append, List.nil_append]
                go_wp2_with fail
                obtain ⟨b0, b1, b2, b3, b4, b5, b6, b7⟩ := box8K w 54 (.int .i64 T) (.int .i64 V) (.int .i64 B) (.int .i64 E) (.slice ga gn gc) (.slice ha hn hc) (.slice sa sn sc) (.slice la ln lc)
                have bB := alloc_below w (.cells #[.int .i64 T, .int .i64 V, .int .i64 B, .int .i64 E, .slice ga gn gc, .slice ha hn hc, .slice sa sn sc, .slice la ln lc] 54)
                have bL : w.heap.size < (w.alloc (.cells #[.int .i64 T, .int .i64 V, .int .i64 B, .int .i64 E, .slice ga gn gc, .slice ha hn hc, .slice sa sn sc, .slice la ln lc] 54)).heap.size := by simp
                generalize w.alloc (.cells #[.int .i64 T, .int .i64 V, .int .i64 B, .int .i64 E, .slice ga gn gc, .slice ha hn hc, .slice sa sn sc, .slice la ln lc] 54) = W1 at *
                refine (H0.out _).mono ?_
                rintro e0 w0 ⟨rfl, rfl⟩
                go_wp2_with fail
                refine (H1.out _).mono ?_
                rintro e0 w0 ⟨rfl, rfl⟩
                go_wp2_with fail
                refine (H2.out _).mono ?_
                rintro e0 w0 ⟨rfl, rfl⟩
                go_wp2_with fail
                refine (H3.out _).mono ?_
                rintro e0 w0 ⟨rfl, rfl⟩
                go_wp2_with fail
                refine (HG.out _ bB).mono ?_
                rintro e0 w2 ⟨rfl, hb2⟩
                have c0 := (hb2.cell bL).trans b0
                have c1 := (hb2.cell bL).trans b1
                have c2 := (hb2.cell bL).trans b2
                have c3 := (hb2.cell bL).trans b3
                have c4 := (hb2.cell bL).trans b4
                have c5 := (hb2.cell bL).trans b5
                have c6 := (hb2.cell bL).trans b6
                have c7 := (hb2.cell bL).trans b7
                have cL := Nat.lt_of_lt_of_le bL hb2.size
                have cB := bB.trans (hb2.mono bB.size)
                clear hb2 b0 b1 b2 b3 b4 b5 b6 b7 bB bL
                have CB := hidP cB
                clear cB
                go_wp2_with fail
                go_ret
                exact ⟨rfl, CB.out⟩
              · by_cases hsn : (sn : Int) ≤ 20000
                rotate_left
                · have H0 := hidP (fun W => l1In14 T 0 1000000 true hT W)
                  have H1 := hidP (fun W => l1In14 V 0 7 true hV W)
                  have H2 := hidP (fun W => l1In14 B 0 (1000000 - (ln : Int)) true hB W)
                  have H3 := hidP (fun W => l1In14 E 0 T true hE W)
                  have psn : decide ((sn : Int) > 20000) = true := decide_eq_true (by omega)
                  have qsn : decide ((20000 : Int) < sn) = true := psn
                  clear hsn
                  clear h hT hV hB hE
                  go_enter Try.func59, Try.ntmps59
                  simp only [List.append_eq, List.cons_append, List.nil_append]
                  go_wp2_with fail
                  obtain ⟨b0, b1, b2, b3, b4, b5, b6, b7⟩ := box8K w 54 (.int .i64 T) (.int .i64 V) (.int .i64 B) (.int .i64 E) (.slice ga gn gc) (.slice ha hn hc) (.slice sa sn sc) (.slice la ln lc)
                  have bB := alloc_below w (.cells #[.int .i64 T, .int .i64 V, .int .i64 B, .int .i64 E, .slice ga gn gc, .slice ha hn hc, .slice sa sn sc, .slice la ln lc] 54)
                  have bL : w.heap.size < (w.alloc (.cells #[.int .i64 T, .int .i64 V, .int .i64 B, .int .i64 E, .slice ga gn gc, .slice ha hn hc, .slice sa sn sc, .slice la ln lc] 54)).heap.size := by simp
                  generalize w.alloc (.cells #[.int .i64 T, .int .i64 V, .int .i64 B, .int .i64 E, .slice ga gn gc, .slice ha hn hc, .slice sa sn sc, .slice la ln lc] 54) = W1 at *
                  refine (H0.out _).mono ?_
                  rintro e0 w0 ⟨rfl, rfl⟩
                  go_wp2_with fail
                  refine (H1.out _).mono ?_
                  rintro e0 w0 ⟨rfl, rfl⟩
                  go_wp2_with fail
                  refine (H2.out _).mono ?_
                  rintro e0 w0 ⟨rfl, rfl⟩
                  go_wp2_with fail
                  refine (H3.out _).mono ?_
                  rintro e0 w0 ⟨rfl, rfl⟩
                  go_wp2_with fail
                  refine (HG.out _ bB).mono ?_
                  rintro e0 w2 ⟨rfl, hb2⟩
                  have c0 := (hb2.cell bL).trans b0
                  have c1 := (hb2.cell bL).trans b1
                  have c2 := (hb2.cell bL).trans b2
                  have c3 := (hb2.cell bL).trans b3
                  have c4 := (hb2.cell bL).trans b4
                  have c5 := (hb2.cell bL).trans b5
                  have c6 := (hb2.cell bL).trans b6
                  have c7 := (hb2.cell bL).trans b7
                  have cL := Nat.lt_of_lt_of_le bL hb2.size
                  have cB := bB.trans (hb2.mono bB.size)
                  clear hb2 b0 b1 b2 b3 b4 b5 b6 b7 bB bL
                  have CB := hidP cB
                  clear cB
                  go_wp2_with fail
                  go_ret
                  exact ⟨rfl, CB.out⟩
                have psn : decide ((sn : Int) > 20000) = false := decide_eq_false (by omega)
                have qsn : decide ((20000 : Int) < sn) = false := psn
                by_cases hln : (ln : Int) ≤ 120
                rotate_left
                · have H0 := hidP (fun W => l1In14 T 0 1000000 true hT W)
                  have H1 := hidP (fun W => l1In14 V 0 7 true hV W)
                  have H2 := hidP (fun W => l1In14 B 0 (1000000 - (ln : Int)) true hB W)
                  have H3 := hidP (fun W => l1In14 E 0 T true hE W)
                  have pl : decide ((ln : Int) > 120) = true := decide_eq_true (by omega)
                  have ql : decide ((120 : Int) < ln) = true := pl
                  clear hln hsn
                  clear h hT hV hB hE
                  go_enter Try.func59, Try.ntmps59
                  simp only [List.append_eq, List.cons_append, List.nil_append]
                  go_wp2_with fail
                  obtain ⟨b0, b1, b2, b3, b4, b5, b6, b7⟩ := box8K w 54 (.int .i64 T) (.int .i64 V) (.int .i64 B) (.int .i64 E) (.slice ga gn gc) (.slice ha hn hc) (.slice sa sn sc) (.slice la ln lc)
                  have bB := alloc_below w (.cells #[.int .i64 T, .int .i64 V, .int .i64 B, .int .i64 E, .slice ga gn gc, .slice ha hn hc, .slice sa sn sc, .slice la ln lc] 54)
                  have bL : w.heap.size < (w.alloc (.cells #[.int .i64 T, .int .i64 V, .int .i64 B, .int .i64 E, .slice ga gn gc, .slice ha hn hc, .slice sa sn sc, .slice la ln lc] 54)).heap.size := by simp
                  generalize w.alloc (.cells #[.int .i64 T, .int .i64 V, .int .i64 B, .int .i64 E, .slice ga gn gc, .slice ha hn hc, .slice sa sn sc, .slice la ln lc] 54) = W1 at *
                  refine (H0.out _).mono ?_
                  rintro e0 w0 ⟨rfl, rfl⟩
                  go_wp2_with fail
                  refine (H1.out _).mono ?_
                  rintro e0 w0 ⟨rfl, rfl⟩
                  go_wp2_with fail
                  refine (H2.out _).mono ?_
                  rintro e0 w0 ⟨rfl, rfl⟩
                  go_wp2_with fail
                  refine (H3.out _).mono ?_
                  rintro e0 w0 ⟨rfl, rfl⟩
                  go_wp2_with fail
                  refine (HG.out _ bB).mono ?_
                  rintro e0 w2 ⟨rfl, hb2⟩
                  have c0 := (hb2.cell bL).trans b0
                  have c1 := (hb2.cell bL).trans b1
                  have c2 := (hb2.cell bL).trans b2
                  have c3 := (hb2.cell bL).trans b3
                  have c4 := (hb2.cell bL).trans b4
                  have c5 := (hb2.cell bL).trans b5
                  have c6 := (hb2.cell bL).trans b6
                  have c7 := (hb2.cell bL).trans b7
                  have cL := Nat.lt_of_lt_of_le bL hb2.size
                  have cB := bB.trans (hb2.mono bB.size)
                  clear hb2 b0 b1 b2 b3 b4 b5 b6 b7 bB bL
                  have CB := hidP cB
                  clear cB
                  go_wp2_with fail
                  go_ret
                  exact ⟨rfl, CB.out⟩
                · exact absurd h (by rw [hT, hV, hB, hE, u1, e1, decide_eq_true hsn, decide_eq_true hln]; simp)
            · have H0 := hidP (fun W => l1In14 T 0 1000000 true hT W)
              have H1 := hidP (fun W => l1In14 V 0 7 true hV W)
              have H2 := hidP (fun W => l1In14 B 0 (1000000 - (ln : Int)) true hB W)
              have H3 := hidP (fun W => l1In14 E 0 T true hE W)
              clear h hT hV hB hE
              go_enter Try.func59, Try.ntmps59
              simp only [List.append_eq, List.cons_append, List.nil_append]
              go_wp2_with fail
              obtain ⟨b0, b1, b2, b3, b4, b5, b6, b7⟩ := box8K w 54 (.int .i64 T) (.int .i64 V) (.int .i64 B) (.int .i64 E) (.slice ga gn gc) (.slice ha hn hc) (.slice sa sn sc) (.slice la ln lc)
              have bB := alloc_below w (.cells #[.int .i64 T, .int .i64 V, .int .i64 B, .int .i64 E, .slice ga gn gc, .slice ha hn hc, .slice sa sn sc, .slice la ln lc] 54)
              have bL : w.heap.size < (w.alloc (.cells #[.int .i64 T, .int .i64 V, .int .i64 B, .int .i64 E, .slice ga gn gc, .slice ha hn hc, .slice sa sn sc, .slice la ln lc] 54)).heap.size := by simp
              generalize w.alloc (.cells #[.int .i64 T, .int .i64 V, .int .i64 B, .int .i64 E, .slice ga gn gc, .slice ha hn hc, .slice sa sn sc, .slice la ln lc] 54) = W1 at *
              refine (H0.out _).mono ?_
              rintro e0 w0 ⟨rfl, rfl⟩
              go_wp2_with fail
              refine (H1.out _).mono ?_
              rintro e0 w0 ⟨rfl, rfl⟩
              go_wp2_with fail
              refine (H2.out _).mono ?_
              rintro e0 w0 ⟨rfl, rfl⟩
              go_wp2_with fail
              refine (H3.out _).mono ?_
              rintro e0 w0 ⟨rfl, rfl⟩
              go_wp2_with fail
              go_ret
              exact ⟨rfl, bB⟩
          · cases e1 : (E == 0)
            · have H0 := hidP (fun W => l1In14 T 0 1000000 true hT W)
              have H1 := hidP (fun W => l1In14 V 0 7 true hV W)
              have H2 := hidP (fun W => l1In14 B 0 (1000000 - (ln : Int)) true hB W)
              have H3 := hidP (fun W => l1In14 E 0 T true hE W)
              clear h hT hV hB hE
              go_enter Try.func59, Try.ntmps59
              simp only [List.append_eq, List.cons_append, List.nil_append]
              go_wp2_with fail
              obtain ⟨b0, b1, b2, b3, b4, b5, b6, b7⟩ := box8K w 54 (.int .i64 T) (.int .i64 V) (.int .i64 B) (.int .i64 E) (.slice ga gn gc) (.slice ha hn hc) (.slice sa sn sc) (.slice la ln lc)
              have bB := alloc_below w (.cells #[.int .i64 T, .int .i64 V, .int .i64 B, .int .i64 E, .slice ga gn gc, .slice ha hn hc, .slice sa sn sc, .slice la ln lc] 54)
              have bL : w.heap.size < (w.alloc (.cells #[.int .i64 T, .int .i64 V, .int .i64 B, .int .i64 E, .slice ga gn gc, .slice ha hn hc, .slice sa sn sc, .slice la ln lc] 54)).heap.size := by simp
              generalize w.alloc (.cells #[.int .i64 T, .int .i64 V, .int .i64 B, .int .i64 E, .slice ga gn gc, .slice ha hn hc, .slice sa sn sc, .slice la ln lc] 54) = W1 at *
              refine (H0.out _).mono ?_
              rintro e0 w0 ⟨rfl, rfl⟩
              go_wp2_with fail
              refine (H1.out _).mono ?_
              rintro e0 w0 ⟨rfl, rfl⟩
              go_wp2_with fail
              refine (H2.out _).mono ?_
              rintro e0 w0 ⟨rfl, rfl⟩
              go_wp2_with fail
              refine (H3.out _).mono ?_
              rintro e0 w0 ⟨rfl, rfl⟩
              go_wp2_with fail
              go_ret
              exact ⟨rfl, bB⟩
            · cases G
              · have H0 := hidP (fun W => l1In14 T 0 1000000 true hT W)
                have H1 := hidP (fun W => l1In14 V 0 7 true hV W)
                have H2 := hidP (fun W => l1In14 B 0 (1000000 - (ln : Int)) true hB W)
                have H3 := hidP (fun W => l1In14 E 0 T true hE W)
                clear h hT hV hB hE
                go_enter Try.func59, Try.ntmps59
                simp only [List.append_eq, List.cons_append, List.nil_append]
                go_wp2_with fail
                obtain ⟨b0, b1, b2, b3, b4, b5, b6, b7⟩ := box8K w 54 (.int .i64 T) (.int .i64 V) (.int .i64 B) (.int .i64 E) (.slice ga gn gc) (.slice ha hn hc) (.slice sa sn sc) (.slice la ln lc)
                have bB := alloc_below w (.cells #[.int .i64 T, .int .i64 V, .int .i64 B, .int .i64 E, .slice ga gn gc, .slice ha hn hc, .slice sa sn sc, .slice la ln lc] 54)
                have bL : w.heap.size < (w.alloc (.cells #[.int .i64 T, .int .i64 V, .int .i64 B, .int .i64 E, .slice ga gn gc, .slice ha hn hc, .slice sa sn sc, .slice la ln lc] 54)).heap.size := by simp
                generalize w.alloc (.cells #[.int .i64 T, .int .i64 V, .int .i64 B, .int .i64 E, .slice ga gn gc, .slice ha hn hc, .slice sa sn sc, .slice la ln lc] 54) = W1 at *
                refine (H0.out _).mono ?_
                rintro e0 w0 ⟨rfl, rfl⟩
                go_wp2_with fail
                refine (H1.out _).mono ?_
                rintro e0 w0 ⟨rfl, rfl⟩
                go_wp2_with fail
                refine (H2.out _).mono ?_
                rintro e0 w0 ⟨rfl, rfl⟩
                go_wp2_with fail
                refine (H3.out _).mono ?_
                rintro e0 w0 ⟨rfl, rfl⟩
                go_wp2_with fail
                refine (HG.out _ bB).mono ?_
                rintro e0 w2 ⟨rfl, hb2⟩
                have c0 := (hb2.cell bL).trans b0
                have c1 := (hb2.cell bL).trans b1
                have c2 := (hb2.cell bL).trans b2
                have c3 := (hb2.cell bL).trans b3
                have c4 := (hb2.cell bL).trans b4
                have c5 := (hb2.cell bL).trans b5
                have c6 := (hb2.cell bL).trans b6
                have c7 := (hb2.cell bL).trans b7
                have cL := Nat.lt_of_lt_of_le bL hb2.size
                have cB := bB.trans (hb2.mono bB.size)
                clear hb2 b0 b1 b2 b3 b4 b5 b6 b7 bB bL
                have CB := hidP cB
                clear cB
                go_wp2_with fail
                go_ret
                exact ⟨rfl, CB.out⟩
              · by_cases hsn : (sn : Int) ≤ 20000
                rotate_left
                · have H0 := hidP (fun W => l1In14 T 0 1000000 true hT W)
                  have H1 := hidP (fun W => l1In14 V 0 7 true hV W)
                  have H2 := hidP (fun W => l1In14 B 0 (1000000 - (ln : Int)) true hB W)
                  have H3 := hidP (fun W => l1In14 E 0 T true hE W)
                  have psn : decide ((sn : Int) > 20000) = true := decide_eq_true (by omega)
                  have qsn : decide ((20000 : Int) < sn) = true := psn
                  clear hsn
                  clear h hT hV hB hE
                  go_enter Try.func59, Try.ntmps59
                  simp only [List.append_eq, List.cons_append, List.nil_append]
                  go_wp2_with fail
                  obtain ⟨b0, b1, b2, b3, b4, b5, b6, b7⟩ := box8K w 54 (.int .i64 T) (.int .i64 V) (.int .i64 B) (.int .i64 E) (.slice ga gn gc) (.slice ha hn hc) (.slice sa sn sc) (.slice la ln lc)
                  have bB := alloc_below w (.cells #[.int .i64 T, .int .i64 V, .int .i64 B, .int .i64 E, .slice ga gn gc, .slice ha hn hc, .slice sa sn sc, .slice la ln lc] 54)
                  have bL : w.heap.size < (w.alloc (.cells #[.int .i64 T, .int .i64 V, .int .i64 B, .int .i64 E, .slice ga gn gc, .slice ha hn hc, .slice sa sn sc, .slice la ln lc] 54)).heap.size := by simp
                  generalize w.alloc (.cells #[.int .i64 T, .int .i64 V, .int .i64 B, .int .i64 E, .slice ga gn gc, .slice ha hn hc, .slice sa sn sc, .slice la ln lc] 54) = W1 at *
                  refine (H0.out _).mono ?_
                  rintro e0 w0 ⟨rfl, rfl⟩
                  go_wp2_with fail
                  refine (H1.out _).mono ?_
                  rintro e0 w0 ⟨rfl, rfl⟩
                  go_wp2_with fail
                  refine (H2.out _).mono ?_
                  rintro e0 w0 ⟨rfl, rfl⟩
                  go_wp2_with fail
                  refine (H3.out _).mono ?_
                  rintro e0 w0 ⟨rfl, rfl⟩
                  go_wp2_with fail
                  refine (HG.out _ bB).mono ?_
                  rintro e0 w2 ⟨rfl, hb2⟩
                  have c0 := (hb2.cell bL).trans b0
                  have c1 := (hb2.cell bL).trans b1
                  have c2 := (hb2.cell bL).trans b2
                  have c3 := (hb2.cell bL).trans b3
                  have c4 := (hb2.cell bL).trans b4
                  have c5 := (hb2.cell bL).trans b5
                  have c6 := (hb2.cell bL).trans b6
                  have c7 := (hb2.cell bL).trans b7
                  have cL := Nat.lt_of_lt_of_le bL hb2.size
                  have cB := bB.trans (hb2.mono bB.size)
                  clear hb2 b0 b1 b2 b3 b4 b5 b6 b7 bB bL
                  have CB := hidP cB
                  clear cB
                  go_wp2_with fail
                  go_ret
                  exact ⟨rfl, CB.out⟩
                have psn : decide ((sn : Int) > 20000) = false := decide_eq_false (by omega)
                have qsn : decide ((20000 : Int) < sn) = false := psn
                by_cases hs0 : (sn : Int) > 0
                · have H0 := hidP (fun W => l1In14 T 0 1000000 true hT W)
                  have H1 := hidP (fun W => l1In14 V 0 7 true hV W)
                  have H2 := hidP (fun W => l1In14 B 0 (1000000 - (ln : Int)) true hB W)
                  have H3 := hidP (fun W => l1In14 E 0 T true hE W)
                  have p0 : decide ((sn : Int) > 0) = true := decide_eq_true hs0
                  have q0 : decide ((0 : Int) < sn) = true := p0
                  have r0 : decide (0 < sn) = true := decide_eq_true (by omega)
                  clear hsn hs0
                  clear h hT hV hB hE
                  go_enter Try.func59, Try.ntmps59
                  simp only [List.append_eq, List.cons_append, List.nil_append]
                  go_wp2_with fail
                  obtain ⟨b0, b1, b2, b3, b4, b5, b6, b7⟩ := box8K w 54 (.int .i64 T) (.int .i64 V) (.int .i64 B) (.int .i64 E) (.slice ga gn gc) (.slice ha hn hc) (.slice sa sn sc) (.slice la ln lc)
                  have bB := alloc_below w (.cells #[.int .i64 T, .int .i64 V, .int .i64 B, .int .i64 E, .slice ga gn gc, .slice ha hn hc, .slice sa sn sc, .slice la ln lc] 54)
                  have bL : w.heap.size < (w.alloc (.cells #[.int .i64 T, .int .i64 V, .int .i64 B, .int .i64 E, .slice ga gn gc, .slice ha hn hc, .slice sa sn sc, .slice la ln lc] 54)).heap.size := by simp
                  generalize w.alloc (.cells #[.int .i64 T, .int .i64 V, .int .i64 B, .int .i64 E, .slice ga gn gc, .slice ha hn hc, .slice sa sn sc, .slice la ln lc] 54) = W1 at *
                  refine (H0.out _).mono ?_
                  rintro e0 w0 ⟨rfl, rfl⟩
                  go_wp2_with fail
                  refine (H1.out _).mono ?_
                  rintro e0 w0 ⟨rfl, rfl⟩
                  go_wp2_with fail
                  refine (H2.out _).mono ?_
                  rintro e0 w0 ⟨rfl, rfl⟩
                  go_wp2_with fail
                  refine (H3.out _).mono ?_
                  rintro e0 w0 ⟨rfl, rfl⟩
                  go_wp2_with fail
                  refine (HG.out _ bB).mono ?_
                  rintro e0 w2 ⟨rfl, hb2⟩
                  have c0 := (hb2.cell bL).trans b0
                  have c1 := (hb2.cell bL).trans b1
                  have c2 := (hb2.cell bL).trans b2
                  have c3 := (hb2.cell bL).trans b3
                  have c4 := (hb2.cell bL).trans b4
                  have c5 := (hb2.cell bL).trans b5
                  have c6 := (hb2.cell bL).trans b6
                  have c7 := (hb2.cell bL).trans b7
                  have cL := Nat.lt_of_lt_of_le bL hb2.size
                  have cB := bB.trans (hb2.mono bB.size)
                  clear hb2 b0 b1 b2 b3 b4 b5 b6 b7 bB bL
                  have CB := hidP cB
                  clear cB
                  go_wp2_with fail
                  go_ret
                  exact ⟨rfl, CB.out⟩
                have p0 : decide ((sn : Int) > 0) = false := decide_eq_false hs0
                have q0 : decide ((0 : Int) < sn) = false := p0
                have r0 : decide (0 < sn) = false := decide_eq_false (by omega)
                by_cases hln : (ln : Int) ≤ 120
                rotate_left
                · have H0 := hidP (fun W => l1In14 T 0 1000000 true hT W)
                  have H1 := hidP (fun W => l1In14 V 0 7 true hV W)
                  have H2 := hidP (fun W => l1In14 B 0 (1000000 - (ln : Int)) true hB W)
                  have H3 := hidP (fun W => l1In14 E 0 T true hE W)
                  have pl : decide ((ln : Int) > 120) = true := decide_eq_true (by omega)
                  have ql : decide ((120 : Int) < ln) = true := pl
                  clear hln hsn hs0
                  clear h hT hV hB hE
                  go_enter Try.func59, Try.ntmps59
                  simp only [List.append_eq, List.cons_append, List.nil_append]
                  go_wp2_with fail
                  obtain ⟨b0, b1, b2, b3, b4, b5, b6, b7⟩ := box8K w 54 (.int .i64 T) (.int .i64 V) (.int .i64 B) (.int .i64 E) (.slice ga gn gc) (.slice ha hn hc) (.slice sa sn sc) (.slice la ln lc)
                  have bB := alloc_below w (.cells #[.int .i64 T, .int .i64 V, .int .i64 B, .int .i64 E, .slice ga gn gc, .slice ha hn hc, .slice sa sn sc, .slice la ln lc] 54)
                  have bL : w.heap.size < (w.alloc (.cells #[.int .i64 T, .int .i64 V, .int .i64 B, .int .i64 E, .slice ga gn gc, .slice ha hn hc, .slice sa sn sc, .slice la ln lc] 54)).heap.size := by simp
                  generalize w.alloc (.cells #[.int .i64 T, .int .i64 V, .int .i64 B, .int .i64 E, .slice ga gn gc, .slice ha hn hc, .slice sa sn sc, .slice la ln lc] 54) = W1 at *
                  refine (H0.out _).mono ?_
                  rintro e0 w0 ⟨rfl, rfl⟩
                  go_wp2_with fail
                  refine (H1.out _).mono ?_
                  rintro e0 w0 ⟨rfl, rfl⟩
                  go_wp2_with fail
                  refine (H2.out _).mono ?_
                  rintro e0 w0 ⟨rfl, rfl⟩
                  go_wp2_with fail
                  refine (H3.out _).mono ?_
                  rintro e0 w0 ⟨rfl, rfl⟩
                  go_wp2_with fail
                  refine (HG.out _ bB).mono ?_
                  rintro e0 w2 ⟨rfl, hb2⟩
                  have c0 := (hb2.cell bL).trans b0
                  have c1 := (hb2.cell bL).trans b1
                  have c2 := (hb2.cell bL).trans b2
                  have c3 := (hb2.cell bL).trans b3
                  have c4 := (hb2.cell bL).trans b4
                  have c5 := (hb2.cell bL).trans b5
                  have c6 := (hb2.cell bL).trans b6
                  have c7 := (hb2.cell bL).trans b7
                  have cL := Nat.lt_of_lt_of_le bL hb2.size
                  have cB := bB.trans (hb2.mono bB.size)
                  clear hb2 b0 b1 b2 b3 b4 b5 b6 b7 bB bL
                  have CB := hidP cB
                  clear cB
                  go_wp2_with fail
                  go_ret
                  exact ⟨rfl, CB.out⟩
                · exact absurd h (by rw [hT, hV, hB, hE, u1, e1, decide_eq_true hsn, p0, decide_eq_true hln]; decide)

end Go.Proofs.Ytmfbmnpfgbenmaa
