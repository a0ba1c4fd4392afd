/-
  The specification's MsgOk: what stands ahead of the entries.
-/
import Derived.Test.YtgenjjhchnnpnaaDoorV14Q
namespace Go.Proofs.YtgenjjhchnnpnaaDoor
open Go.ChangeShapes Go.WideShapes Go.ChangeAt Go.RowKit Go.Joins Go.Deep

set_option maxRecDepth 10000 in
set_option maxHeartbeats 20000000 in
theorem sMsg_no (m : Mg) (w : World) (h : hB m.K m.F m.T m.M m.I m.L m.C m.en m.dn = false) :
    Calls Tryd.prog 5 #[m.v] w fun e w' => e = .returned (.bool false) ∧ Below w.heap.size w w' := by
  obtain ⟨K, F, T, M, I, L, ea, en, ec, C, O, da, dn, dc, ga, gn, gc, ha, hn, hc, es, ds, ps, bs⟩ := m
  simp only at h
  unfold hB at h
  cases hK : inB K 1 5
  · have H0 := hidP (fun W => l1In14 K 1 5 false hK W)
    clear h hK
    go_enter Tryd.func5, Tryd.ntmps5
    go_wp2_with fail
    obtain ⟨b0, b1, b2, b3, b4, b5, b6, b7, b8, b9, b10, b11⟩ := box12z w 34 (.int .i64 K) (.int .i64 F) (.int .i64 T) (.int .i64 M) (.int .i64 I) (.int .i64 L) (.slice ea en ec) (.int .i64 C) (.bool O) (.slice da dn dc) (.slice ga gn gc) (.slice ha hn hc)
    have bB := alloc_below w (.cells #[.int .i64 K, .int .i64 F, .int .i64 T, .int .i64 M, .int .i64 I, .int .i64 L, .slice ea en ec, .int .i64 C, .bool O, .slice da dn dc, .slice ga gn gc, .slice ha hn hc] 34)
    have bL : w.heap.size < (w.alloc (.cells #[.int .i64 K, .int .i64 F, .int .i64 T, .int .i64 M, .int .i64 I, .int .i64 L, .slice ea en ec, .int .i64 C, .bool O, .slice da dn dc, .slice ga gn gc, .slice ha hn hc] 34)).heap.size := by simp
    generalize w.alloc (.cells #[.int .i64 K, .int .i64 F, .int .i64 T, .int .i64 M, .int .i64 I, .int .i64 L, .slice ea en ec, .int .i64 C, .bool O, .slice da dn dc, .slice ga gn gc, .slice ha hn hc] 34) = W1 at *
    refine (H0.out _).mono ?_
    rintro e0 w0 ⟨rfl, rfl⟩
    go_wp2_with fail
    go_ret
    exact ⟨rfl, bB⟩
  · skip
    cases hF : inB F 1 7
    · have H0 := hidP (fun W => l1In14 K 1 5 true hK W)
      have H1 := hidP (fun W => l1In14 F 1 7 false hF W)
      clear h hK hF
      go_enter Tryd.func5, Tryd.ntmps5
      go_wp2_with fail
      obtain ⟨b0, b1, b2, b3, b4, b5, b6, b7, b8, b9, b10, b11⟩ := box12z w 34 (.int .i64 K) (.int .i64 F) (.int .i64 T) (.int .i64 M) (.int .i64 I) (.int .i64 L) (.slice ea en ec) (.int .i64 C) (.bool O) (.slice da dn dc) (.slice ga gn gc) (.slice ha hn hc)
      have bB := alloc_below w (.cells #[.int .i64 K, .int .i64 F, .int .i64 T, .int .i64 M, .int .i64 I, .int .i64 L, .slice ea en ec, .int .i64 C, .bool O, .slice da dn dc, .slice ga gn gc, .slice ha hn hc] 34)
      have bL : w.heap.size < (w.alloc (.cells #[.int .i64 K, .int .i64 F, .int .i64 T, .int .i64 M, .int .i64 I, .int .i64 L, .slice ea en ec, .int .i64 C, .bool O, .slice da dn dc, .slice ga gn gc, .slice ha hn hc] 34)).heap.size := by simp
      generalize w.alloc (.cells #[.int .i64 K, .int .i64 F, .int .i64 T, .int .i64 M, .int .i64 I, .int .i64 L, .slice ea en ec, .int .i64 C, .bool O, .slice da dn dc, .slice ga gn gc, .slice ha hn hc] 34) = W1 at *
      refine (H0.out _).mono ?_
      rintro e0 w0 ⟨rfl, rfl⟩
      go_wp2_with fail
      refine (H1.out _).mono ?_
      rintro e0 w0 ⟨rfl, rfl⟩
      go_wp2_with fail
      go_ret
      exact ⟨rfl, bB⟩
    · skip
      cases hT : inB T 1 7
      · have H0 := hidP (fun W => l1In14 K 1 5 true hK W)
        have H1 := hidP (fun W => l1In14 F 1 7 true hF W)
        have H2 := hidP (fun W => l1In14 T 1 7 false hT W)
        clear h hK hF hT
        go_enter Tryd.func5, Tryd.ntmps5
        go_wp2_with fail
        obtain ⟨b0, b1, b2, b3, b4, b5, b6, b7, b8, b9, b10, b11⟩ := box12z w 34 (.int .i64 K) (.int .i64 F) (.int .i64 T) (.int .i64 M) (.int .i64 I) (.int .i64 L) (.slice ea en ec) (.int .i64 C) (.bool O) (.slice da dn dc) (.slice ga gn gc) (.slice ha hn hc)
        have bB := alloc_below w (.cells #[.int .i64 K, .int .i64 F, .int .i64 T, .int .i64 M, .int .i64 I, .int .i64 L, .slice ea en ec, .int .i64 C, .bool O, .slice da dn dc, .slice ga gn gc, .slice ha hn hc] 34)
        have bL : w.heap.size < (w.alloc (.cells #[.int .i64 K, .int .i64 F, .int .i64 T, .int .i64 M, .int .i64 I, .int .i64 L, .slice ea en ec, .int .i64 C, .bool O, .slice da dn dc, .slice ga gn gc, .slice ha hn hc] 34)).heap.size := by simp
        generalize w.alloc (.cells #[.int .i64 K, .int .i64 F, .int .i64 T, .int .i64 M, .int .i64 I, .int .i64 L, .slice ea en ec, .int .i64 C, .bool O, .slice da dn dc, .slice ga gn gc, .slice ha hn hc] 34) = W1 at *
        refine (H0.out _).mono ?_
        rintro e0 w0 ⟨rfl, rfl⟩
        go_wp2_with fail
        refine (H1.out _).mono ?_
        rintro e0 w0 ⟨rfl, rfl⟩
        go_wp2_with fail
        refine (H2.out _).mono ?_
        rintro e0 w0 ⟨rfl, rfl⟩
        go_wp2_with fail
        go_ret
        exact ⟨rfl, bB⟩
      · skip
        cases hM : inB M 1 1000000
        · have H0 := hidP (fun W => l1In14 K 1 5 true hK W)
          have H1 := hidP (fun W => l1In14 F 1 7 true hF W)
          have H2 := hidP (fun W => l1In14 T 1 7 true hT W)
          have H3 := hidP (fun W => l1In14 M 1 1000000 false hM W)
          clear h hK hF hT hM
          go_enter Tryd.func5, Tryd.ntmps5
          go_wp2_with fail
          obtain ⟨b0, b1, b2, b3, b4, b5, b6, b7, b8, b9, b10, b11⟩ := box12z w 34 (.int .i64 K) (.int .i64 F) (.int .i64 T) (.int .i64 M) (.int .i64 I) (.int .i64 L) (.slice ea en ec) (.int .i64 C) (.bool O) (.slice da dn dc) (.slice ga gn gc) (.slice ha hn hc)
          have bB := alloc_below w (.cells #[.int .i64 K, .int .i64 F, .int .i64 T, .int .i64 M, .int .i64 I, .int .i64 L, .slice ea en ec, .int .i64 C, .bool O, .slice da dn dc, .slice ga gn gc, .slice ha hn hc] 34)
          have bL : w.heap.size < (w.alloc (.cells #[.int .i64 K, .int .i64 F, .int .i64 T, .int .i64 M, .int .i64 I, .int .i64 L, .slice ea en ec, .int .i64 C, .bool O, .slice da dn dc, .slice ga gn gc, .slice ha hn hc] 34)).heap.size := by simp
          generalize w.alloc (.cells #[.int .i64 K, .int .i64 F, .int .i64 T, .int .i64 M, .int .i64 I, .int .i64 L, .slice ea en ec, .int .i64 C, .bool O, .slice da dn dc, .slice ga gn gc, .slice ha hn hc] 34) = W1 at *
          refine (H0.out _).mono ?_
          rintro e0 w0 ⟨rfl, rfl⟩
          go_wp2_with fail
          refine (H1.out _).mono ?_
          rintro e0 w0 ⟨rfl, rfl⟩
          go_wp2_with fail
          refine (H2.out _).mono ?_
          rintro e0 w0 ⟨rfl, rfl⟩
          go_wp2_with fail
          refine (H3.out _).mono ?_
          rintro e0 w0 ⟨rfl, rfl⟩
          go_wp2_with fail
          go_ret
          exact ⟨rfl, bB⟩
        · skip
          cases hI : inB I 0 1000000
          · have H0 := hidP (fun W => l1In14 K 1 5 true hK W)
            have H1 := hidP (fun W => l1In14 F 1 7 true hF W)
            have H2 := hidP (fun W => l1In14 T 1 7 true hT W)
            have H3 := hidP (fun W => l1In14 M 1 1000000 true hM W)
            have H4 := hidP (fun W => l1In14 I 0 1000000 false hI W)
            clear h hK hF hT hM hI
            go_enter Tryd.func5, Tryd.ntmps5
            go_wp2_with fail
            obtain ⟨b0, b1, b2, b3, b4, b5, b6, b7, b8, b9, b10, b11⟩ := box12z w 34 (.int .i64 K) (.int .i64 F) (.int .i64 T) (.int .i64 M) (.int .i64 I) (.int .i64 L) (.slice ea en ec) (.int .i64 C) (.bool O) (.slice da dn dc) (.slice ga gn gc) (.slice ha hn hc)
            have bB := alloc_below w (.cells #[.int .i64 K, .int .i64 F, .int .i64 T, .int .i64 M, .int .i64 I, .int .i64 L, .slice ea en ec, .int .i64 C, .bool O, .slice da dn dc, .slice ga gn gc, .slice ha hn hc] 34)
            have bL : w.heap.size < (w.alloc (.cells #[.int .i64 K, .int .i64 F, .int .i64 T, .int .i64 M, .int .i64 I, .int .i64 L, .slice ea en ec, .int .i64 C, .bool O, .slice da dn dc, .slice ga gn gc, .slice ha hn hc] 34)).heap.size := by simp
            generalize w.alloc (.cells #[.int .i64 K, .int .i64 F, .int .i64 T, .int .i64 M, .int .i64 I, .int .i64 L, .slice ea en ec, .int .i64 C, .bool O, .slice da dn dc, .slice ga gn gc, .slice ha hn hc] 34) = W1 at *
            refine (H0.out _).mono ?_
            rintro e0 w0 ⟨rfl, rfl⟩
            go_wp2_with fail
            refine (H1.out _).mono ?_
            rintro e0 w0 ⟨rfl, rfl⟩
            go_wp2_with fail
            refine (H2.out _).mono ?_
            rintro e0 w0 ⟨rfl, rfl⟩
            go_wp2_with fail
            refine (H3.out _).mono ?_
            rintro e0 w0 ⟨rfl, rfl⟩
            go_wp2_with fail
            refine (H4.out _).mono ?_
            rintro e0 w0 ⟨rfl, rfl⟩
            go_wp2_with fail
            go_ret
            exact ⟨rfl, bB⟩
          · skip
            cases hL : inB L 0 M
            · have H0 := hidP (fun W => l1In14 K 1 5 true hK W)
              have H1 := hidP (fun W => l1In14 F 1 7 true hF W)
              have H2 := hidP (fun W => l1In14 T 1 7 true hT W)
              have H3 := hidP (fun W => l1In14 M 1 1000000 true hM W)
              have H4 := hidP (fun W => l1In14 I 0 1000000 true hI W)
              have H5 := hidP (fun W => l1In14 L 0 M false hL W)
              clear h hK hF hT hM hI hL
              go_enter Tryd.func5, Tryd.ntmps5
              go_wp2_with fail
              obtain ⟨b0, b1, b2, b3, b4, b5, b6, b7, b8, b9, b10, b11⟩ := box12z w 34 (.int .i64 K) (.int .i64 F) (.int .i64 T) (.int .i64 M) (.int .i64 I) (.int .i64 L) (.slice ea en ec) (.int .i64 C) (.bool O) (.slice da dn dc) (.slice ga gn gc) (.slice ha hn hc)
              have bB := alloc_below w (.cells #[.int .i64 K, .int .i64 F, .int .i64 T, .int .i64 M, .int .i64 I, .int .i64 L, .slice ea en ec, .int .i64 C, .bool O, .slice da dn dc, .slice ga gn gc, .slice ha hn hc] 34)
              have bL : w.heap.size < (w.alloc (.cells #[.int .i64 K, .int .i64 F, .int .i64 T, .int .i64 M, .int .i64 I, .int .i64 L, .slice ea en ec, .int .i64 C, .bool O, .slice da dn dc, .slice ga gn gc, .slice ha hn hc] 34)).heap.size := by simp
              generalize w.alloc (.cells #[.int .i64 K, .int .i64 F, .int .i64 T, .int .i64 M, .int .i64 I, .int .i64 L, .slice ea en ec, .int .i64 C, .bool O, .slice da dn dc, .slice ga gn gc, .slice ha hn hc] 34) = W1 at *
              refine (H0.out _).mono ?_
              rintro e0 w0 ⟨rfl, rfl⟩
              go_wp2_with fail
              refine (H1.out _).mono ?_
              rintro e0 w0 ⟨rfl, rfl⟩
              go_wp2_with fail
              refine (H2.out _).mono ?_
              rintro e0 w0 ⟨rfl, rfl⟩
              go_wp2_with fail
              refine (H3.out _).mono ?_
              rintro e0 w0 ⟨rfl, rfl⟩
              go_wp2_with fail
              refine (H4.out _).mono ?_
              rintro e0 w0 ⟨rfl, rfl⟩
              go_wp2_with fail
              refine (H5.out _).mono ?_
              rintro e0 w0 ⟨rfl, rfl⟩
              go_wp2_with fail
              go_ret
              exact ⟨rfl, bB⟩
            · skip
              cases hC : inB C 0 1000000
              · have H0 := hidP (fun W => l1In14 K 1 5 true hK W)
                have H1 := hidP (fun W => l1In14 F 1 7 true hF W)
                have H2 := hidP (fun W => l1In14 T 1 7 true hT W)
                have H3 := hidP (fun W => l1In14 M 1 1000000 true hM W)
                have H4 := hidP (fun W => l1In14 I 0 1000000 true hI W)
                have H5 := hidP (fun W => l1In14 L 0 M true hL W)
                have H6 := hidP (fun W => l1In14 C 0 1000000 false hC W)
                clear h hK hF hT hM hI hL hC
                go_enter Tryd.func5, Tryd.ntmps5
                go_wp2_with fail
                obtain ⟨b0, b1, b2, b3, b4, b5, b6, b7, b8, b9, b10, b11⟩ := box12z w 34 (.int .i64 K) (.int .i64 F) (.int .i64 T) (.int .i64 M) (.int .i64 I) (.int .i64 L) (.slice ea en ec) (.int .i64 C) (.bool O) (.slice da dn dc) (.slice ga gn gc) (.slice ha hn hc)
                have bB := alloc_below w (.cells #[.int .i64 K, .int .i64 F, .int .i64 T, .int .i64 M, .int .i64 I, .int .i64 L, .slice ea en ec, .int .i64 C, .bool O, .slice da dn dc, .slice ga gn gc, .slice ha hn hc] 34)
                have bL : w.heap.size < (w.alloc (.cells #[.int .i64 K, .int .i64 F, .int .i64 T, .int .i64 M, .int .i64 I, .int .i64 L, .slice ea en ec, .int .i64 C, .bool O, .slice da dn dc, .slice ga gn gc, .slice ha hn hc] 34)).heap.size := by simp
                generalize w.alloc (.cells #[.int .i64 K, .int .i64 F, .int .i64 T, .int .i64 M, .int .i64 I, .int .i64 L, .slice ea en ec, .int .i64 C, .bool O, .slice da dn dc, .slice ga gn gc, .slice ha hn hc] 34) = W1 at *
                refine (H0.out _).mono ?_
                rintro e0 w0 ⟨rfl, rfl⟩
                go_wp2_with fail
                refine (H1.out _).mono ?_
                rintro e0 w0 ⟨rfl, rfl⟩
                go_wp2_with fail
                refine (H2.out _).mono ?_
                rintro e0 w0 ⟨rfl, rfl⟩
                go_wp2_with fail
                refine (H3.out _).mono ?_
                rintro e0 w0 ⟨rfl, rfl⟩
                go_wp2_with fail
                refine (H4.out _).mono ?_
                rintro e0 w0 ⟨rfl, rfl⟩
                go_wp2_with fail
                refine (H5.out _).mono ?_
                rintro e0 w0 ⟨rfl, rfl⟩
                go_wp2_with fail
                refine (H6.out _).mono ?_
                rintro e0 w0 ⟨rfl, rfl⟩
                go_wp2_with fail
                go_ret
                exact ⟨rfl, bB⟩
              · skip
                by_cases hen : (en : Int) ≤ 8
                rotate_left
                · have pen : decide ((en : Int) > 8) = true := decide_eq_true (by omega)
                  have qen : decide ((8 : Int) < en) = true := pen
                  have H0 := hidP (fun W => l1In14 K 1 5 true hK W)
                  have H1 := hidP (fun W => l1In14 F 1 7 true hF W)
                  have H2 := hidP (fun W => l1In14 T 1 7 true hT W)
                  have H3 := hidP (fun W => l1In14 M 1 1000000 true hM W)
                  have H4 := hidP (fun W => l1In14 I 0 1000000 true hI W)
                  have H5 := hidP (fun W => l1In14 L 0 M true hL W)
                  have H6 := hidP (fun W => l1In14 C 0 1000000 true hC W)
                  clear h hK hF hT hM hI hL hC
                  go_enter Tryd.func5, Tryd.ntmps5
                  go_wp2_with fail
                  obtain ⟨b0, b1, b2, b3, b4, b5, b6, b7, b8, b9, b10, b11⟩ := box12z w 34 (.int .i64 K) (.int .i64 F) (.int .i64 T) (.int .i64 M) (.int .i64 I) (.int .i64 L) (.slice ea en ec) (.int .i64 C) (.bool O) (.slice da dn dc) (.slice ga gn gc) (.slice ha hn hc)
                  have bB := alloc_below w (.cells #[.int .i64 K, .int .i64 F, .int .i64 T, .int .i64 M, .int .i64 I, .int .i64 L, .slice ea en ec, .int .i64 C, .bool O, .slice da dn dc, .slice ga gn gc, .slice ha hn hc] 34)
                  have bL : w.heap.size < (w.alloc (.cells #[.int .i64 K, .int .i64 F, .int .i64 T, .int .i64 M, .int .i64 I, .int .i64 L, .slice ea en ec, .int .i64 C, .bool O, .slice da dn dc, .slice ga gn gc, .slice ha hn hc] 34)).heap.size := by simp
                  generalize w.alloc (.cells #[.int .i64 K, .int .i64 F, .int .i64 T, .int .i64 M, .int .i64 I, .int .i64 L, .slice ea en ec, .int .i64 C, .bool O, .slice da dn dc, .slice ga gn gc, .slice ha hn hc] 34) = W1 at *
                  refine (H0.out _).mono ?_
                  rintro e0 w0 ⟨rfl, rfl⟩
                  go_wp2_with fail
                  refine (H1.out _).mono ?_
                  rintro e0 w0 ⟨rfl, rfl⟩
                  go_wp2_with fail
                  refine (H2.out _).mono ?_
                  rintro e0 w0 ⟨rfl, rfl⟩
                  go_wp2_with fail
                  refine (H3.out _).mono ?_
                  rintro e0 w0 ⟨rfl, rfl⟩
                  go_wp2_with fail
                  refine (H4.out _).mono ?_
                  rintro e0 w0 ⟨rfl, rfl⟩
                  go_wp2_with fail
                  refine (H5.out _).mono ?_
                  rintro e0 w0 ⟨rfl, rfl⟩
                  go_wp2_with fail
                  refine (H6.out _).mono ?_
                  rintro e0 w0 ⟨rfl, rfl⟩
                  go_wp2_with fail
                  go_ret
                  exact ⟨rfl, bB⟩
                by_cases hdn : (dn : Int) ≤ 20000
                rotate_left
                · have pdn : decide ((dn : Int) > 20000) = true := decide_eq_true (by omega)
                  have qdn : decide ((20000 : Int) < dn) = true := pdn
                  have pen : decide ((en : Int) > 8) = false := decide_eq_false (by omega)
                  have qen : decide ((8 : Int) < en) = false := pen
                  have H0 := hidP (fun W => l1In14 K 1 5 true hK W)
                  have H1 := hidP (fun W => l1In14 F 1 7 true hF W)
                  have H2 := hidP (fun W => l1In14 T 1 7 true hT W)
                  have H3 := hidP (fun W => l1In14 M 1 1000000 true hM W)
                  have H4 := hidP (fun W => l1In14 I 0 1000000 true hI W)
                  have H5 := hidP (fun W => l1In14 L 0 M true hL W)
                  have H6 := hidP (fun W => l1In14 C 0 1000000 true hC W)
                  clear h hK hF hT hM hI hL hC
                  go_enter Tryd.func5, Tryd.ntmps5
                  go_wp2_with fail
                  obtain ⟨b0, b1, b2, b3, b4, b5, b6, b7, b8, b9, b10, b11⟩ := box12z w 34 (.int .i64 K) (.int .i64 F) (.int .i64 T) (.int .i64 M) (.int .i64 I) (.int .i64 L) (.slice ea en ec) (.int .i64 C) (.bool O) (.slice da dn dc) (.slice ga gn gc) (.slice ha hn hc)
                  have bB := alloc_below w (.cells #[.int .i64 K, .int .i64 F, .int .i64 T, .int .i64 M, .int .i64 I, .int .i64 L, .slice ea en ec, .int .i64 C, .bool O, .slice da dn dc, .slice ga gn gc, .slice ha hn hc] 34)
                  have bL : w.heap.size < (w.alloc (.cells #[.int .i64 K, .int .i64 F, .int .i64 T, .int .i64 M, .int .i64 I, .int .i64 L, .slice ea en ec, .int .i64 C, .bool O, .slice da dn dc, .slice ga gn gc, .slice ha hn hc] 34)).heap.size := by simp
                  generalize w.alloc (.cells #[.int .i64 K, .int .i64 F, .int .i64 T, .int .i64 M, .int .i64 I, .int .i64 L, .slice ea en ec, .int .i64 C, .bool O, .slice da dn dc, .slice ga gn gc, .slice ha hn hc] 34) = W1 at *
                  refine (H0.out _).mono ?_
                  rintro e0 w0 ⟨rfl, rfl⟩
                  go_wp2_with fail
                  refine (H1.out _).mono ?_
                  rintro e0 w0 ⟨rfl, rfl⟩
                  go_wp2_with fail
                  refine (H2.out _).mono ?_
                  rintro e0 w0 ⟨rfl, rfl⟩
                  go_wp2_with fail
                  refine (H3.out _).mono ?_
                  rintro e0 w0 ⟨rfl, rfl⟩
                  go_wp2_with fail
                  refine (H4.out _).mono ?_
                  rintro e0 w0 ⟨rfl, rfl⟩
                  go_wp2_with fail
                  refine (H5.out _).mono ?_
                  rintro e0 w0 ⟨rfl, rfl⟩
                  go_wp2_with fail
                  refine (H6.out _).mono ?_
                  rintro e0 w0 ⟨rfl, rfl⟩
                  go_wp2_with fail
                  go_ret
                  exact ⟨rfl, bB⟩
                · exact absurd h (by rw [hK, hF, hT, hM, hI, hL, hC, decide_eq_true hen, decide_eq_true hdn]; decide)

end Go.Proofs.YtgenjjhchnnpnaaDoor
