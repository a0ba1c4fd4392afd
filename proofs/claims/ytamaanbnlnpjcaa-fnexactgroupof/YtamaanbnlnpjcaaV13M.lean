/-
  The program's lastIndex, logOk and baseOk of any Keep.
-/
import Derived.Test.YtamaanbnlnpjcaaV13K
import Derived.Test.YtamaanbnlnpjcaaV13KN
namespace Go.Proofs.Ytamaanbnlnpjcaa
open Go.ChangeShapes Go.WideShapes Go.ChangeAt Go.RowKit Go.Joins Go.Deep

set_option maxRecDepth 10000 in
set_option maxHeartbeats 4000000 in
theorem lastIx (k : Kv) (w : World) (h1 : 0 ≤ k.B ∧ k.B ≤ 1000000) (h2 : k.ln ≤ 120) :
    Calls Try.prog 36 #[k.v] w fun e w' => e = .returned (.int .i64 (k.B + (k.ln : Int))) ∧ Below w.heap.size w w' := by
  have wl : IntKind.i64.wrap (k.B + (k.ln : Int)) = k.B + (k.ln : Int) := by rw [IntKind.wrap_i64]; omega
  go_enter Try.func36, Try.ntmps36
  go_wp2_with fail
  go_ret
  exact ⟨rfl, alloc_below w _⟩

/-- What logOk asks. -/
def loB (k : Kv) : Bool := decide ((k.ln : Int) ≤ 120) && (decide (k.B + (k.ln : Int) ≤ 1000000) && (risE k.E k.es && decide (lasE k.E k.es ≤ k.T)))

set_option maxRecDepth 10000 in
set_option maxHeartbeats 4000000 in
theorem logOk_any (k : Kv) (w : World) (hr : KvR w k) (hB : 0 ≤ k.B ∧ k.B ≤ 1000000) :
    Calls Try.prog 39 #[k.v] w fun e w' => e = .returned (.bool (loB k)) ∧ Below w.heap.size w w' := by
  unfold loB
  by_cases h1 : (k.ln : Int) ≤ 120
  · have HL := hidP (fun W => lastIx k W hB (by omega))
    rw [decide_eq_true h1, Bool.true_and]
    have hE := hidP (fun W (hb : Below w.heap.size w W) => entriesOk_any k.la k.ln k.lc k.es k.E k.T W hr.hl (by omega) (hr.rl.later hb) (fun e he => (hr.dt e he).later hb))
    generalize (risE k.E k.es && decide (lasE k.E k.es ≤ k.T)) = R at *
    generalize hz : k.B + (k.ln : Int) = z at *
    clear hr hB hz
    obtain ⟨T, V, B, E, ga, gn, gc, ha, hn, hc, sa, sn, sc, la, ln, lc, ps, bs, es⟩ := k
    simp only at h1 hE HL
    have g1 : decide ((ln : Int) ≤ 120) = true := decide_eq_true h1
    cases h2 : decide (z ≤ 1000000)
    · have h3 : ¬ z ≤ 1000000 := of_decide_eq_false h2
      clear hE h1
      go_enter Try.func39, Try.ntmps39
      go_wp2_with fail
      refine (HL.out _).mono ?_
      rintro e w2 ⟨rfl, hb2⟩
      have HB := hidP ((alloc_below w _).trans (hb2.mono (alloc_below w (.cells #[.int .i64 T, .int .i64 V, .int .i64 B, .int .i64 E, .slice ga gn gc, .slice ha hn hc, .slice sa sn sc, .slice la ln lc] 29)).size))
      clear hb2
      go_wp2_with fail
      go_ret
      exact ⟨rfl, HB.out⟩
    · have h3 : z ≤ 1000000 := of_decide_eq_true h2
      clear h1
      go_enter Try.func39, Try.ntmps39
      go_wp2_with fail
      obtain ⟨b0, b1, b2, b3, b4, b5, b6, b7⟩ := box8K w 29 (.int .i64 T) (.int .i64 V) (.int .i64 B) (.int .i64 E) (.slice ga gn gc) (.slice ha hn hc) (.slice sa sn sc) (.slice la ln lc)
      have bB := alloc_below w (.cells #[.int .i64 T, .int .i64 V, .int .i64 B, .int .i64 E, .slice ga gn gc, .slice ha hn hc, .slice sa sn sc, .slice la ln lc] 29)
      have bL : w.heap.size < (w.alloc (.cells #[.int .i64 T, .int .i64 V, .int .i64 B, .int .i64 E, .slice ga gn gc, .slice ha hn hc, .slice sa sn sc, .slice la ln lc] 29)).heap.size := by simp
      generalize w.alloc (.cells #[.int .i64 T, .int .i64 V, .int .i64 B, .int .i64 E, .slice ga gn gc, .slice ha hn hc, .slice sa sn sc, .slice la ln lc] 29) = W1 at *
      refine (HL.out _).mono ?_
      rintro e w2 ⟨rfl, hb2⟩
      have c3 := (hb2.cell bL).trans b3
      have c0 := (hb2.cell bL).trans b0
      have c7 := (hb2.cell bL).trans b7
      have HB := hidP (bB.trans (hb2.mono bB.size))
      clear hb2 b0 b1 b2 b3 b4 b5 b6 b7 bB
      go_wp2_with fail
      refine (hE.out _ HB.out).mono ?_
      rintro e w3 ⟨rfl, hb3⟩
      have HB3 := hidP (HB.out.trans (hb3.mono HB.out.size))
      clear hb3
      go_wp2_with fail
      go_ret
      exact ⟨rfl, HB3.out⟩
  · rw [decide_eq_false h1, Bool.false_and]
    clear hr hB
    obtain ⟨T, V, B, E, ga, gn, gc, ha, hn, hc, sa, sn, sc, la, ln, lc, ps, bs, es⟩ := k
    simp only at h1
    have g1 : decide ((ln : Int) ≤ 120) = false := decide_eq_false h1
    go_enter Try.func39, Try.ntmps39
    go_wp2_with fail
    go_ret
    exact ⟨rfl, alloc_below w _⟩

theorem logOk_yes (k : Kv) (ho : KvOk k) (w : World) (hr : KvR w k) :
    Calls Try.prog 39 #[k.v] w fun e w' => e = .returned (.bool true) ∧ Below w.heap.size w w' := by
  have hb : 0 ≤ k.B ∧ k.B ≤ 1000000 := by rcases ho.bs with h | h <;> omega
  have h := logOk_any k w hr hb
  have h1 := hr.hl
  have h2 := ho.lg
  have h3 := ho.lx
  have e : loB k = true := by
    unfold loB
    rw [ho.rs, decide_eq_true ho.la, decide_eq_true (show (k.ln : Int) ≤ 120 by omega), decide_eq_true (show k.B + (k.ln : Int) ≤ 1000000 by omega)]
    rfl
  rw [e] at h
  exact h

/-- What baseOk asks. -/
def baB (k : Kv) : Bool := if k.B = 0 then (k.E == 0) && ((k.sn : Int) == 0) else (decide (1 ≤ k.B) && decide (k.B ≤ 1000000)) && (decide (1 ≤ k.E) && (decide (k.E ≤ k.T) && decide ((k.sn : Int) ≤ 20000)))
theorem baB_0 {k : Kv} (h : k.B = 0) : baB k = ((k.E == 0) && ((k.sn : Int) == 0)) := if_pos h
theorem baB_1 {k : Kv} (h : ¬ k.B = 0) : baB k = ((decide (1 ≤ k.B) && decide (k.B ≤ 1000000)) && (decide (1 ≤ k.E) && (decide (k.E ≤ k.T) && decide ((k.sn : Int) ≤ 20000)))) := if_neg h
theorem baB_b {k : Kv} (h : baB k = true) : 0 ≤ k.B ∧ k.B ≤ 1000000 := by
  by_cases h0 : k.B = 0
  · omega
  · rw [baB_1 h0, Bool.and_eq_true, Bool.and_eq_true, decide_eq_true_eq, decide_eq_true_eq] at h
    omega

set_option maxRecDepth 10000 in
set_option maxHeartbeats 4000000 in
theorem baseOk_any (k : Kv) (w : World) :
    Calls Try.prog 38 #[k.v] w fun e w' => e = .returned (.bool (baB k)) ∧ Below w.heap.size w w' := by
  by_cases h0 : k.B = 0
  · rw [baB_0 h0]
    obtain ⟨T, V, B, E, ga, gn, gc, ha, hn, hc, sa, sn, sc, la, ln, lc, ps, bs, es⟩ := k
    simp only at h0 ⊢
    subst h0
    cases h1 : (E == 0)
    · have h2 : ¬ E = 0 := by simpa using h1
      go_enter Try.func38, Try.ntmps38
      go_wp2_with fail
      go_ret
      exact ⟨rfl, alloc_below w _⟩
    · have h2 : E = 0 := by simpa using h1
      subst h2
      go_enter Try.func38, Try.ntmps38
      go_wp2_with fail
      go_ret
      exact ⟨rfl, alloc_below w _⟩
  · rw [baB_1 h0]
    obtain ⟨T, V, B, E, ga, gn, gc, ha, hn, hc, sa, sn, sc, la, ln, lc, ps, bs, es⟩ := k
    simp only at h0 ⊢
    have e1 : (B == 0) = false := by simpa using h0
    cases h1 : decide (1 ≤ B)
    · go_enter Try.func38, Try.ntmps38
      go_wp2_with fail
      go_ret
      exact ⟨rfl, alloc_below w _⟩
    · cases h2 : decide (B ≤ 1000000)
      · go_enter Try.func38, Try.ntmps38
        go_wp2_with fail
        go_ret
        exact ⟨rfl, alloc_below w _⟩
      · cases h3 : decide (1 ≤ E)
        · go_enter Try.func38, Try.ntmps38
          go_wp2_with fail
          go_ret
          exact ⟨rfl, alloc_below w _⟩
        · cases h4 : decide (E ≤ T)
          · go_enter Try.func38, Try.ntmps38
            go_wp2_with fail
            go_ret
            exact ⟨rfl, alloc_below w _⟩
          · go_enter Try.func38, Try.ntmps38
            go_wp2_with fail
            go_ret
            exact ⟨rfl, alloc_below w _⟩

end Go.Proofs.Ytamaanbnlnpjcaa
