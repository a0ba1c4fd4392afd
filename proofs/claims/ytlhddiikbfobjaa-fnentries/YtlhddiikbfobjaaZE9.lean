/-
  Looks at Keeps that have no entries and no snapshot, their marks; both KeepNew.
-/
import Derived.Test.YtlhddiikbfobjaaZE5
import Derived.Test.YtlhddiikbfobjaaZE8
import Derived.Test.YtlhddiikbfobjaaZE7
namespace Go.Proofs.Ytlhddiikbfobjaa
open Go.ChangeShapes Go.WideShapes Go.ChangeAt Go.RowKit Go.Joins Go.Deep

theorem box8K (w : World) (t : TypeId) (x0 x1 x2 x3 x4 x5 x6 x7 : Value) : (w.alloc (.cells #[x0, x1, x2, x3, x4, x5, x6, x7] t)).cell? ⟨w.heap.size, 0, none⟩ = some x0 ∧ (w.alloc (.cells #[x0, x1, x2, x3, x4, x5, x6, x7] t)).cell? ⟨w.heap.size, 1, none⟩ = some x1 ∧ (w.alloc (.cells #[x0, x1, x2, x3, x4, x5, x6, x7] t)).cell? ⟨w.heap.size, 2, none⟩ = some x2 ∧ (w.alloc (.cells #[x0, x1, x2, x3, x4, x5, x6, x7] t)).cell? ⟨w.heap.size, 3, none⟩ = some x3 ∧ (w.alloc (.cells #[x0, x1, x2, x3, x4, x5, x6, x7] t)).cell? ⟨w.heap.size, 4, none⟩ = some x4 ∧ (w.alloc (.cells #[x0, x1, x2, x3, x4, x5, x6, x7] t)).cell? ⟨w.heap.size, 5, none⟩ = some x5 ∧ (w.alloc (.cells #[x0, x1, x2, x3, x4, x5, x6, x7] t)).cell? ⟨w.heap.size, 6, none⟩ = some x6 ∧ (w.alloc (.cells #[x0, x1, x2, x3, x4, x5, x6, x7] t)).cell? ⟨w.heap.size, 7, none⟩ = some x7 := ⟨by simp [go_sem], by simp [go_sem], by simp [go_sem], by simp [go_sem], by simp [go_sem], by simp [go_sem], by simp [go_sem], by simp [go_sem]⟩

end Go.Proofs.Ytlhddiikbfobjaa

/-
  The program's lastIndex, logOk and baseOk of any Keep.
-/
namespace Go.Proofs.Ytlhddiikbfobjaa
open Go.ChangeShapes Go.WideShapes Go.ChangeAt Go.RowKit Go.Joins Go.Deep

set_option maxRecDepth 10000 in
set_option maxHeartbeats 4000000 in
theorem lastIx (k : Kv) (w : World) (h1 : 0 ≤ k.B ∧ k.B ≤ 1000000) (h2 : k.ln ≤ 120) :
    Calls Try.prog 25 #[k.v] w fun e w' => e = .returned (.int .i64 (k.B + (k.ln : Int))) ∧ Below w.heap.size w w' := by
  have wl : IntKind.i64.wrap (k.B + (k.ln : Int)) = k.B + (k.ln : Int) := by rw [IntKind.wrap_i64]; omega
  go_enter Try.func25, Try.ntmps25
  go_wp2_with fail
  go_ret
  exact ⟨rfl, alloc_below w _⟩

/-- What logOk asks. -/
def loB (k : Kv) : Bool := decide ((k.ln : Int) ≤ 120) && (decide (k.B + (k.ln : Int) ≤ 1000000) && (risE k.E k.es && decide (lasE k.E k.es ≤ k.T)))

set_option maxRecDepth 10000 in
set_option maxHeartbeats 4000000 in
theorem logOk_any (k : Kv) (w : World) (hr : KvR w k) (hB : 0 ≤ k.B ∧ k.B ≤ 1000000) :
    Calls Try.prog 28 #[k.v] w fun e w' => e = .returned (.bool (loB k)) ∧ Below w.heap.size w w' := by
  unfold loB
  by_cases h1 : (k.ln : Int) ≤ 120
  · have HL := hidP (fun W => lastIx k W hB (by omega))
    rw [decide_eq_true h1, Bool.true_and]
    have hE := hidP (fun W (hb : Below w.heap.size w W) => entriesOk_any k.la k.ln k.lc k.es k.E k.T W hr.hl (by omega) (hr.rl.later hb) (fun e he => (hr.dt e he).later hb))
    generalize (risE k.E k.es && decide (lasE k.E k.es ≤ k.T)) = R at *
    generalize hz : k.B + (k.ln : Int) = z at *
    clear hr hB hz
    obtain ⟨T, V, B, E, ga, gn, gc, ha, hn, hc, sa, sn, sc, la, ln, lc, ps, bs, es⟩ := k
    simp only at h1 hE HL
    have g1 : decide ((ln : Int) ≤ 120) = true := decide_eq_true h1
    cases h2 : decide (z ≤ 1000000)
    · have h3 : ¬ z ≤ 1000000 := of_decide_eq_false h2
      clear hE h1
      go_enter Try.func28, Try.ntmps28
      go_wp2_with fail
      refine (HL.out _).mono ?_
      rintro e w2 ⟨rfl, hb2⟩
      have HB := hidP ((alloc_below w _).trans (hb2.mono (alloc_below w (.cells #[.int .i64 T, .int .i64 V, .int .i64 B, .int .i64 E, .slice ga gn gc, .slice ha hn hc, .slice sa sn sc, .slice la ln lc] 29)).size))
      clear hb2
      go_wp2_with fail
      go_ret
      exact ⟨rfl, HB.out⟩
    · have h3 : z ≤ 1000000 := of_decide_eq_true h2
      clear h1
      go_enter Try.func28, Try.ntmps28
      go_wp2_with fail
      obtain ⟨b0, b1, b2, b3, b4, b5, b6, b7⟩ := box8K w 29 (.int .i64 T) (.int .i64 V) (.int .i64 B) (.int .i64 E) (.slice ga gn gc) (.slice ha hn hc) (.slice sa sn sc) (.slice la ln lc)
      have bB := alloc_below w (.cells #[.int .i64 T, .int .i64 V, .int .i64 B, .int .i64 E, .slice ga gn gc, .slice ha hn hc, .slice sa sn sc, .slice la ln lc] 29)
      have bL : w.heap.size < (w.alloc (.cells #[.int .i64 T, .int .i64 V, .int .i64 B, .int .i64 E, .slice ga gn gc, .slice ha hn hc, .slice sa sn sc, .slice la ln lc] 29)).heap.size := by simp
      generalize w.alloc (.cells #[.int .i64 T, .int .i64 V, .int .i64 B, .int .i64 E, .slice ga gn gc, .slice ha hn hc, .slice sa sn sc, .slice la ln lc] 29) = W1 at *
      refine (HL.out _).mono ?_
      rintro e w2 ⟨rfl, hb2⟩
      have c3 := (hb2.cell bL).trans b3
      have c0 := (hb2.cell bL).trans b0
      have c7 := (hb2.cell bL).trans b7
      have HB := hidP (bB.trans (hb2.mono bB.size))
      clear hb2 b0 b1 b2 b3 b4 b5 b6 b7 bB
      go_wp2_with fail
      refine (hE.out _ HB.out).mono ?_
      rintro e w3 ⟨rfl, hb3⟩
      have HB3 := hidP (HB.out.trans (hb3.mono HB.out.size))
      clear hb3
      go_wp2_with fail
      go_ret
      exact ⟨rfl, HB3.out⟩
  · rw [decide_eq_false h1, Bool.false_and]
    clear hr hB
    obtain ⟨T, V, B, E, ga, gn, gc, ha, hn, hc, sa, sn, sc, la, ln, lc, ps, bs, es⟩ := k
    simp only at h1
    have g1 : decide ((ln : Int) ≤ 120) = false := decide_eq_false h1
    go_enter Try.func28, Try.ntmps28
    go_wp2_with fail
    go_ret
    exact ⟨rfl, alloc_below w _⟩

theorem logOk_yes (k : Kv) (ho : KvOk k) (w : World) (hr : KvR w k) :
    Calls Try.prog 28 #[k.v] w fun e w' => e = .returned (.bool true) ∧ Below w.heap.size w w' := by
  have hb : 0 ≤ k.B ∧ k.B ≤ 1000000 := by rcases ho.bs with h | h <;> omega
  have h := logOk_any k w hr hb
  have h1 := hr.hl
  have h2 := ho.lg
  have h3 := ho.lx
  have e : loB k = true := by
    unfold loB
    rw [ho.rs, decide_eq_true ho.la, decide_eq_true (show (k.ln : Int) ≤ 120 by omega), decide_eq_true (show k.B + (k.ln : Int) ≤ 1000000 by omega)]
    rfl
  rw [e] at h
  exact h

end Go.Proofs.Ytlhddiikbfobjaa
