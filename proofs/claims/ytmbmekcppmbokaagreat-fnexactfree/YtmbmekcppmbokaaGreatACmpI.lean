/-
  The program's CmpAddr returns the library's order of the two addresses' three words; nothing old in memory turns.
-/
import Derived.Test.YtmbmekcppmbokaaGreatACmp
import Derived.Deep.RegionHeld3
import Derived.Deep.DeepCutAuto
import Derived.Deep.QuietTactic
import Derived.BigQuiet
namespace Go.Proofs.YtmbmekcppmbokaaGreat
open Go.RowKit

/-- '==' on two rows of three words. -/
theorem eqArr (a b c d e f : Int) (w : World) : (Op.equalIn 10000 157 (.agg #[.int .u64 a, .int .u64 b, .int .u64 c]) (.agg #[.int .u64 d, .int .u64 e, .int .u64 f])).run Tryz.prog w = .ok (a == d && (b == e && c == f)) w := by
  have u3 := Tryz.underlying111
  have a3 := Tryz.isAgg111
  have z3 := Tryz.sizeOf111
  rw [show (10000 : Nat) = 9999 + 1 from rfl, Op.equalIn]
  simp only [Sem.run_bind, run_underlying Tryz.underlying157, Result.andThen_ok]
  simp only [Std.Legacy.Range.forIn_eq_forIn_range', Std.Legacy.Range.size, Nat.sub_zero, Nat.add_sub_cancel, Nat.div_one, List.range'_succ, List.range'_zero, List.forIn_cons, List.forIn_nil]
  go_simp
  by_cases h1 : a = d <;> by_cases h2 : b = e <;> by_cases h3 : c = f <;> simp [h1, h2, h3]

theorem cmp3_same {a b c d e f : Int} (h : (a == d && (b == e && c == f)) = true) : cmp3 a b c d e f = 0 := by
  simp at h
  obtain ⟨rfl, rfl, rfl⟩ := h
  simp [cmp3, cmpW]

/-- Six cells of two boxes, behind whatever only makes memory from n on. -/
theorem six_of_below {W X : World} {n b c : Nat} {v0 v1 v2 u0 u1 u2 : Value} (hB : Below n W X) (hb : b < n) (hc : c < n)
    (k : W.cell? ⟨b, 0, none⟩ = some v0 ∧ W.cell? ⟨b, 1, none⟩ = some v1 ∧ W.cell? ⟨b, 2, none⟩ = some v2 ∧ W.cell? ⟨c, 0, none⟩ = some u0 ∧ W.cell? ⟨c, 1, none⟩ = some u1 ∧ W.cell? ⟨c, 2, none⟩ = some u2) :
    X.cell? ⟨b, 0, none⟩ = some v0 ∧ X.cell? ⟨b, 1, none⟩ = some v1 ∧ X.cell? ⟨b, 2, none⟩ = some v2 ∧ X.cell? ⟨c, 0, none⟩ = some u0 ∧ X.cell? ⟨c, 1, none⟩ = some u1 ∧ X.cell? ⟨c, 2, none⟩ = some u2 := by
  obtain ⟨k0, k1, k2, k3, k4, k5⟩ := k
  exact ⟨(hB.cell hb).trans k0, (hB.cell hb).trans k1, (hB.cell hb).trans k2, (hB.cell hc).trans k3, (hB.cell hc).trans k4, (hB.cell hc).trans k5⟩

set_option maxHeartbeats 8000000 in
theorem iCmp_ne (s : Bool) (h l : Int) (s' : Bool) (h' l' : Int) (S : Bool) (H L : Int) (S' : Bool) (H' L' : Int) (r0 r1 r2 q0 q1 q2 : Int)
    (hz : Nrm s h l S H L) (hr : Rank S H L r0 r1 r2) (hz' : Nrm s' h' l' S' H' L') (hr' : Rank S' H' L' q0 q1 q2) (w : World) :
    Calls Tryz.prog 106 #[.agg #[.bool s, .int .i64 h, .int .i64 l], .agg #[.bool s', .int .i64 h', .int .i64 l']] w fun e w' => e = .returned (.int .i64 (cmp3 r0 r1 r2 q0 q1 q2)) ∧ Below w.heap.size w w' := by
  go_enter Tryz.func106, Tryz.ntmps106
  go_upto_region 1 with fail
  go_cut [5, 6] (fun t5 t6 wc => ∃ p q : Nat, t5 = .pointer (some ⟨p, 0, none⟩) ∧ t6 = .pointer (some ⟨q, 0, none⟩)
    ∧ (wc.cell? ⟨p, 0, none⟩ = some (.int .u64 r0) ∧ wc.cell? ⟨p, 1, none⟩ = some (.int .u64 r1) ∧ wc.cell? ⟨p, 2, none⟩ = some (.int .u64 r2))
    ∧ (wc.cell? ⟨q, 0, none⟩ = some (.int .u64 q0) ∧ wc.cell? ⟨q, 1, none⟩ = some (.int .u64 q1) ∧ wc.cell? ⟨q, 2, none⟩ = some (.int .u64 q2))
    ∧ Below w.heap.size w wc)
  case first =>
    go_region_held3 (fun x => x.cell? ⟨w.heap.size, 0, none⟩ = some (.bool s) ∧ x.cell? ⟨w.heap.size, 1, none⟩ = some (.int .i64 h) ∧ x.cell? ⟨w.heap.size, 2, none⟩ = some (.int .i64 l)
        ∧ x.cell? ⟨w.heap.size + 1, 0, none⟩ = some (.bool s') ∧ x.cell? ⟨w.heap.size + 1, 1, none⟩ = some (.int .i64 h') ∧ x.cell? ⟨w.heap.size + 1, 2, none⟩ = some (.int .i64 l')) ((refine six_of_below (W := (w.alloc (.cells #[.bool s, .int .i64 h, .int .i64 l] 35)).alloc (.cells #[.bool s', .int .i64 h', .int .i64 l'] 35)) (n := w.heap.size + 2) ?_ (Nat.lt_add_of_pos_right (Nat.succ_pos _)) (Nat.lt_succ_self _) ⟨by simp [go_sem], by simp [go_sem], by simp [go_sem], by simp [go_sem], by simp [go_sem], by simp [go_sem]⟩; repeat (first | with_reducible exact Below.refl _ _ | (with_reducible refine Below.drew ?_) | (with_reducible refine Below.alloc ?_ ?_ _; rotate_left; (focus (first | omega | (simp; omega) | (simp; done)))) | (with_reducible refine Below.setCell ?_ ?_ _; rotate_left; (focus (first | omega | (simp; omega) | (simp; done)))) | (with_reducible refine Below.trans ?_ (hb2.mono ?_); rotate_left; (focus (first | omega | (simp; omega) | (simp; done)))) | (with_reducible refine Below.trans ?_ (hb1.mono ?_); rotate_left; (focus (first | omega | (simp; omega) | (simp; done)))))))
      (first
        | (go_at_call_of 122 (Value.int .i64 h); refine (rankOf_any s h l S H L r0 r1 r2 hz hr _).mono ?_; rintro e w1 ⟨rfl, hb1⟩; have hz1 := hb1.size; (try simp at hz1); (first | (refine ltk (w.heap.size) (w1.heap.size) ?_ ?_; (focus omega); intro f0) | skip); (first | (refine ltk (w.heap.size + 1) (w1.heap.size) ?_ ?_; (focus omega); intro f1) | skip); (first | (refine ltk (w.heap.size + 2) (w1.heap.size) ?_ ?_; (focus omega); intro f2) | skip); (first | (refine ltk (w.heap.size + 3) (w1.heap.size) ?_ ?_; (focus omega); intro f3) | skip); (first | (refine olds_k (w.heap.size + 4) hb1 ?_ ?_; (focus (first | omega | (simp; omega) | (simp; done))); intro hc1 hf1) | (refine olds_k (w.heap.size + 3) hb1 ?_ ?_; (focus (first | omega | (simp; omega) | (simp; done))); intro hc1 hf1) | (refine olds_k (w.heap.size + 2) hb1 ?_ ?_; (focus (first | omega | (simp; omega) | (simp; done))); intro hc1 hf1)))
        | (go_at_call_of 122 (Value.int .i64 h'); refine (rankOf_any s' h' l' S' H' L' q0 q1 q2 hz' hr' _).mono ?_; rintro e w2 ⟨rfl, hb2⟩; have hz2 := hb2.size; (try simp at hz2); (first | (refine ltk (w.heap.size) (w2.heap.size) ?_ ?_; (focus omega); intro g0) | skip); (first | (refine ltk (w.heap.size + 1) (w2.heap.size) ?_ ?_; (focus omega); intro g1) | skip); (first | (refine ltk (w.heap.size + 2) (w2.heap.size) ?_ ?_; (focus omega); intro g2) | skip); (first | (refine ltk (w.heap.size + 3) (w2.heap.size) ?_ ?_; (focus omega); intro g3) | skip); (first | (refine ltk (w1.heap.size) (w2.heap.size) ?_ ?_; (focus omega); intro k0) | skip); (first | (refine ltk (w1.heap.size + 1) (w2.heap.size) ?_ ?_; (focus omega); intro k1) | skip); (first | (refine olds_k (w.heap.size + 4) hb2 ?_ ?_; (focus (first | omega | (simp; omega) | (simp; done))); intro hc2 hf2) | (refine olds_k (w.heap.size + 3) hb2 ?_ ?_; (focus (first | omega | (simp; omega) | (simp; done))); intro hc2 hf2) | (refine olds_k (w.heap.size + 2) hb2 ?_ ?_; (focus (first | omega | (simp; omega) | (simp; done))); intro hc2 hf2)); (first | (refine olds_k (w1.heap.size + 2) hb2 ?_ ?_; (focus (first | omega | (simp; omega) | (simp; done))); intro hc3 hf3) | (refine olds_k (w1.heap.size + 1) hb2 ?_ ?_; (focus (first | omega | (simp; omega) | (simp; done))); intro hc3 hf3) | (refine olds_k (w1.heap.size) hb2 ?_ ?_; (focus (first | omega | (simp; omega) | (simp; done))); intro hc3 hf3))))
    all_goals
      go_wp2_with fail
      go_meet
      refine ⟨_, _, rfl, rfl, ⟨?_, ?_, ?_⟩, ⟨?_, ?_, ?_⟩, ?_⟩
      all_goals try (go_simp; done)
      repeat (first | with_reducible exact Below.refl _ _ | (with_reducible refine Below.drew ?_) | (with_reducible refine Below.alloc ?_ ?_ _; rotate_left; (focus (first | omega | (simp; omega) | (simp; done)))) | (with_reducible refine Below.setCell ?_ ?_ _; rotate_left; (focus (first | omega | (simp; omega) | (simp; done)))) | (with_reducible refine Below.trans ?_ (hb2.mono ?_); rotate_left; (focus (first | omega | (simp; omega) | (simp; done)))) | (with_reducible refine Below.trans ?_ (hb1.mono ?_); rotate_left; (focus (first | omega | (simp; omega) | (simp; done)))))
  case rest =>
    obtain ⟨p, q, rfl, rfl, ⟨x0, x1, x2⟩, ⟨y0, y1, y2⟩, hb⟩ := hcut
    cases hE : (r0 == q0 && (r1 == q1 && r2 == q2))
    · have hq : ∀ wx, (Op.equalIn 10000 157 (.agg #[.int .u64 r0, .int .u64 r1, .int .u64 r2]) (.agg #[.int .u64 q0, .int .u64 q1, .int .u64 q2])).run Tryz.prog wx = .ok false wx := fun wx => by rw [eqArr, hE]
      clear hE
      go_wp2_with fail
      go_quiet ((go_at_call 123; exact Calls.quiet_of_same (slCompare_any r0 r1 r2 q0 q1 q2 p q _ x0 x1 x2 y0 y1 y2)))
      go_wp2
      go_ret
      exact ⟨rfl, below_drewN hb _⟩
    · have hq : ∀ wx, (Op.equalIn 10000 157 (.agg #[.int .u64 r0, .int .u64 r1, .int .u64 r2]) (.agg #[.int .u64 q0, .int .u64 q1, .int .u64 q2])).run Tryz.prog wx = .ok true wx := fun wx => by rw [eqArr, hE]
      have HZ : Hid (cmp3 r0 r1 r2 q0 q1 q2 = 0) := cmp3_same hE
      clear hE
      go_wp2
      go_ret
      exact ⟨ret_int HZ.out.symm, hb⟩

end Go.Proofs.YtmbmekcppmbokaaGreat
