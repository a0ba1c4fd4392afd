/-
  The program's sibling of a span, by its plain twin; nothing old in memory turns.
-/
import Derived.Test.YtgohffeneibhdaaBSpan
import Derived.Test.YtgohffeneibhdaaMSH
import Derived.Deep.RegionWith
import Derived.Deep.DeepCutAuto
namespace Go.Proofs.Ytgohffeneibhdaa
open Go.RowKit

theorem eqAd9 (a : Bool) (b c : Int) (d : Bool) (e f : Int) (w : World) : (Op.equalIn 9999 29 (.agg #[.bool a, .int .i64 b, .int .i64 c]) (.agg #[.bool d, .int .i64 e, .int .i64 f])).run Try.prog w = .ok (a == d && (b == e && c == f)) w := by
  have u3 := Try.underlying3
  have a3 := Try.isAgg3
  have z3 := Try.sizeOf3
  have u4 := Try.underlying4
  have a4 := Try.isAgg4
  have z4 := Try.sizeOf4
  have hS : Try.prog.underlying 29 = some (.struct (Try.prog.fieldsOf 29)) := by kernel_rfl
  have hp : Try.prog.stoodInHeld 29 = false := by kernel_rfl
  rw [show (9999 : Nat) = 9998 + 1 from rfl, run_equalIn_agg w 9998 29 _ _ hS hp]
  simp only [Program.fieldsOf, Try.underlying29]
  go_simp
  by_cases h1 : a = d <;> by_cases h2 : b = e <;> by_cases h3 : c = f <;> simp [h1, h2, h3]

theorem eqSp (a : Bool) (b c g : Int) (d : Bool) (e f h : Int) (w : World) : (Op.equalIn 10000 55 (.agg #[.bool a, .int .i64 b, .int .i64 c, .int .i64 g]) (.agg #[.bool d, .int .i64 e, .int .i64 f, .int .i64 h])).run Try.prog w = .ok ((a == d && (b == e && c == f)) && g == h) w := by
  have u3 := Try.underlying3
  have a3 := Try.isAgg3
  have z3 := Try.sizeOf3
  have hS : Try.prog.underlying 55 = some (.struct (Try.prog.fieldsOf 55)) := by kernel_rfl
  have hp : Try.prog.stoodInHeld 55 = false := by kernel_rfl
  have q := eqAd9 a b c d e f
  rw [show (10000 : Nat) = 9999 + 1 from rfl, run_equalIn_agg w 9999 55 _ _ hS hp]
  simp only [Program.fieldsOf, Try.underlying55]
  go_simp
  by_cases h1 : a = d <;> by_cases h2 : b = e <;> by_cases h3 : c = f <;> by_cases h4 : g = h <;> simp [h1, h2, h3, h4]

/-- whether (H, L) is the lower half of what is above it -/
def lowB (H L : BitVec 64) (n : Nat) : Bool := H == cH (n + 1) H && L == cL (n + 1) L

theorem lowEq (s : Bool) (H L : BitVec 64) (n : Nat) (wx : World) : (Op.equalIn 10000 55 (.agg #[.bool s, .int .i64 H.toInt, .int .i64 L.toInt, .int .i64 n]) (.agg #[.bool s, .int .i64 (cH (n + 1) H).toInt, .int .i64 (cL (n + 1) L).toInt, .int .i64 n])).run Try.prog wx = .ok (lowB H L n) wx := by
  rw [eqSp, beqI, beqI, beq_self_eq_true, beq_self_eq_true, Bool.true_and, Bool.and_true]; rfl

set_option maxHeartbeats 1000000 in
theorem sibling_lo (s : Bool) (H L : BitVec 64) (n : Nat) (hn : n + 1 ≤ 128) (hl : lowB H L n = true) (w : World) :
    Calls Try.prog 62 #[.agg #[.bool s, .int .i64 H.toInt, .int .i64 L.toInt, .int .i64 n]] w fun e w' => e = .returned (.agg #[.bool s, .int .i64 (cH n (fH (n + 1) (cH (n + 1) H))).toInt, .int .i64 (cL n (fL (n + 1) (cL (n + 1) L))).toInt, .int .i64 n]) ∧ Below w.heap.size w w' := by
  have hq := lowEq s H L n
  rw [hl] at hq
  have HA : Hid (∀ w, _) := above_any s H L n hn
  have HH : Hid (∀ w, _) := halves_any s (cH (n + 1) H) (cL (n + 1) L) n hn
  clear hl hn
  generalize cH n (fH (n + 1) (cH (n + 1) H)) = U1 at HH ⊢
  generalize cL n (fL (n + 1) (cL (n + 1) L)) = U2 at HH ⊢
  generalize cH (n + 1) H = C1 at HA HH hq ⊢
  generalize cL (n + 1) L = C2 at HA HH hq ⊢
  go_enter Try.func62, Try.ntmps62
  go_wp2_with fail
  refine (HA.out _).mono ?_
  rintro e w1 ⟨rfl, hb1⟩
  have hz1 := hb1.size
  try simp at hz1
  have f10 : w.heap.size < w1.heap.size := by omega
  have f11 : w.heap.size + 1 < w1.heap.size := by omega
  refine olds_k (w.heap.size + 2) hb1 ?_ ?_
  · first | omega | (simp; omega) | (simp; done)
  intro hc1 hf1
  go_wp2_with fail
  refine (HH.out _).mono ?_
  rintro e w2 ⟨rfl, hb2⟩
  have hz2 := hb2.size
  try simp at hz2
  have f20 : w.heap.size < w2.heap.size := by omega
  have f21 : w.heap.size + 1 < w2.heap.size := by omega
  refine olds_k (w.heap.size + 2) hb2 ?_ ?_
  · first | omega | (simp; omega) | (simp; done)
  intro hc2 hf2
  go_wp2_with fail
  refine bodyPost_ret (v := .agg #[.bool s, .int .i64 U1.toInt, .int .i64 U2.toInt, .int .i64 n]) (by simp [results, Try.results62, go_sem, hc1, hc2, f20, f21]) rfl ⟨rfl, ?_⟩
  repeat (first | with_reducible exact Below.refl _ _ | (with_reducible refine Below.drew ?_) | (with_reducible refine Below.alloc ?_ ?_ _; rotate_left; (focus (first | omega | (simp; omega) | (simp; done)))) | (with_reducible refine Below.setCell ?_ ?_ _; rotate_left; (focus (first | omega | (simp; omega) | (simp; done)))) | (with_reducible refine Below.trans ?_ (hb2.mono ?_); rotate_left; (focus (first | omega | (simp; omega) | (simp; done)))) | (with_reducible refine Below.trans ?_ (hb1.mono ?_); rotate_left; (focus (first | omega | (simp; omega) | (simp; done)))))

set_option maxHeartbeats 1000000 in
theorem sibling_up (s : Bool) (H L : BitVec 64) (n : Nat) (hn : n + 1 ≤ 128) (hl : lowB H L n = false) (w : World) :
    Calls Try.prog 62 #[.agg #[.bool s, .int .i64 H.toInt, .int .i64 L.toInt, .int .i64 n]] w fun e w' => e = .returned (.agg #[.bool s, .int .i64 (cH (n + 1) H).toInt, .int .i64 (cL (n + 1) L).toInt, .int .i64 n]) ∧ Below w.heap.size w w' := by
  have hq := lowEq s H L n
  rw [hl] at hq
  have HA : Hid (∀ w, _) := above_any s H L n hn
  have HH : Hid (∀ w, _) := halves_any s (cH (n + 1) H) (cL (n + 1) L) n hn
  clear hl hn
  generalize cH n (fH (n + 1) (cH (n + 1) H)) = U1 at HH
  generalize cL n (fL (n + 1) (cL (n + 1) L)) = U2 at HH
  generalize cH (n + 1) H = C1 at HA HH hq ⊢
  generalize cL (n + 1) L = C2 at HA HH hq ⊢
  go_enter Try.func62, Try.ntmps62
  go_wp2_with fail
  refine (HA.out _).mono ?_
  rintro e w1 ⟨rfl, hb1⟩
  have hz1 := hb1.size
  try simp at hz1
  have f10 : w.heap.size < w1.heap.size := by omega
  have f11 : w.heap.size + 1 < w1.heap.size := by omega
  refine olds_k (w.heap.size + 2) hb1 ?_ ?_
  · first | omega | (simp; omega) | (simp; done)
  intro hc1 hf1
  go_wp2_with fail
  refine (HH.out _).mono ?_
  rintro e w2 ⟨rfl, hb2⟩
  have hz2 := hb2.size
  try simp at hz2
  have f20 : w.heap.size < w2.heap.size := by omega
  have f21 : w.heap.size + 1 < w2.heap.size := by omega
  refine olds_k (w.heap.size + 2) hb2 ?_ ?_
  · first | omega | (simp; omega) | (simp; done)
  intro hc2 hf2
  go_wp2_with fail
  refine bodyPost_ret (v := .agg #[.bool s, .int .i64 C1.toInt, .int .i64 C2.toInt, .int .i64 n]) (by simp [results, Try.results62, go_sem, hc1, hc2, f20, f21]) rfl ⟨rfl, ?_⟩
  repeat (first | with_reducible exact Below.refl _ _ | (with_reducible refine Below.drew ?_) | (with_reducible refine Below.alloc ?_ ?_ _; rotate_left; (focus (first | omega | (simp; omega) | (simp; done)))) | (with_reducible refine Below.setCell ?_ ?_ _; rotate_left; (focus (first | omega | (simp; omega) | (simp; done)))) | (with_reducible refine Below.trans ?_ (hb2.mono ?_); rotate_left; (focus (first | omega | (simp; omega) | (simp; done)))) | (with_reducible refine Below.trans ?_ (hb1.mono ?_); rotate_left; (focus (first | omega | (simp; omega) | (simp; done)))))

end Go.Proofs.Ytgohffeneibhdaa
