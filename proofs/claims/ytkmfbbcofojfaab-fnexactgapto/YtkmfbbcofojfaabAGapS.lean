/-
  The specification's GapTo, way by way, by its plain twin; nothing old in memory turns.
-/
import Derived.Test.YtkmfbbcofojfaabACmpS
namespace Go.Proofs.Ytkmfbbcofojfaab
open Go.RowKit

set_option maxHeartbeats 1000000 in
theorem sGap_ft (s : Bool) (h l : Int) (s' : Bool) (h' l' : Int) (H L H' L' : Int) (hz : Nrm s h l false H L) (hz' : Nrm s' h' l' true H' L') (w : World) :
    Calls Try.prog 13 #[.agg #[.bool s, .int .i64 h, .int .i64 l], .agg #[.bool s', .int .i64 h', .int .i64 l']] w fun e w' => e = .returned (.tuple #[.int .i64 0, .bool false]) ∧ Below w.heap.size w w' := by
  go_enter Try.func13, Try.ntmps13
  go_wp2_with fail
  refine (l1Addr_any _ _ _ _ _ _ hz _).mono ?_
  rintro e w1 ⟨rfl, hb1⟩
  obtain ⟨hc1, hf1⟩ := olds (n := w.heap.size + 2) (hb1.mono (by simp))
  have z1 : w.heap.size + 1 < w1.heap.size := by have := hb1.size; simp at this; omega
  have z0 : w.heap.size < w1.heap.size := by omega
  have b1 : Below w.heap.size w w1 := (((Below.refl _ w).alloc (Nat.le_refl _) _).alloc (by simp) _).trans (hb1.mono (by simp; omega))
  go_wp2_with fail
  refine (l1Addr_any _ _ _ _ _ _ hz' _).mono ?_
  rintro e w2 ⟨rfl, hb2⟩
  obtain ⟨hc2, hf2⟩ := olds (n := w.heap.size + 2) (hb2.mono (by simp; omega))
  have y1 : w.heap.size + 1 < w2.heap.size := by have := hb2.size; simp at this; omega
  have y0 : w.heap.size < w2.heap.size := by omega
  have b2 : Below w.heap.size w w2 := by
    refine Below.trans ?_ (hb2.mono (by simp; omega))
    repeat (first | with_reducible exact b1 | (with_reducible refine Below.setCell ?_ (by first | omega | (simp; done) | (simp; omega)) _))
  go_wp2_with fail
  go_ret2
  refine ⟨rfl, ?_⟩
  repeat (first | with_reducible exact b2 | (with_reducible refine Below.setCell ?_ (by first | omega | (simp; done) | (simp; omega)) _))

set_option maxHeartbeats 1000000 in
theorem sGap_tf (s : Bool) (h l : Int) (s' : Bool) (h' l' : Int) (H L H' L' : Int) (hz : Nrm s h l true H L) (hz' : Nrm s' h' l' false H' L') (w : World) :
    Calls Try.prog 13 #[.agg #[.bool s, .int .i64 h, .int .i64 l], .agg #[.bool s', .int .i64 h', .int .i64 l']] w fun e w' => e = .returned (.tuple #[.int .i64 0, .bool false]) ∧ Below w.heap.size w w' := by
  go_enter Try.func13, Try.ntmps13
  go_wp2_with fail
  refine (l1Addr_any _ _ _ _ _ _ hz _).mono ?_
  rintro e w1 ⟨rfl, hb1⟩
  obtain ⟨hc1, hf1⟩ := olds (n := w.heap.size + 2) (hb1.mono (by simp))
  have z1 : w.heap.size + 1 < w1.heap.size := by have := hb1.size; simp at this; omega
  have z0 : w.heap.size < w1.heap.size := by omega
  have b1 : Below w.heap.size w w1 := (((Below.refl _ w).alloc (Nat.le_refl _) _).alloc (by simp) _).trans (hb1.mono (by simp; omega))
  go_wp2_with fail
  refine (l1Addr_any _ _ _ _ _ _ hz' _).mono ?_
  rintro e w2 ⟨rfl, hb2⟩
  obtain ⟨hc2, hf2⟩ := olds (n := w.heap.size + 2) (hb2.mono (by simp; omega))
  have y1 : w.heap.size + 1 < w2.heap.size := by have := hb2.size; simp at this; omega
  have y0 : w.heap.size < w2.heap.size := by omega
  have b2 : Below w.heap.size w w2 := by
    refine Below.trans ?_ (hb2.mono (by simp; omega))
    repeat (first | with_reducible exact b1 | (with_reducible refine Below.setCell ?_ (by first | omega | (simp; done) | (simp; omega)) _))
  go_wp2_with fail
  go_ret2
  refine ⟨rfl, ?_⟩
  repeat (first | with_reducible exact b2 | (with_reducible refine Below.setCell ?_ (by first | omega | (simp; done) | (simp; omega)) _))

set_option maxHeartbeats 1000000 in
theorem sGap_neg (s : Bool) (h l : Int) (s' : Bool) (h' l' : Int) (S : Bool) (H L H' L' : Int) (hz : Nrm s h l S H L) (hz' : Nrm s' h' l' S H' L') (c : Int) (HC : Hid (∀ w : World, Calls Try.prog 7 #[.agg #[.bool S, .int .i64 H', .int .i64 L'], .agg #[.bool S, .int .i64 H, .int .i64 L]] w fun e w' => e = .returned (.int .i64 c) ∧ Below w.heap.size w w')) (hc : c < 0) (w : World) :
    Calls Try.prog 13 #[.agg #[.bool s, .int .i64 h, .int .i64 l], .agg #[.bool s', .int .i64 h', .int .i64 l']] w fun e w' => e = .returned (.tuple #[.int .i64 0, .bool false]) ∧ Below w.heap.size w w' := by
  go_enter Try.func13, Try.ntmps13
  go_wp2_with fail
  refine (l1Addr_any _ _ _ _ _ _ hz _).mono ?_
  rintro e w1 ⟨rfl, hb1⟩
  obtain ⟨hc1, hf1⟩ := olds (n := w.heap.size + 2) (hb1.mono (by simp))
  have z1 : w.heap.size + 1 < w1.heap.size := by have := hb1.size; simp at this; omega
  have z0 : w.heap.size < w1.heap.size := by omega
  have b1 : Below w.heap.size w w1 := (((Below.refl _ w).alloc (Nat.le_refl _) _).alloc (by simp) _).trans (hb1.mono (by simp; omega))
  go_wp2_with fail
  refine (l1Addr_any _ _ _ _ _ _ hz' _).mono ?_
  rintro e w2 ⟨rfl, hb2⟩
  obtain ⟨hc2, hf2⟩ := olds (n := w.heap.size + 2) (hb2.mono (by simp; omega))
  have y1 : w.heap.size + 1 < w2.heap.size := by have := hb2.size; simp at this; omega
  have y0 : w.heap.size < w2.heap.size := by omega
  have b2 : Below w.heap.size w w2 := by
    refine Below.trans ?_ (hb2.mono (by simp; omega))
    repeat (first | with_reducible exact b1 | (with_reducible refine Below.setCell ?_ (by first | omega | (simp; done) | (simp; omega)) _))
  go_wp2_with fail
  refine (HC.out _).mono ?_
  rintro e w3 ⟨rfl, hb3⟩
  obtain ⟨hc3, hf3⟩ := olds (n := w.heap.size + 2) (hb3.mono (by simp; omega))
  have v1 : w.heap.size + 1 < w3.heap.size := by have := hb3.size; simp at this; omega
  have v0 : w.heap.size < w3.heap.size := by omega
  have b3 : Below w.heap.size w w3 := by
    refine Below.trans ?_ (hb3.mono (by simp; omega))
    repeat (first | with_reducible exact b2 | (with_reducible refine Below.setCell ?_ (by first | omega | (simp; done) | (simp; omega)) _))
  go_wp2_with fail
  go_ret2
  exact ⟨rfl, b3⟩

set_option maxHeartbeats 1000000 in
theorem sGap_hi0 (s : Bool) (h l : Int) (s' : Bool) (h' l' : Int) (S : Bool) (H L H' L' : Int) (hz : Nrm s h l S H L) (hz' : Nrm s' h' l' S H' L') (c : Int) (HC : Hid (∀ w : World, Calls Try.prog 7 #[.agg #[.bool S, .int .i64 H', .int .i64 L'], .agg #[.bool S, .int .i64 H, .int .i64 L]] w fun e w' => e = .returned (.int .i64 c) ∧ Below w.heap.size w w')) (hc : 0 ≤ c) (u1 : Hid (ult L' L = false)) (k2 : ((IntKind.u64.wrap (IntKind.u64.wrap H' - IntKind.u64.wrap H)) != 0) = true) (w : World) :
    Calls Try.prog 13 #[.agg #[.bool s, .int .i64 h, .int .i64 l], .agg #[.bool s', .int .i64 h', .int .i64 l']] w fun e w' => e = .returned (.tuple #[.int .i64 0, .bool false]) ∧ Below w.heap.size w w' := by
  go_enter Try.func13, Try.ntmps13
  go_wp2_with fail
  refine (l1Addr_any _ _ _ _ _ _ hz _).mono ?_
  rintro e w1 ⟨rfl, hb1⟩
  obtain ⟨hc1, hf1⟩ := olds (n := w.heap.size + 2) (hb1.mono (by simp))
  have z1 : w.heap.size + 1 < w1.heap.size := by have := hb1.size; simp at this; omega
  have z0 : w.heap.size < w1.heap.size := by omega
  have b1 : Below w.heap.size w w1 := (((Below.refl _ w).alloc (Nat.le_refl _) _).alloc (by simp) _).trans (hb1.mono (by simp; omega))
  go_wp2_with fail
  refine (l1Addr_any _ _ _ _ _ _ hz' _).mono ?_
  rintro e w2 ⟨rfl, hb2⟩
  obtain ⟨hc2, hf2⟩ := olds (n := w.heap.size + 2) (hb2.mono (by simp; omega))
  have y1 : w.heap.size + 1 < w2.heap.size := by have := hb2.size; simp at this; omega
  have y0 : w.heap.size < w2.heap.size := by omega
  have b2 : Below w.heap.size w w2 := by
    refine Below.trans ?_ (hb2.mono (by simp; omega))
    repeat (first | with_reducible exact b1 | (with_reducible refine Below.setCell ?_ (by first | omega | (simp; done) | (simp; omega)) _))
  go_wp2_with fail
  refine (HC.out _).mono ?_
  rintro e w3 ⟨rfl, hb3⟩
  obtain ⟨hc3, hf3⟩ := olds (n := w.heap.size + 2) (hb3.mono (by simp; omega))
  have v1 : w.heap.size + 1 < w3.heap.size := by have := hb3.size; simp at this; omega
  have v0 : w.heap.size < w3.heap.size := by omega
  have b3 : Below w.heap.size w w3 := by
    refine Below.trans ?_ (hb3.mono (by simp; omega))
    repeat (first | with_reducible exact b2 | (with_reducible refine Below.setCell ?_ (by first | omega | (simp; done) | (simp; omega)) _))
  go_wp2_with fail
  refine (l1Less_any _ _ _).mono ?_
  rw [u1.out]
  rintro e w4 ⟨rfl, rfl⟩
  go_wp2_with fail
  go_ret2
  exact ⟨rfl, b3⟩

set_option maxHeartbeats 1000000 in
theorem sGap_lo0 (s : Bool) (h l : Int) (s' : Bool) (h' l' : Int) (S : Bool) (H L H' L' : Int) (hz : Nrm s h l S H L) (hz' : Nrm s' h' l' S H' L') (c : Int) (HC : Hid (∀ w : World, Calls Try.prog 7 #[.agg #[.bool S, .int .i64 H', .int .i64 L'], .agg #[.bool S, .int .i64 H, .int .i64 L]] w fun e w' => e = .returned (.int .i64 c) ∧ Below w.heap.size w w')) (hc : 0 ≤ c) (u1 : Hid (ult L' L = false)) (k2 : ((IntKind.u64.wrap (IntKind.u64.wrap H' - IntKind.u64.wrap H)) != 0) = false) (k3 : 9223372036854775807 < (IntKind.u64.wrap (IntKind.u64.wrap L' - IntKind.u64.wrap L))) (w : World) :
    Calls Try.prog 13 #[.agg #[.bool s, .int .i64 h, .int .i64 l], .agg #[.bool s', .int .i64 h', .int .i64 l']] w fun e w' => e = .returned (.tuple #[.int .i64 0, .bool false]) ∧ Below w.heap.size w w' := by
  go_enter Try.func13, Try.ntmps13
  go_wp2_with fail
  refine (l1Addr_any _ _ _ _ _ _ hz _).mono ?_
  rintro e w1 ⟨rfl, hb1⟩
  obtain ⟨hc1, hf1⟩ := olds (n := w.heap.size + 2) (hb1.mono (by simp))
  have z1 : w.heap.size + 1 < w1.heap.size := by have := hb1.size; simp at this; omega
  have z0 : w.heap.size < w1.heap.size := by omega
  have b1 : Below w.heap.size w w1 := (((Below.refl _ w).alloc (Nat.le_refl _) _).alloc (by simp) _).trans (hb1.mono (by simp; omega))
  go_wp2_with fail
  refine (l1Addr_any _ _ _ _ _ _ hz' _).mono ?_
  rintro e w2 ⟨rfl, hb2⟩
  obtain ⟨hc2, hf2⟩ := olds (n := w.heap.size + 2) (hb2.mono (by simp; omega))
  have y1 : w.heap.size + 1 < w2.heap.size := by have := hb2.size; simp at this; omega
  have y0 : w.heap.size < w2.heap.size := by omega
  have b2 : Below w.heap.size w w2 := by
    refine Below.trans ?_ (hb2.mono (by simp; omega))
    repeat (first | with_reducible exact b1 | (with_reducible refine Below.setCell ?_ (by first | omega | (simp; done) | (simp; omega)) _))
  go_wp2_with fail
  refine (HC.out _).mono ?_
  rintro e w3 ⟨rfl, hb3⟩
  obtain ⟨hc3, hf3⟩ := olds (n := w.heap.size + 2) (hb3.mono (by simp; omega))
  have v1 : w.heap.size + 1 < w3.heap.size := by have := hb3.size; simp at this; omega
  have v0 : w.heap.size < w3.heap.size := by omega
  have b3 : Below w.heap.size w w3 := by
    refine Below.trans ?_ (hb3.mono (by simp; omega))
    repeat (first | with_reducible exact b2 | (with_reducible refine Below.setCell ?_ (by first | omega | (simp; done) | (simp; omega)) _))
  go_wp2_with fail
  refine (l1Less_any _ _ _).mono ?_
  rw [u1.out]
  rintro e w4 ⟨rfl, rfl⟩
  go_wp2_with fail
  go_ret2
  exact ⟨rfl, b3⟩

set_option maxHeartbeats 1000000 in
theorem sGap_ok0 (s : Bool) (h l : Int) (s' : Bool) (h' l' : Int) (S : Bool) (H L H' L' : Int) (hz : Nrm s h l S H L) (hz' : Nrm s' h' l' S H' L') (c : Int) (HC : Hid (∀ w : World, Calls Try.prog 7 #[.agg #[.bool S, .int .i64 H', .int .i64 L'], .agg #[.bool S, .int .i64 H, .int .i64 L]] w fun e w' => e = .returned (.int .i64 c) ∧ Below w.heap.size w w')) (hc : 0 ≤ c) (u1 : Hid (ult L' L = false)) (k2 : ((IntKind.u64.wrap (IntKind.u64.wrap H' - IntKind.u64.wrap H)) != 0) = false) (k3 : (IntKind.u64.wrap (IntKind.u64.wrap L' - IntKind.u64.wrap L)) ≤ 9223372036854775807) (k4 : 0 ≤ (IntKind.u64.wrap (IntKind.u64.wrap L' - IntKind.u64.wrap L))) (w : World) :
    Calls Try.prog 13 #[.agg #[.bool s, .int .i64 h, .int .i64 l], .agg #[.bool s', .int .i64 h', .int .i64 l']] w fun e w' => e = .returned (.tuple #[.int .i64 (IntKind.u64.wrap (IntKind.u64.wrap L' - IntKind.u64.wrap L)), .bool true]) ∧ Below w.heap.size w w' := by
  go_enter Try.func13, Try.ntmps13
  go_wp2_with fail
  refine (l1Addr_any _ _ _ _ _ _ hz _).mono ?_
  rintro e w1 ⟨rfl, hb1⟩
  obtain ⟨hc1, hf1⟩ := olds (n := w.heap.size + 2) (hb1.mono (by simp))
  have z1 : w.heap.size + 1 < w1.heap.size := by have := hb1.size; simp at this; omega
  have z0 : w.heap.size < w1.heap.size := by omega
  have b1 : Below w.heap.size w w1 := (((Below.refl _ w).alloc (Nat.le_refl _) _).alloc (by simp) _).trans (hb1.mono (by simp; omega))
  go_wp2_with fail
  refine (l1Addr_any _ _ _ _ _ _ hz' _).mono ?_
  rintro e w2 ⟨rfl, hb2⟩
  obtain ⟨hc2, hf2⟩ := olds (n := w.heap.size + 2) (hb2.mono (by simp; omega))
  have y1 : w.heap.size + 1 < w2.heap.size := by have := hb2.size; simp at this; omega
  have y0 : w.heap.size < w2.heap.size := by omega
  have b2 : Below w.heap.size w w2 := by
    refine Below.trans ?_ (hb2.mono (by simp; omega))
    repeat (first | with_reducible exact b1 | (with_reducible refine Below.setCell ?_ (by first | omega | (simp; done) | (simp; omega)) _))
  go_wp2_with fail
  refine (HC.out _).mono ?_
  rintro e w3 ⟨rfl, hb3⟩
  obtain ⟨hc3, hf3⟩ := olds (n := w.heap.size + 2) (hb3.mono (by simp; omega))
  have v1 : w.heap.size + 1 < w3.heap.size := by have := hb3.size; simp at this; omega
  have v0 : w.heap.size < w3.heap.size := by omega
  have b3 : Below w.heap.size w w3 := by
    refine Below.trans ?_ (hb3.mono (by simp; omega))
    repeat (first | with_reducible exact b2 | (with_reducible refine Below.setCell ?_ (by first | omega | (simp; done) | (simp; omega)) _))
  go_wp2_with fail
  refine (l1Less_any _ _ _).mono ?_
  rw [u1.out]
  rintro e w4 ⟨rfl, rfl⟩
  go_wp2_with fail
  go_ret2
  exact ⟨rfl, b3⟩

set_option maxHeartbeats 1000000 in
theorem sGap_hi1 (s : Bool) (h l : Int) (s' : Bool) (h' l' : Int) (S : Bool) (H L H' L' : Int) (hz : Nrm s h l S H L) (hz' : Nrm s' h' l' S H' L') (c : Int) (HC : Hid (∀ w : World, Calls Try.prog 7 #[.agg #[.bool S, .int .i64 H', .int .i64 L'], .agg #[.bool S, .int .i64 H, .int .i64 L]] w fun e w' => e = .returned (.int .i64 c) ∧ Below w.heap.size w w')) (hc : 0 ≤ c) (u1 : Hid (ult L' L = true)) (k2 : ((IntKind.u64.wrap ((IntKind.u64.wrap (IntKind.u64.wrap H' - IntKind.u64.wrap H)) - 1)) != 0) = true) (w : World) :
    Calls Try.prog 13 #[.agg #[.bool s, .int .i64 h, .int .i64 l], .agg #[.bool s', .int .i64 h', .int .i64 l']] w fun e w' => e = .returned (.tuple #[.int .i64 0, .bool false]) ∧ Below w.heap.size w w' := by
  go_enter Try.func13, Try.ntmps13
  go_wp2_with fail
  refine (l1Addr_any _ _ _ _ _ _ hz _).mono ?_
  rintro e w1 ⟨rfl, hb1⟩
  obtain ⟨hc1, hf1⟩ := olds (n := w.heap.size + 2) (hb1.mono (by simp))
  have z1 : w.heap.size + 1 < w1.heap.size := by have := hb1.size; simp at this; omega
  have z0 : w.heap.size < w1.heap.size := by omega
  have b1 : Below w.heap.size w w1 := (((Below.refl _ w).alloc (Nat.le_refl _) _).alloc (by simp) _).trans (hb1.mono (by simp; omega))
  go_wp2_with fail
  refine (l1Addr_any _ _ _ _ _ _ hz' _).mono ?_
  rintro e w2 ⟨rfl, hb2⟩
  obtain ⟨hc2, hf2⟩ := olds (n := w.heap.size + 2) (hb2.mono (by simp; omega))
  have y1 : w.heap.size + 1 < w2.heap.size := by have := hb2.size; simp at this; omega
  have y0 : w.heap.size < w2.heap.size := by omega
  have b2 : Below w.heap.size w w2 := by
    refine Below.trans ?_ (hb2.mono (by simp; omega))
    repeat (first | with_reducible exact b1 | (with_reducible refine Below.setCell ?_ (by first | omega | (simp; done) | (simp; omega)) _))
  go_wp2_with fail
  refine (HC.out _).mono ?_
  rintro e w3 ⟨rfl, hb3⟩
  obtain ⟨hc3, hf3⟩ := olds (n := w.heap.size + 2) (hb3.mono (by simp; omega))
  have v1 : w.heap.size + 1 < w3.heap.size := by have := hb3.size; simp at this; omega
  have v0 : w.heap.size < w3.heap.size := by omega
  have b3 : Below w.heap.size w w3 := by
    refine Below.trans ?_ (hb3.mono (by simp; omega))
    repeat (first | with_reducible exact b2 | (with_reducible refine Below.setCell ?_ (by first | omega | (simp; done) | (simp; omega)) _))
  go_wp2_with fail
  refine (l1Less_any _ _ _).mono ?_
  rw [u1.out]
  rintro e w4 ⟨rfl, rfl⟩
  go_wp2_with fail
  go_ret2
  exact ⟨rfl, b3⟩

set_option maxHeartbeats 1000000 in
theorem sGap_lo1 (s : Bool) (h l : Int) (s' : Bool) (h' l' : Int) (S : Bool) (H L H' L' : Int) (hz : Nrm s h l S H L) (hz' : Nrm s' h' l' S H' L') (c : Int) (HC : Hid (∀ w : World, Calls Try.prog 7 #[.agg #[.bool S, .int .i64 H', .int .i64 L'], .agg #[.bool S, .int .i64 H, .int .i64 L]] w fun e w' => e = .returned (.int .i64 c) ∧ Below w.heap.size w w')) (hc : 0 ≤ c) (u1 : Hid (ult L' L = true)) (k2 : ((IntKind.u64.wrap ((IntKind.u64.wrap (IntKind.u64.wrap H' - IntKind.u64.wrap H)) - 1)) != 0) = false) (k3 : 9223372036854775807 < (IntKind.u64.wrap (IntKind.u64.wrap L' - IntKind.u64.wrap L))) (w : World) :
    Calls Try.prog 13 #[.agg #[.bool s, .int .i64 h, .int .i64 l], .agg #[.bool s', .int .i64 h', .int .i64 l']] w fun e w' => e = .returned (.tuple #[.int .i64 0, .bool false]) ∧ Below w.heap.size w w' := by
  go_enter Try.func13, Try.ntmps13
  go_wp2_with fail
  refine (l1Addr_any _ _ _ _ _ _ hz _).mono ?_
  rintro e w1 ⟨rfl, hb1⟩
  obtain ⟨hc1, hf1⟩ := olds (n := w.heap.size + 2) (hb1.mono (by simp))
  have z1 : w.heap.size + 1 < w1.heap.size := by have := hb1.size; simp at this; omega
  have z0 : w.heap.size < w1.heap.size := by omega
  have b1 : Below w.heap.size w w1 := (((Below.refl _ w).alloc (Nat.le_refl _) _).alloc (by simp) _).trans (hb1.mono (by simp; omega))
  go_wp2_with fail
  refine (l1Addr_any _ _ _ _ _ _ hz' _).mono ?_
  rintro e w2 ⟨rfl, hb2⟩
  obtain ⟨hc2, hf2⟩ := olds (n := w.heap.size + 2) (hb2.mono (by simp; omega))
  have y1 : w.heap.size + 1 < w2.heap.size := by have := hb2.size; simp at this; omega
  have y0 : w.heap.size < w2.heap.size := by omega
  have b2 : Below w.heap.size w w2 := by
    refine Below.trans ?_ (hb2.mono (by simp; omega))
    repeat (first | with_reducible exact b1 | (with_reducible refine Below.setCell ?_ (by first | omega | (simp; done) | (simp; omega)) _))
  go_wp2_with fail
  refine (HC.out _).mono ?_
  rintro e w3 ⟨rfl, hb3⟩
  obtain ⟨hc3, hf3⟩ := olds (n := w.heap.size + 2) (hb3.mono (by simp; omega))
  have v1 : w.heap.size + 1 < w3.heap.size := by have := hb3.size; simp at this; omega
  have v0 : w.heap.size < w3.heap.size := by omega
  have b3 : Below w.heap.size w w3 := by
    refine Below.trans ?_ (hb3.mono (by simp; omega))
    repeat (first | with_reducible exact b2 | (with_reducible refine Below.setCell ?_ (by first | omega | (simp; done) | (simp; omega)) _))
  go_wp2_with fail
  refine (l1Less_any _ _ _).mono ?_
  rw [u1.out]
  rintro e w4 ⟨rfl, rfl⟩
  go_wp2_with fail
  go_ret2
  exact ⟨rfl, b3⟩

set_option maxHeartbeats 1000000 in
theorem sGap_ok1 (s : Bool) (h l : Int) (s' : Bool) (h' l' : Int) (S : Bool) (H L H' L' : Int) (hz : Nrm s h l S H L) (hz' : Nrm s' h' l' S H' L') (c : Int) (HC : Hid (∀ w : World, Calls Try.prog 7 #[.agg #[.bool S, .int .i64 H', .int .i64 L'], .agg #[.bool S, .int .i64 H, .int .i64 L]] w fun e w' => e = .returned (.int .i64 c) ∧ Below w.heap.size w w')) (hc : 0 ≤ c) (u1 : Hid (ult L' L = true)) (k2 : ((IntKind.u64.wrap ((IntKind.u64.wrap (IntKind.u64.wrap H' - IntKind.u64.wrap H)) - 1)) != 0) = false) (k3 : (IntKind.u64.wrap (IntKind.u64.wrap L' - IntKind.u64.wrap L)) ≤ 9223372036854775807) (k4 : 0 ≤ (IntKind.u64.wrap (IntKind.u64.wrap L' - IntKind.u64.wrap L))) (w : World) :
    Calls Try.prog 13 #[.agg #[.bool s, .int .i64 h, .int .i64 l], .agg #[.bool s', .int .i64 h', .int .i64 l']] w fun e w' => e = .returned (.tuple #[.int .i64 (IntKind.u64.wrap (IntKind.u64.wrap L' - IntKind.u64.wrap L)), .bool true]) ∧ Below w.heap.size w w' := by
  go_enter Try.func13, Try.ntmps13
  go_wp2_with fail
  refine (l1Addr_any _ _ _ _ _ _ hz _).mono ?_
  rintro e w1 ⟨rfl, hb1⟩
  obtain ⟨hc1, hf1⟩ := olds (n := w.heap.size + 2) (hb1.mono (by simp))
  have z1 : w.heap.size + 1 < w1.heap.size := by have := hb1.size; simp at this; omega
  have z0 : w.heap.size < w1.heap.size := by omega
  have b1 : Below w.heap.size w w1 := (((Below.refl _ w).alloc (Nat.le_refl _) _).alloc (by simp) _).trans (hb1.mono (by simp; omega))
  go_wp2_with fail
  refine (l1Addr_any _ _ _ _ _ _ hz' _).mono ?_
  rintro e w2 ⟨rfl, hb2⟩
  obtain ⟨hc2, hf2⟩ := olds (n := w.heap.size + 2) (hb2.mono (by simp; omega))
  have y1 : w.heap.size + 1 < w2.heap.size := by have := hb2.size; simp at this; omega
  have y0 : w.heap.size < w2.heap.size := by omega
  have b2 : Below w.heap.size w w2 := by
    refine Below.trans ?_ (hb2.mono (by simp; omega))
    repeat (first | with_reducible exact b1 | (with_reducible refine Below.setCell ?_ (by first | omega | (simp; done) | (simp; omega)) _))
  go_wp2_with fail
  refine (HC.out _).mono ?_
  rintro e w3 ⟨rfl, hb3⟩
  obtain ⟨hc3, hf3⟩ := olds (n := w.heap.size + 2) (hb3.mono (by simp; omega))
  have v1 : w.heap.size + 1 < w3.heap.size := by have := hb3.size; simp at this; omega
  have v0 : w.heap.size < w3.heap.size := by omega
  have b3 : Below w.heap.size w w3 := by
    refine Below.trans ?_ (hb3.mono (by simp; omega))
    repeat (first | with_reducible exact b2 | (with_reducible refine Below.setCell ?_ (by first | omega | (simp; done) | (simp; omega)) _))
  go_wp2_with fail
  refine (l1Less_any _ _ _).mono ?_
  rw [u1.out]
  rintro e w4 ⟨rfl, rfl⟩
  go_wp2_with fail
  go_ret2
  exact ⟨rfl, b3⟩

end Go.Proofs.Ytkmfbbcofojfaab
