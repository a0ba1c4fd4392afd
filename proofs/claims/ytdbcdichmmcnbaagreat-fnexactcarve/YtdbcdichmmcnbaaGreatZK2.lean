/-
  The specification's CmpAddr, way by way, by its plain twin; nothing old in memory turns.
-/
import Derived.Test.YtdbcdichmmcnbaaGreatZK1
namespace Go.Proofs.YtdbcdichmmcnbaaGreat
open Go.RowKit

/-- '==' on two addresses. -/
theorem eqSt (a : Bool) (b c : Int) (d : Bool) (e f : Int) (w : World) : (Op.equalIn 10000 29 (.agg #[.bool a, .int .i64 b, .int .i64 c]) (.agg #[.bool d, .int .i64 e, .int .i64 f])).run Tryz.prog w = .ok (a == d && (b == e && c == f)) w := by
  have u3 := Tryz.underlying3
  have a3 := Tryz.isAgg3
  have z3 := Tryz.sizeOf3
  have u4 := Tryz.underlying4
  have a4 := Tryz.isAgg4
  have z4 := Tryz.sizeOf4
  have hS : Tryz.prog.underlying 29 = some (.struct (Tryz.prog.fieldsOf 29)) := by kernel_rfl
  have hp : Tryz.prog.stoodInHeld 29 = false := by kernel_rfl
  rw [show (10000 : Nat) = 9999 + 1 from rfl, run_equalIn_agg w 9999 29 _ _ hS hp]
  simp only [Program.fieldsOf, Tryz.underlying29]
  go_simp
  by_cases h1 : a = d <;> by_cases h2 : b = e <;> by_cases h3 : c = f <;> simp [h1, h2, h3]

set_option maxHeartbeats 1000000 in
theorem sCmp_eq (s : Bool) (h l : Int) (s' : Bool) (h' l' : Int) (S : Bool) (S' : Bool) (H L H' L' : Int) (hz : Nrm s h l S H L) (hz' : Nrm s' h' l' S' H' L') (hq : ∀ wx, (Op.equalIn 10000 29 (.agg #[.bool S, .int .i64 H, .int .i64 L]) (.agg #[.bool S', .int .i64 H', .int .i64 L'])).run Tryz.prog wx = .ok true wx) (w : World) :
    Calls Tryz.prog 98 #[.agg #[.bool s, .int .i64 h, .int .i64 l], .agg #[.bool s', .int .i64 h', .int .i64 l']] w fun e w' => e = .returned (.int .i64 (0)) ∧ Below w.heap.size w w' := by
  go_enter Tryz.func98, Tryz.ntmps98
  go_wp2_with fail
  refine (l1Addr_any _ _ _ _ _ _ hz _).mono ?_
  rintro e w1 ⟨rfl, hb1⟩
  obtain ⟨hc1, hf1⟩ := olds (n := w.heap.size + 2) (hb1.mono (by simp))
  have z1 : w.heap.size + 1 < w1.heap.size := by have := hb1.size; simp at this; omega
  have z0 : w.heap.size < w1.heap.size := by omega
  have b1 : Below w.heap.size w w1 := (((Below.refl _ w).alloc (Nat.le_refl _) _).alloc (by simp) _).trans (hb1.mono (by simp; omega))
  go_wp2_with fail
  refine (l1Addr_any _ _ _ _ _ _ hz' _).mono ?_
  rintro e w2 ⟨rfl, hb2⟩
  obtain ⟨hc2, hf2⟩ := olds (n := w.heap.size + 2) (hb2.mono (by simp; omega))
  have y1 : w.heap.size + 1 < w2.heap.size := by have := hb2.size; simp at this; omega
  have y0 : w.heap.size < w2.heap.size := by omega
  have b2 : Below w.heap.size w w2 := by
    refine Below.trans ?_ (hb2.mono (by simp; omega))
    repeat (first | with_reducible exact b1 | (with_reducible refine Below.setCell ?_ (by first | omega | (simp; done) | (simp; omega)) _))
  go_wp2_with fail
  go_ret
  refine ⟨rfl, ?_⟩
  repeat (first | with_reducible exact b2 | (with_reducible refine Below.setCell ?_ (by first | omega | (simp; done) | (simp; omega)) _))

set_option maxHeartbeats 1000000 in
theorem sCmp_ft (s : Bool) (h l : Int) (s' : Bool) (h' l' : Int) (H L H' L' : Int) (hz : Nrm s h l false H L) (hz' : Nrm s' h' l' true H' L') (hq : ∀ wx, (Op.equalIn 10000 29 (.agg #[.bool false, .int .i64 H, .int .i64 L]) (.agg #[.bool true, .int .i64 H', .int .i64 L'])).run Tryz.prog wx = .ok false wx) (w : World) :
    Calls Tryz.prog 98 #[.agg #[.bool s, .int .i64 h, .int .i64 l], .agg #[.bool s', .int .i64 h', .int .i64 l']] w fun e w' => e = .returned (.int .i64 (-1)) ∧ Below w.heap.size w w' := by
  go_enter Tryz.func98, Tryz.ntmps98
  go_wp2_with fail
  refine (l1Addr_any _ _ _ _ _ _ hz _).mono ?_
  rintro e w1 ⟨rfl, hb1⟩
  obtain ⟨hc1, hf1⟩ := olds (n := w.heap.size + 2) (hb1.mono (by simp))
  have z1 : w.heap.size + 1 < w1.heap.size := by have := hb1.size; simp at this; omega
  have z0 : w.heap.size < w1.heap.size := by omega
  have b1 : Below w.heap.size w w1 := (((Below.refl _ w).alloc (Nat.le_refl _) _).alloc (by simp) _).trans (hb1.mono (by simp; omega))
  go_wp2_with fail
  refine (l1Addr_any _ _ _ _ _ _ hz' _).mono ?_
  rintro e w2 ⟨rfl, hb2⟩
  obtain ⟨hc2, hf2⟩ := olds (n := w.heap.size + 2) (hb2.mono (by simp; omega))
  have y1 : w.heap.size + 1 < w2.heap.size := by have := hb2.size; simp at this; omega
  have y0 : w.heap.size < w2.heap.size := by omega
  have b2 : Below w.heap.size w w2 := by
    refine Below.trans ?_ (hb2.mono (by simp; omega))
    repeat (first | with_reducible exact b1 | (with_reducible refine Below.setCell ?_ (by first | omega | (simp; done) | (simp; omega)) _))
  go_wp2_with fail
  go_ret
  refine ⟨rfl, ?_⟩
  repeat (first | with_reducible exact b2 | (with_reducible refine Below.setCell ?_ (by first | omega | (simp; done) | (simp; omega)) _))

set_option maxHeartbeats 1000000 in
theorem sCmp_tf (s : Bool) (h l : Int) (s' : Bool) (h' l' : Int) (H L H' L' : Int) (hz : Nrm s h l true H L) (hz' : Nrm s' h' l' false H' L') (hq : ∀ wx, (Op.equalIn 10000 29 (.agg #[.bool true, .int .i64 H, .int .i64 L]) (.agg #[.bool false, .int .i64 H', .int .i64 L'])).run Tryz.prog wx = .ok false wx) (w : World) :
    Calls Tryz.prog 98 #[.agg #[.bool s, .int .i64 h, .int .i64 l], .agg #[.bool s', .int .i64 h', .int .i64 l']] w fun e w' => e = .returned (.int .i64 (1)) ∧ Below w.heap.size w w' := by
  go_enter Tryz.func98, Tryz.ntmps98
  go_wp2_with fail
  refine (l1Addr_any _ _ _ _ _ _ hz _).mono ?_
  rintro e w1 ⟨rfl, hb1⟩
  obtain ⟨hc1, hf1⟩ := olds (n := w.heap.size + 2) (hb1.mono (by simp))
  have z1 : w.heap.size + 1 < w1.heap.size := by have := hb1.size; simp at this; omega
  have z0 : w.heap.size < w1.heap.size := by omega
  have b1 : Below w.heap.size w w1 := (((Below.refl _ w).alloc (Nat.le_refl _) _).alloc (by simp) _).trans (hb1.mono (by simp; omega))
  go_wp2_with fail
  refine (l1Addr_any _ _ _ _ _ _ hz' _).mono ?_
  rintro e w2 ⟨rfl, hb2⟩
  obtain ⟨hc2, hf2⟩ := olds (n := w.heap.size + 2) (hb2.mono (by simp; omega))
  have y1 : w.heap.size + 1 < w2.heap.size := by have := hb2.size; simp at this; omega
  have y0 : w.heap.size < w2.heap.size := by omega
  have b2 : Below w.heap.size w w2 := by
    refine Below.trans ?_ (hb2.mono (by simp; omega))
    repeat (first | with_reducible exact b1 | (with_reducible refine Below.setCell ?_ (by first | omega | (simp; done) | (simp; omega)) _))
  go_wp2_with fail
  go_ret
  refine ⟨rfl, ?_⟩
  repeat (first | with_reducible exact b2 | (with_reducible refine Below.setCell ?_ (by first | omega | (simp; done) | (simp; omega)) _))

set_option maxHeartbeats 1000000 in
theorem sCmp_lt1 (s : Bool) (h l : Int) (s' : Bool) (h' l' : Int) (S : Bool) (H L H' L' : Int) (hz : Nrm s h l S H L) (hz' : Nrm s' h' l' S H' L') (hq : ∀ wx, (Op.equalIn 10000 29 (.agg #[.bool S, .int .i64 H, .int .i64 L]) (.agg #[.bool S, .int .i64 H', .int .i64 L'])).run Tryz.prog wx = .ok false wx) (u1 : Hid (ult H H' = true)) (w : World) :
    Calls Tryz.prog 98 #[.agg #[.bool s, .int .i64 h, .int .i64 l], .agg #[.bool s', .int .i64 h', .int .i64 l']] w fun e w' => e = .returned (.int .i64 (-1)) ∧ Below w.heap.size w w' := by
  go_enter Tryz.func98, Tryz.ntmps98
  go_wp2_with fail
  refine (l1Addr_any _ _ _ _ _ _ hz _).mono ?_
  rintro e w1 ⟨rfl, hb1⟩
  obtain ⟨hc1, hf1⟩ := olds (n := w.heap.size + 2) (hb1.mono (by simp))
  have z1 : w.heap.size + 1 < w1.heap.size := by have := hb1.size; simp at this; omega
  have z0 : w.heap.size < w1.heap.size := by omega
  have b1 : Below w.heap.size w w1 := (((Below.refl _ w).alloc (Nat.le_refl _) _).alloc (by simp) _).trans (hb1.mono (by simp; omega))
  go_wp2_with fail
  refine (l1Addr_any _ _ _ _ _ _ hz' _).mono ?_
  rintro e w2 ⟨rfl, hb2⟩
  obtain ⟨hc2, hf2⟩ := olds (n := w.heap.size + 2) (hb2.mono (by simp; omega))
  have y1 : w.heap.size + 1 < w2.heap.size := by have := hb2.size; simp at this; omega
  have y0 : w.heap.size < w2.heap.size := by omega
  have b2 : Below w.heap.size w w2 := by
    refine Below.trans ?_ (hb2.mono (by simp; omega))
    repeat (first | with_reducible exact b1 | (with_reducible refine Below.setCell ?_ (by first | omega | (simp; done) | (simp; omega)) _))
  go_wp2_with fail
  refine (l1Less_any _ _ _).mono ?_
  rw [u1.out]
  rintro e w3 ⟨rfl, rfl⟩
  go_wp2_with fail
  go_ret
  refine ⟨rfl, ?_⟩
  repeat (first | with_reducible exact b2 | (with_reducible refine Below.setCell ?_ (by first | omega | (simp; done) | (simp; omega)) _))

set_option maxHeartbeats 1000000 in
theorem sCmp_lt2 (s : Bool) (h l : Int) (s' : Bool) (h' l' : Int) (S : Bool) (H L H' L' : Int) (hz : Nrm s h l S H L) (hz' : Nrm s' h' l' S H' L') (hq : ∀ wx, (Op.equalIn 10000 29 (.agg #[.bool S, .int .i64 H, .int .i64 L]) (.agg #[.bool S, .int .i64 H', .int .i64 L'])).run Tryz.prog wx = .ok false wx) (u1 : Hid (ult H H' = false)) (e1 : (H == H') = true) (u2 : Hid (ult L L' = true)) (w : World) :
    Calls Tryz.prog 98 #[.agg #[.bool s, .int .i64 h, .int .i64 l], .agg #[.bool s', .int .i64 h', .int .i64 l']] w fun e w' => e = .returned (.int .i64 (-1)) ∧ Below w.heap.size w w' := by
  go_enter Tryz.func98, Tryz.ntmps98
  go_wp2_with fail
  refine (l1Addr_any _ _ _ _ _ _ hz _).mono ?_
  rintro e w1 ⟨rfl, hb1⟩
  obtain ⟨hc1, hf1⟩ := olds (n := w.heap.size + 2) (hb1.mono (by simp))
  have z1 : w.heap.size + 1 < w1.heap.size := by have := hb1.size; simp at this; omega
  have z0 : w.heap.size < w1.heap.size := by omega
  have b1 : Below w.heap.size w w1 := (((Below.refl _ w).alloc (Nat.le_refl _) _).alloc (by simp) _).trans (hb1.mono (by simp; omega))
  go_wp2_with fail
  refine (l1Addr_any _ _ _ _ _ _ hz' _).mono ?_
  rintro e w2 ⟨rfl, hb2⟩
  obtain ⟨hc2, hf2⟩ := olds (n := w.heap.size + 2) (hb2.mono (by simp; omega))
  have y1 : w.heap.size + 1 < w2.heap.size := by have := hb2.size; simp at this; omega
  have y0 : w.heap.size < w2.heap.size := by omega
  have b2 : Below w.heap.size w w2 := by
    refine Below.trans ?_ (hb2.mono (by simp; omega))
    repeat (first | with_reducible exact b1 | (with_reducible refine Below.setCell ?_ (by first | omega | (simp; done) | (simp; omega)) _))
  go_wp2_with fail
  refine (l1Less_any _ _ _).mono ?_
  rw [u1.out]
  rintro e w3 ⟨rfl, rfl⟩
  go_wp2_with fail
  refine (l1Less_any _ _ _).mono ?_
  rw [u2.out]
  rintro e w4 ⟨rfl, rfl⟩
  go_wp2_with fail
  go_ret
  refine ⟨rfl, ?_⟩
  repeat (first | with_reducible exact b2 | (with_reducible refine Below.setCell ?_ (by first | omega | (simp; done) | (simp; omega)) _))

set_option maxHeartbeats 1000000 in
theorem sCmp_gt2 (s : Bool) (h l : Int) (s' : Bool) (h' l' : Int) (S : Bool) (H L H' L' : Int) (hz : Nrm s h l S H L) (hz' : Nrm s' h' l' S H' L') (hq : ∀ wx, (Op.equalIn 10000 29 (.agg #[.bool S, .int .i64 H, .int .i64 L]) (.agg #[.bool S, .int .i64 H', .int .i64 L'])).run Tryz.prog wx = .ok false wx) (u1 : Hid (ult H H' = false)) (e1 : (H == H') = true) (u2 : Hid (ult L L' = false)) (w : World) :
    Calls Tryz.prog 98 #[.agg #[.bool s, .int .i64 h, .int .i64 l], .agg #[.bool s', .int .i64 h', .int .i64 l']] w fun e w' => e = .returned (.int .i64 (1)) ∧ Below w.heap.size w w' := by
  go_enter Tryz.func98, Tryz.ntmps98
  go_wp2_with fail
  refine (l1Addr_any _ _ _ _ _ _ hz _).mono ?_
  rintro e w1 ⟨rfl, hb1⟩
  obtain ⟨hc1, hf1⟩ := olds (n := w.heap.size + 2) (hb1.mono (by simp))
  have z1 : w.heap.size + 1 < w1.heap.size := by have := hb1.size; simp at this; omega
  have z0 : w.heap.size < w1.heap.size := by omega
  have b1 : Below w.heap.size w w1 := (((Below.refl _ w).alloc (Nat.le_refl _) _).alloc (by simp) _).trans (hb1.mono (by simp; omega))
  go_wp2_with fail
  refine (l1Addr_any _ _ _ _ _ _ hz' _).mono ?_
  rintro e w2 ⟨rfl, hb2⟩
  obtain ⟨hc2, hf2⟩ := olds (n := w.heap.size + 2) (hb2.mono (by simp; omega))
  have y1 : w.heap.size + 1 < w2.heap.size := by have := hb2.size; simp at this; omega
  have y0 : w.heap.size < w2.heap.size := by omega
  have b2 : Below w.heap.size w w2 := by
    refine Below.trans ?_ (hb2.mono (by simp; omega))
    repeat (first | with_reducible exact b1 | (with_reducible refine Below.setCell ?_ (by first | omega | (simp; done) | (simp; omega)) _))
  go_wp2_with fail
  refine (l1Less_any _ _ _).mono ?_
  rw [u1.out]
  rintro e w3 ⟨rfl, rfl⟩
  go_wp2_with fail
  refine (l1Less_any _ _ _).mono ?_
  rw [u2.out]
  rintro e w4 ⟨rfl, rfl⟩
  go_wp2_with fail
  go_ret
  refine ⟨rfl, ?_⟩
  repeat (first | with_reducible exact b2 | (with_reducible refine Below.setCell ?_ (by first | omega | (simp; done) | (simp; omega)) _))

set_option maxHeartbeats 1000000 in
theorem sCmp_gt1 (s : Bool) (h l : Int) (s' : Bool) (h' l' : Int) (S : Bool) (H L H' L' : Int) (hz : Nrm s h l S H L) (hz' : Nrm s' h' l' S H' L') (hq : ∀ wx, (Op.equalIn 10000 29 (.agg #[.bool S, .int .i64 H, .int .i64 L]) (.agg #[.bool S, .int .i64 H', .int .i64 L'])).run Tryz.prog wx = .ok false wx) (u1 : Hid (ult H H' = false)) (e1 : (H == H') = false) (w : World) :
    Calls Tryz.prog 98 #[.agg #[.bool s, .int .i64 h, .int .i64 l], .agg #[.bool s', .int .i64 h', .int .i64 l']] w fun e w' => e = .returned (.int .i64 (1)) ∧ Below w.heap.size w w' := by
  go_enter Tryz.func98, Tryz.ntmps98
  go_wp2_with fail
  refine (l1Addr_any _ _ _ _ _ _ hz _).mono ?_
  rintro e w1 ⟨rfl, hb1⟩
  obtain ⟨hc1, hf1⟩ := olds (n := w.heap.size + 2) (hb1.mono (by simp))
  have z1 : w.heap.size + 1 < w1.heap.size := by have := hb1.size; simp at this; omega
  have z0 : w.heap.size < w1.heap.size := by omega
  have b1 : Below w.heap.size w w1 := (((Below.refl _ w).alloc (Nat.le_refl _) _).alloc (by simp) _).trans (hb1.mono (by simp; omega))
  go_wp2_with fail
  refine (l1Addr_any _ _ _ _ _ _ hz' _).mono ?_
  rintro e w2 ⟨rfl, hb2⟩
  obtain ⟨hc2, hf2⟩ := olds (n := w.heap.size + 2) (hb2.mono (by simp; omega))
  have y1 : w.heap.size + 1 < w2.heap.size := by have := hb2.size; simp at this; omega
  have y0 : w.heap.size < w2.heap.size := by omega
  have b2 : Below w.heap.size w w2 := by
    refine Below.trans ?_ (hb2.mono (by simp; omega))
    repeat (first | with_reducible exact b1 | (with_reducible refine Below.setCell ?_ (by first | omega | (simp; done) | (simp; omega)) _))
  go_wp2_with fail
  refine (l1Less_any _ _ _).mono ?_
  rw [u1.out]
  rintro e w3 ⟨rfl, rfl⟩
  go_wp2_with fail
  go_ret
  refine ⟨rfl, ?_⟩
  repeat (first | with_reducible exact b2 | (with_reducible refine Below.setCell ?_ (by first | omega | (simp; done) | (simp; omega)) _))

end Go.Proofs.YtdbcdichmmcnbaaGreat
