/-
  The draw of any prefix: what comes is of words of 64 bits; the cursor lies on; nothing else turns.
-/
import Derived.Test.YtkmfbbcofojfaaaWDraw2
import Derived.Deep.DeepCutAuto
namespace Go.Proofs.Ytkmfbbcofojfaaa
open Go.RowKit

set_option maxHeartbeats 4000000 in
theorem l2DrawAny_any (c : Nat) (a : Option Addr) (len cap : Nat) (w : World) (hC : Cur w c a len cap) :
    Calls Try.prog 31 #[.pointer (some ⟨c, 0, none⟩)] w fun e w' => (∃ (S : Bool) (X Y Z : Int), (I64 X ∧ I64 Y ∧ I64 Z) ∧ e = .returned (.agg #[.bool S, .int .i64 X, .int .i64 Y, .int .i64 Z])) ∧ Cur w' c a len cap ∧ Kp c w w' := by
  have HC : Hid (Cur w c a len cap) := hC
  have hlt := hC.lt
  clear hC
  go_enter Try.func31, Try.ntmps31
  go_wp2_with fail
  refine (l2Draw_any c a len cap _ (by repeat (first | (with_reducible refine Cur.far ?_ (by omega) _) | with_reducible exact HC.out | (with_reducible refine Cur.more ?_ _)))).mono ?_
  rintro e w1 ⟨⟨S, X, Y, Z, bb, rfl⟩, hC1, hK1⟩
  have HC1 : Hid (Cur w1 c a len cap) := hC1
  have HK1 : Hid (Kp c _ w1) := hK1
  have hz1 := hK1.big
  try simp at hz1
  clear hC1 hK1
  have d10 := fun o => HK1.out.cel (w.heap.size) o (by first | omega | (simp; done) | (simp; omega)) (by omega)
  have g10 := fun o => HK1.out.frz (w.heap.size) o (by first | omega | (simp; done) | (simp; omega)) (by omega)
  have l10 : w.heap.size < w1.heap.size := by omega
  have HB : Hid (I64 X ∧ I64 Y ∧ I64 Z) := bb
  clear bb
  go_wp2_with fail
  refine (l1Below_any c a len cap 12 _ (by repeat (first | (with_reducible refine Cur.far ?_ (by omega) _) | with_reducible exact HC1.out | (with_reducible refine Cur.more ?_ _)))).mono ?_
  rintro e w2 ⟨⟨x2, x20, x29, rfl⟩, hC2, hK2⟩
  have HC2 : Hid (Cur w2 c a len cap) := hC2
  have HK2 : Hid (Kp c _ w2) := hK2
  have hz2 := hK2.big
  try simp at hz2
  clear hC2 hK2
  have d20 := fun o => HK2.out.cel (w.heap.size) o (by first | omega | (simp; done) | (simp; omega)) (by omega)
  have g20 := fun o => HK2.out.frz (w.heap.size) o (by first | omega | (simp; done) | (simp; omega)) (by omega)
  have l20 : w.heap.size < w2.heap.size := by omega
  have d21 := fun o => HK2.out.cel (w1.heap.size) o (by first | omega | (simp; done) | (simp; omega)) (by omega)
  have g21 := fun o => HK2.out.frz (w1.heap.size) o (by first | omega | (simp; done) | (simp; omega)) (by omega)
  have l21 : w1.heap.size < w2.heap.size := by omega
  have x28 := x29 (by omega)
  clear x29
  have n1 : w1.heap.size ≠ w.heap.size := by omega
  by_cases z0 : x2 = 0
  · subst z0
    go_wp2_with fail
    refine (l1DrawAny_any c a len cap _ (by repeat (first | (with_reducible refine Cur.far ?_ (by omega) _) | with_reducible exact HC2.out | (with_reducible refine Cur.more ?_ _)))).mono ?_
    rintro e w3 ⟨⟨T, U, V, bb, rfl⟩, hC3, hK3⟩
    have HC3 : Hid (Cur w3 c a len cap) := hC3
    have HK3 : Hid (Kp c _ w3) := hK3
    have hz3 := hK3.big
    try simp at hz3
    clear hC3 hK3
    have d30 := fun o => HK3.out.cel (w.heap.size) o (by first | omega | (simp; done) | (simp; omega)) (by omega)
    have g30 := fun o => HK3.out.frz (w.heap.size) o (by first | omega | (simp; done) | (simp; omega)) (by omega)
    have l30 : w.heap.size < w3.heap.size := by omega
    have d31 := fun o => HK3.out.cel (w1.heap.size) o (by first | omega | (simp; done) | (simp; omega)) (by omega)
    have g31 := fun o => HK3.out.frz (w1.heap.size) o (by first | omega | (simp; done) | (simp; omega)) (by omega)
    have l31 : w1.heap.size < w3.heap.size := by omega
    have HU : Hid (I64 U ∧ I64 V) := bb
    clear bb
    have q0 : w3.cell? ⟨w.heap.size, 0, none⟩ = some (.bool false) := by simp [d30, d20, d10, go_sem, l10]
    have f0 : w3.frozen? ⟨w.heap.size, 0, none⟩ = false := by simp [g30, g20, g10, go_sem, l10]
    have q1 : w3.cell? ⟨w.heap.size, 1, none⟩ = some (.int .i64 0) := by simp [d30, d20, d10, go_sem, l10]
    have f1 : w3.frozen? ⟨w.heap.size, 1, none⟩ = false := by simp [g30, g20, g10, go_sem, l10]
    have q2 : w3.cell? ⟨w.heap.size, 2, none⟩ = some (.int .i64 0) := by simp [d30, d20, d10, go_sem, l10]
    have f2 : w3.frozen? ⟨w.heap.size, 2, none⟩ = false := by simp [g30, g20, g10, go_sem, l10]
    have q3 : w3.cell? ⟨w.heap.size, 3, none⟩ = some (.int .i64 0) := by simp [d30, d20, d10, go_sem, l10]
    have f3 : w3.frozen? ⟨w.heap.size, 3, none⟩ = false := by simp [g30, g20, g10, go_sem, l10]
    have p0 : w3.cell? ⟨w1.heap.size, 0, none⟩ = some (.bool S) := by simp [d31, d21, go_sem]
    have h0 : w3.frozen? ⟨w1.heap.size, 0, none⟩ = false := by simp [g31, g21, go_sem]
    have p1 : w3.cell? ⟨w1.heap.size, 1, none⟩ = some (.int .i64 X) := by simp [d31, d21, go_sem]
    have h1 : w3.frozen? ⟨w1.heap.size, 1, none⟩ = false := by simp [g31, g21, go_sem]
    have p2 : w3.cell? ⟨w1.heap.size, 2, none⟩ = some (.int .i64 Y) := by simp [d31, d21, go_sem]
    have h2 : w3.frozen? ⟨w1.heap.size, 2, none⟩ = false := by simp [g31, g21, go_sem]
    have p3 : w3.cell? ⟨w1.heap.size, 3, none⟩ = some (.int .i64 Z) := by simp [d31, d21, go_sem]
    have h3 : w3.frozen? ⟨w1.heap.size, 3, none⟩ = false := by simp [g31, g21, go_sem]
    have n2 : w.heap.size ≠ w1.heap.size := by omega
    clear d10 d20 d21 d30 d31 g10 g20 g21 g30 g31
    go_wp2_with fail
    refine bodyPost_ret (v := .agg #[.bool T, .int .i64 U, .int .i64 V, .int .i64 Z]) (by simp [results, Try.results31, go_sem, q0, q1, q2, q3]) rfl ⟨⟨T, U, V, Z, ⟨HU.out.1, HU.out.2, HB.out.2.2⟩, rfl⟩, ?_, ?_⟩
    · exact (by repeat (first | (with_reducible refine Cur.far ?_ (by omega) _) | with_reducible exact HC3.out | (with_reducible refine Cur.more ?_ _)))
    · repeat (first | (with_reducible refine Kp.setNew ?_ (by omega) (by omega) _) | with_reducible exact Kp.refl _ _ | (with_reducible refine Kp.trans ?_ HK3.out) | (with_reducible refine Kp.trans ?_ HK2.out) | (with_reducible refine Kp.trans ?_ HK1.out) | (with_reducible refine Kp.more ?_ (by omega) _))
  · have y0 : (x2 == 0) = false := by rw [beq_eq_false_iff_ne]; exact z0
    by_cases z1 : x2 = 1
    · subst z1
      go_wp2_with fail
      refine (l1Int_any I64 c a len cap (w2.heap.size) 6 _ (by repeat (first | (with_reducible refine Cur.far ?_ (by omega) _) | with_reducible exact HC2.out | (with_reducible refine Cur.more ?_ _))) (by omega) (by omega) (by first | omega | (simp; done) | (simp; omega)) (by omega) (fun j hj => match j, hj with | 0, _ => ⟨(-1), by unfold I64; omega, by simp [go_sem]⟩ | 1, _ => ⟨0, by unfold I64; omega, by simp [go_sem]⟩ | 2, _ => ⟨32, by unfold I64; omega, by simp [go_sem]⟩ | 3, _ => ⟨33, by unfold I64; omega, by simp [go_sem]⟩ | 4, _ => ⟨128, by unfold I64; omega, by simp [go_sem]⟩ | 5, _ => ⟨129, by unfold I64; omega, by simp [go_sem]⟩ | (j + 6), h => absurd h (by omega))).mono ?_
      rintro e w3 ⟨⟨x3, x3b, rfl⟩, hC3, hK3⟩
      have HC3 : Hid (Cur w3 c a len cap) := hC3
      have HK3 : Hid (Kp c _ w3) := hK3
      have hz3 := hK3.big
      try simp at hz3
      clear hC3 hK3
      have d30 := fun o => HK3.out.cel (w.heap.size) o (by first | omega | (simp; done) | (simp; omega)) (by omega)
      have g30 := fun o => HK3.out.frz (w.heap.size) o (by first | omega | (simp; done) | (simp; omega)) (by omega)
      have l30 : w.heap.size < w3.heap.size := by omega
      have d31 := fun o => HK3.out.cel (w1.heap.size) o (by first | omega | (simp; done) | (simp; omega)) (by omega)
      have g31 := fun o => HK3.out.frz (w1.heap.size) o (by first | omega | (simp; done) | (simp; omega)) (by omega)
      have l31 : w1.heap.size < w3.heap.size := by omega
      have HO : Hid (I64 x3) := x3b
      clear x3b
      go_wp2_with fail
      refine bodyPost_ret (v := .agg #[.bool S, .int .i64 X, .int .i64 Y, .int .i64 x3]) (by simp [results, Try.results31, go_sem, d30, d20, d10, l10, l20]) rfl ⟨⟨S, X, Y, x3, ⟨HB.out.1, HB.out.2.1, HO.out⟩, rfl⟩, ?_, ?_⟩
      · exact (by repeat (first | (with_reducible refine Cur.far ?_ (by omega) _) | with_reducible exact HC3.out | (with_reducible refine Cur.more ?_ _)))
      · repeat (first | (with_reducible refine Kp.setNew ?_ (by omega) (by omega) _) | with_reducible exact Kp.refl _ _ | (with_reducible refine Kp.trans ?_ HK3.out) | (with_reducible refine Kp.trans ?_ HK2.out) | (with_reducible refine Kp.trans ?_ HK1.out) | (with_reducible refine Kp.more ?_ (by omega) _))
    · have y1 : (x2 == 1) = false := by rw [beq_eq_false_iff_ne]; exact z1
      go_wp2_with fail
      refine bodyPost_ret (v := .agg #[.bool S, .int .i64 X, .int .i64 Y, .int .i64 Z]) (by simp [results, Try.results31, go_sem, d20, d10, l10]) rfl ⟨⟨S, X, Y, Z, HB.out, rfl⟩, ?_, ?_⟩
      · exact (by repeat (first | (with_reducible refine Cur.far ?_ (by omega) _) | with_reducible exact HC2.out | (with_reducible refine Cur.more ?_ _)))
      · repeat (first | (with_reducible refine Kp.setNew ?_ (by omega) (by omega) _) | with_reducible exact Kp.refl _ _ | (with_reducible refine Kp.trans ?_ HK2.out) | (with_reducible refine Kp.trans ?_ HK1.out) | (with_reducible refine Kp.more ?_ (by omega) _))

end Go.Proofs.Ytkmfbbcofojfaaa
