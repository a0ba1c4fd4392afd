/-
  The draw of any address: what comes is of words of 64 bits; the cursor lies on; nothing else turns.
-/
import Derived.Test.YtofnnpjadehgmaaDoorWDraw
namespace Go.Proofs.YtofnnpjadehgmaaDoor
open Go.RowKit

set_option maxHeartbeats 1000000 in
theorem l1DrawAny_any (c : Nat) (a : Option Addr) (len cap : Nat) (w : World) (hC : Cur w c a len cap) :
    Calls Tryd.prog 22 #[.pointer (some ⟨c, 0, none⟩)] w fun e w' => (∃ (S : Bool) (X Y : Int), (I64 X ∧ I64 Y) ∧ e = .returned (.agg #[.bool S, .int .i64 X, .int .i64 Y])) ∧ Cur w' c a len cap ∧ Kp c w w' := by
  have HC : Hid (Cur w c a len cap) := hC
  have hlt := hC.lt
  clear hC
  go_enter Tryd.func22, Tryd.ntmps22
  go_wp2_with fail
  refine (l1Draw_any c a len cap _ (by repeat (first | with_reducible exact HC.out | (with_reducible refine Cur.more ?_ _) | (with_reducible refine Cur.drew ?_) | (with_reducible refine Cur.far ?_ (by omega) _)))).mono ?_
  rintro e w1 ⟨⟨S, X, Y, ⟨_, bX, bY⟩, rfl⟩, hC1, hK1⟩
  have HC1 : Hid (Cur w1 c a len cap) := hC1
  have HK1 : Hid (Kp c _ w1) := hK1
  have hz1 := hK1.big
  try simp at hz1
  clear hC1 hK1
  have d10 := fun o => HK1.out.cel (w.heap.size) o (by first | omega | (simp; done) | (simp; omega)) (by omega)
  have g10 := fun o => HK1.out.frz (w.heap.size) o (by first | omega | (simp; done) | (simp; omega)) (by omega)
  have l10 : w.heap.size < w1.heap.size := by omega
  have HX : Hid (I64 X) := bX
  have HY : Hid (I64 Y) := bY
  clear bX bY
  go_wp2_with fail
  refine (l1Below_any c a len cap 16 _ (by repeat (first | with_reducible exact HC1.out | (with_reducible refine Cur.more ?_ _) | (with_reducible refine Cur.drew ?_) | (with_reducible refine Cur.far ?_ (by omega) _)))).mono ?_
  rintro e w2 ⟨⟨x2, x20, x29, rfl⟩, hC2, hK2⟩
  have HC2 : Hid (Cur w2 c a len cap) := hC2
  have HK2 : Hid (Kp c _ w2) := hK2
  have hz2 := hK2.big
  try simp at hz2
  clear hC2 hK2
  have d20 := fun o => HK2.out.cel (w.heap.size) o (by first | omega | (simp; done) | (simp; omega)) (by omega)
  have g20 := fun o => HK2.out.frz (w.heap.size) o (by first | omega | (simp; done) | (simp; omega)) (by omega)
  have l20 : w.heap.size < w2.heap.size := by omega
  have d21 := fun o => HK2.out.cel (w1.heap.size) o (by first | omega | (simp; done) | (simp; omega)) (by omega)
  have g21 := fun o => HK2.out.frz (w1.heap.size) o (by first | omega | (simp; done) | (simp; omega)) (by omega)
  have l21 : w1.heap.size < w2.heap.size := by omega
  have x28 := x29 (by omega)
  clear x29
  by_cases z0 : x2 = 0
  · subst z0
    go_wp2_with fail
    refine bodyPost_ret (v := .agg #[.bool (!S), .int .i64 X, .int .i64 Y]) (by simp [results, Tryd.results22, go_sem, d20, d10, l10]) rfl ⟨⟨!S, X, Y, ⟨HX.out, HY.out⟩, rfl⟩, ?_, ?_⟩
    · exact (by repeat (first | with_reducible exact HC2.out | (with_reducible refine Cur.more ?_ _) | (with_reducible refine Cur.drew ?_) | (with_reducible refine Cur.far ?_ (by omega) _)))
    · repeat (first | with_reducible exact Kp.refl _ _ | (with_reducible refine Kp.trans ?_ HK2.out) | (with_reducible refine Kp.trans ?_ HK1.out) | (with_reducible refine Kp.more ?_ (by omega) _) | (with_reducible refine Kp.setNew ?_ (by omega) (by omega) _))
  · have y0 : (x2 == 0) = false := by rw [beq_eq_false_iff_ne]; exact z0
    by_cases z1 : x2 = 1
    · subst z1
      go_wp2_with fail
      refine (l1Odd_any c a len cap _ (by repeat (first | with_reducible exact HC2.out | (with_reducible refine Cur.more ?_ _) | (with_reducible refine Cur.drew ?_) | (with_reducible refine Cur.far ?_ (by omega) _)))).mono ?_
      rintro e w3 ⟨⟨x3, x3b, rfl⟩, hC3, hK3⟩
      have HC3 : Hid (Cur w3 c a len cap) := hC3
      have HK3 : Hid (Kp c _ w3) := hK3
      have hz3 := hK3.big
      try simp at hz3
      clear hC3 hK3
      have d30 := fun o => HK3.out.cel (w.heap.size) o (by first | omega | (simp; done) | (simp; omega)) (by omega)
      have g30 := fun o => HK3.out.frz (w.heap.size) o (by first | omega | (simp; done) | (simp; omega)) (by omega)
      have l30 : w.heap.size < w3.heap.size := by omega
      have d31 := fun o => HK3.out.cel (w1.heap.size) o (by first | omega | (simp; done) | (simp; omega)) (by omega)
      have g31 := fun o => HK3.out.frz (w1.heap.size) o (by first | omega | (simp; done) | (simp; omega)) (by omega)
      have l31 : w1.heap.size < w3.heap.size := by omega
      have x3c : -9223372036854775808 ≤ x3 ∧ x3 ≤ 9223372036854775807 := x3b
      clear x3b
      have HO : Hid (I64 x3) := x3c
      clear x3c
      go_wp2_with fail
      refine bodyPost_ret (v := .agg #[.bool S, .int .i64 X, .int .i64 x3]) (by simp [results, Tryd.results22, go_sem, d30, d20, d10, l10]) rfl ⟨⟨S, X, x3, ⟨HX.out, HO.out⟩, rfl⟩, ?_, ?_⟩
      · exact (by repeat (first | with_reducible exact HC3.out | (with_reducible refine Cur.more ?_ _) | (with_reducible refine Cur.drew ?_) | (with_reducible refine Cur.far ?_ (by omega) _)))
      · repeat (first | with_reducible exact Kp.refl _ _ | (with_reducible refine Kp.trans ?_ HK3.out) | (with_reducible refine Kp.trans ?_ HK2.out) | (with_reducible refine Kp.trans ?_ HK1.out) | (with_reducible refine Kp.more ?_ (by omega) _) | (with_reducible refine Kp.setNew ?_ (by omega) (by omega) _))
    · have y1 : (x2 == 1) = false := by rw [beq_eq_false_iff_ne]; exact z1
      go_wp2_with fail
      refine bodyPost_ret (v := .agg #[.bool S, .int .i64 X, .int .i64 Y]) (by simp [results, Tryd.results22, go_sem, d20, d10, l10]) rfl ⟨⟨S, X, Y, ⟨HX.out, HY.out⟩, rfl⟩, ?_, ?_⟩
      · exact (by repeat (first | with_reducible exact HC2.out | (with_reducible refine Cur.more ?_ _) | (with_reducible refine Cur.drew ?_) | (with_reducible refine Cur.far ?_ (by omega) _)))
      · repeat (first | with_reducible exact Kp.refl _ _ | (with_reducible refine Kp.trans ?_ HK2.out) | (with_reducible refine Kp.trans ?_ HK1.out) | (with_reducible refine Kp.more ?_ (by omega) _) | (with_reducible refine Kp.setNew ?_ (by omega) (by omega) _))

theorem bvW {x : Int} (h : I64 x) : (BitVec.ofInt 64 x).toInt = x := by
  unfold I64 at h
  rw [BitVec.toInt_ofInt, Int.bmod_def]
  omega
theorem bvI (x : BitVec 64) : I64 x.toInt := by
  have h := x.isLt
  unfold I64
  rw [BitVec.toInt_eq_toNat_cond]
  split <;> omega

end Go.Proofs.YtofnnpjadehgmaaDoor
