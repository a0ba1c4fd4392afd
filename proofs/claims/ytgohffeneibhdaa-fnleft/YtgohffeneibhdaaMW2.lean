/-
  The draws of addresses and prefixes: what comes is of words of 64 bits; the cursor lies on; nothing else turns.
-/
import Derived.Test.YtgohffeneibhdaaMW1
import Derived.Test.YtgohffeneibhdaaBSAbov
import Derived.Deep.DeepCutAuto
namespace Go.Proofs.Ytgohffeneibhdaa
open Go.RowKit

set_option maxHeartbeats 1000000 in
theorem l1Odd_any (c : Nat) (a : Option Addr) (len cap : Nat) (w : World) (hC : Cur w c a len cap) :
    Calls Try.prog 80 #[.pointer (some ⟨c, 0, none⟩)] w fun e w' => (∃ x : Int, I64 x ∧ e = .returned (.int .i64 x)) ∧ Cur w' c a len cap ∧ Kp c w w' := by
  have HC : Hid (Cur w c a len cap) := hC
  have hlt := hC.lt
  clear hC
  go_enter Try.func80, Try.ntmps80
  go_wp2_with fail
  refine (l1Int_any I64 c a len cap (w.heap.size) 14 _ (by repeat (first | with_reducible exact HC.out | (with_reducible refine Cur.more ?_ _) | (with_reducible refine Cur.drew ?_) | (with_reducible refine Cur.far ?_ (by omega) _))) (by omega) (by omega) (by first | omega | (simp; done) | (simp; omega)) (by omega) (fun j hj => match j, hj with | 0, _ => ⟨(-1), by unfold I64; omega, by simp [go_sem]⟩ | 1, _ => ⟨0, by unfold I64; omega, by simp [go_sem]⟩ | 2, _ => ⟨1, by unfold I64; omega, by simp [go_sem]⟩ | 3, _ => ⟨2, by unfold I64; omega, by simp [go_sem]⟩ | 4, _ => ⟨255, by unfold I64; omega, by simp [go_sem]⟩ | 5, _ => ⟨256, by unfold I64; omega, by simp [go_sem]⟩ | 6, _ => ⟨65535, by unfold I64; omega, by simp [go_sem]⟩ | 7, _ => ⟨2147483647, by unfold I64; omega, by simp [go_sem]⟩ | 8, _ => ⟨2147483648, by unfold I64; omega, by simp [go_sem]⟩ | 9, _ => ⟨4294967295, by unfold I64; omega, by simp [go_sem]⟩ | 10, _ => ⟨4294967296, by unfold I64; omega, by simp [go_sem]⟩ | 11, _ => ⟨(-2147483648), by unfold I64; omega, by simp [go_sem]⟩ | 12, _ => ⟨9223372036854775807, by unfold I64; omega, by simp [go_sem]⟩ | 13, _ => ⟨(-9223372036854775808), by unfold I64; omega, by simp [go_sem]⟩ | (j + 14), h => absurd h (by omega))).mono ?_
  rintro e w1 ⟨⟨x1, x1b, rfl⟩, hC1, hK1⟩
  have HC1 : Hid (Cur w1 c a len cap) := hC1
  have HK1 : Hid (Kp c _ w1) := hK1
  have hz1 := hK1.big
  try simp at hz1
  clear hC1 hK1
  go_wp2_with fail
  go_ret
  refine ⟨⟨x1, x1b, rfl⟩, HC1.out, ?_⟩
  repeat (first | with_reducible exact Kp.refl _ _ | (with_reducible refine Kp.trans ?_ HK1.out) | (with_reducible refine Kp.more ?_ (by omega) _) | (with_reducible refine Kp.setNew ?_ (by omega) (by omega) _))

set_option maxHeartbeats 1000000 in
theorem l1Draw_any (c : Nat) (a : Option Addr) (len cap : Nat) (w : World) (hC : Cur w c a len cap) :
    Calls Try.prog 55 #[.pointer (some ⟨c, 0, none⟩)] w fun e w' => (∃ (S : Bool) (X Y : Int), (okB S X Y = true ∧ I64 X ∧ I64 Y) ∧ e = .returned (.agg #[.bool S, .int .i64 X, .int .i64 Y])) ∧ Cur w' c a len cap ∧ Kp c w w' := by
  have HC : Hid (Cur w c a len cap) := hC
  have hlt := hC.lt
  clear hC
  go_enter Try.func55, Try.ntmps55
  go_wp2_with fail
  refine (l1Once_any c a len cap 2 _ (by repeat (first | with_reducible exact HC.out | (with_reducible refine Cur.more ?_ _) | (with_reducible refine Cur.drew ?_) | (with_reducible refine Cur.far ?_ (by omega) _)))).mono ?_
  rintro e w1 ⟨⟨B1, rfl⟩, hC1, hK1⟩
  have HC1 : Hid (Cur w1 c a len cap) := hC1
  have HK1 : Hid (Kp c _ w1) := hK1
  have hz1 := hK1.big
  try simp at hz1
  clear hC1 hK1
  have d10 := fun o => HK1.out.cel (w.heap.size) o (by first | omega | (simp; done) | (simp; omega)) (by omega)
  have g10 := fun o => HK1.out.frz (w.heap.size) o (by first | omega | (simp; done) | (simp; omega)) (by omega)
  have l10 : w.heap.size < w1.heap.size := by omega
  cases B1
  · go_wp2_with fail
    refine (l1Odd_any c a len cap _ (by repeat (first | with_reducible exact HC1.out | (with_reducible refine Cur.more ?_ _) | (with_reducible refine Cur.drew ?_) | (with_reducible refine Cur.far ?_ (by omega) _)))).mono ?_
    rintro e w2 ⟨⟨x2, x2b, rfl⟩, hC2, hK2⟩
    have HC2 : Hid (Cur w2 c a len cap) := hC2
    have HK2 : Hid (Kp c _ w2) := hK2
    have hz2 := hK2.big
    try simp at hz2
    clear hC2 hK2
    have d20 := fun o => HK2.out.cel (w.heap.size) o (by first | omega | (simp; done) | (simp; omega)) (by omega)
    have g20 := fun o => HK2.out.frz (w.heap.size) o (by first | omega | (simp; done) | (simp; omega)) (by omega)
    have l20 : w.heap.size < w2.heap.size := by omega
    have x2c : -9223372036854775808 ≤ x2 ∧ x2 ≤ 9223372036854775807 := x2b
    clear x2b
    go_wp2_with fail
    refine (l1Int_any I64 c a len cap (w2.heap.size) 7 _ (by repeat (first | with_reducible exact HC2.out | (with_reducible refine Cur.more ?_ _) | (with_reducible refine Cur.drew ?_) | (with_reducible refine Cur.far ?_ (by omega) _))) (by omega) (by omega) (by first | omega | (simp; done) | (simp; omega)) (by omega) (fun j hj => match j, hj with | 0, _ => ⟨0, by unfold I64; omega, by simp [go_sem]⟩ | 1, _ => ⟨2306139568115548160, by unfold I64; omega, by simp [go_sem]⟩ | 2, _ => ⟨(-108086391056891904), by unfold I64; omega, by simp [go_sem]⟩ | 3, _ => ⟨(-1), by unfold I64; omega, by simp [go_sem]⟩ | 4, _ => ⟨1, by unfold I64; omega, by simp [go_sem]⟩ | 5, _ => ⟨65536, by unfold I64; omega, by simp [go_sem]⟩ | 6, _ => ⟨x2, by unfold I64; omega, by simp [go_sem]⟩ | (j + 7), h => absurd h (by omega))).mono ?_
    rintro e w3 ⟨⟨x3, x3b, rfl⟩, hC3, hK3⟩
    have HC3 : Hid (Cur w3 c a len cap) := hC3
    have HK3 : Hid (Kp c _ w3) := hK3
    have hz3 := hK3.big
    try simp at hz3
    clear hC3 hK3
    have d30 := fun o => HK3.out.cel (w.heap.size) o (by first | omega | (simp; done) | (simp; omega)) (by omega)
    have g30 := fun o => HK3.out.frz (w.heap.size) o (by first | omega | (simp; done) | (simp; omega)) (by omega)
    have l30 : w.heap.size < w3.heap.size := by omega
    have x3c : -9223372036854775808 ≤ x3 ∧ x3 ≤ 9223372036854775807 := x3b
    clear x3b
    go_wp2_with fail
    refine (l1Below_any c a len cap 70000 _ (by repeat (first | with_reducible exact HC3.out | (with_reducible refine Cur.more ?_ _) | (with_reducible refine Cur.drew ?_) | (with_reducible refine Cur.far ?_ (by omega) _)))).mono ?_
    rintro e w4 ⟨⟨x4, x40, x49, rfl⟩, hC4, hK4⟩
    have HC4 : Hid (Cur w4 c a len cap) := hC4
    have HK4 : Hid (Kp c _ w4) := hK4
    have hz4 := hK4.big
    try simp at hz4
    clear hC4 hK4
    have d40 := fun o => HK4.out.cel (w.heap.size) o (by first | omega | (simp; done) | (simp; omega)) (by omega)
    have g40 := fun o => HK4.out.frz (w.heap.size) o (by first | omega | (simp; done) | (simp; omega)) (by omega)
    have l40 : w.heap.size < w4.heap.size := by omega
    have x48 := x49 (by omega)
    clear x49
    go_wp2_with fail
    refine (l1Odd_any c a len cap _ (by repeat (first | with_reducible exact HC4.out | (with_reducible refine Cur.more ?_ _) | (with_reducible refine Cur.drew ?_) | (with_reducible refine Cur.far ?_ (by omega) _)))).mono ?_
    rintro e w5 ⟨⟨x5, x5b, rfl⟩, hC5, hK5⟩
    have HC5 : Hid (Cur w5 c a len cap) := hC5
    have HK5 : Hid (Kp c _ w5) := hK5
    have hz5 := hK5.big
    try simp at hz5
    clear hC5 hK5
    have d50 := fun o => HK5.out.cel (w.heap.size) o (by first | omega | (simp; done) | (simp; omega)) (by omega)
    have g50 := fun o => HK5.out.frz (w.heap.size) o (by first | omega | (simp; done) | (simp; omega)) (by omega)
    have l50 : w.heap.size < w5.heap.size := by omega
    have x5c : -9223372036854775808 ≤ x5 ∧ x5 ≤ 9223372036854775807 := x5b
    clear x5b
    go_wp2_with fail
    refine (l1Int_any I64 c a len cap (w5.heap.size) 7 _ (by repeat (first | with_reducible exact HC5.out | (with_reducible refine Cur.more ?_ _) | (with_reducible refine Cur.drew ?_) | (with_reducible refine Cur.far ?_ (by omega) _))) (by omega) (by omega) (by first | omega | (simp; done) | (simp; omega)) (by omega) (fun j hj => match j, hj with | 0, _ => ⟨0, by unfold I64; omega, by simp [go_sem]⟩ | 1, _ => ⟨1, by unfold I64; omega, by simp [go_sem]⟩ | 2, _ => ⟨(-1), by unfold I64; omega, by simp [go_sem]⟩ | 3, _ => ⟨65536, by unfold I64; omega, by simp [go_sem]⟩ | 4, _ => ⟨4294967296, by unfold I64; omega, by simp [go_sem]⟩ | 5, _ => ⟨x4, by unfold I64; omega, by simp [go_sem]⟩ | 6, _ => ⟨x5, by unfold I64; omega, by simp [go_sem]⟩ | (j + 7), h => absurd h (by omega))).mono ?_
    rintro e w6 ⟨⟨x6, x6b, rfl⟩, hC6, hK6⟩
    have HC6 : Hid (Cur w6 c a len cap) := hC6
    have HK6 : Hid (Kp c _ w6) := hK6
    have hz6 := hK6.big
    try simp at hz6
    clear hC6 hK6
    have d60 := fun o => HK6.out.cel (w.heap.size) o (by first | omega | (simp; done) | (simp; omega)) (by omega)
    have g60 := fun o => HK6.out.frz (w.heap.size) o (by first | omega | (simp; done) | (simp; omega)) (by omega)
    have l60 : w.heap.size < w6.heap.size := by omega
    have HX : Hid (I64 x6) := x6b
    clear x6b
    go_wp2_with fail
    refine bodyPost_ret (v := .agg #[.bool true, .int .i64 x3, .int .i64 x6]) (by simp [results, Try.results55, go_sem, d60, d50, d40, d30, d20, d10, l20, l50, l60]) rfl ⟨⟨true, x3, x6, ⟨okB_t _ _, x3c, HX.out⟩, rfl⟩, ?_, ?_⟩
    · exact (by repeat (first | with_reducible exact HC6.out | (with_reducible refine Cur.more ?_ _) | (with_reducible refine Cur.drew ?_) | (with_reducible refine Cur.far ?_ (by omega) _)))
    · repeat (first | with_reducible exact Kp.refl _ _ | (with_reducible refine Kp.trans ?_ HK6.out) | (with_reducible refine Kp.trans ?_ HK5.out) | (with_reducible refine Kp.trans ?_ HK4.out) | (with_reducible refine Kp.trans ?_ HK3.out) | (with_reducible refine Kp.trans ?_ HK2.out) | (with_reducible refine Kp.trans ?_ HK1.out) | (with_reducible refine Kp.more ?_ (by omega) _) | (with_reducible refine Kp.setNew ?_ (by omega) (by omega) _))
  · go_wp2_with fail
    refine (l1Below_any c a len cap 300 _ (by repeat (first | with_reducible exact HC1.out | (with_reducible refine Cur.more ?_ _) | (with_reducible refine Cur.drew ?_) | (with_reducible refine Cur.far ?_ (by omega) _)))).mono ?_
    rintro e w2 ⟨⟨x2, x20, x29, rfl⟩, hC2, hK2⟩
    have HC2 : Hid (Cur w2 c a len cap) := hC2
    have HK2 : Hid (Kp c _ w2) := hK2
    have hz2 := hK2.big
    try simp at hz2
    clear hC2 hK2
    have d20 := fun o => HK2.out.cel (w.heap.size) o (by first | omega | (simp; done) | (simp; omega)) (by omega)
    have g20 := fun o => HK2.out.frz (w.heap.size) o (by first | omega | (simp; done) | (simp; omega)) (by omega)
    have l20 : w.heap.size < w2.heap.size := by omega
    have x28 := x29 (by omega)
    clear x29
    go_wp2_with fail
    refine (l1Below_any c a len cap 65536 _ (by repeat (first | with_reducible exact HC2.out | (with_reducible refine Cur.more ?_ _) | (with_reducible refine Cur.drew ?_) | (with_reducible refine Cur.far ?_ (by omega) _)))).mono ?_
    rintro e w3 ⟨⟨x3, x30, x39, rfl⟩, hC3, hK3⟩
    have HC3 : Hid (Cur w3 c a len cap) := hC3
    have HK3 : Hid (Kp c _ w3) := hK3
    have hz3 := hK3.big
    try simp at hz3
    clear hC3 hK3
    have d30 := fun o => HK3.out.cel (w.heap.size) o (by first | omega | (simp; done) | (simp; omega)) (by omega)
    have g30 := fun o => HK3.out.frz (w.heap.size) o (by first | omega | (simp; done) | (simp; omega)) (by omega)
    have l30 : w.heap.size < w3.heap.size := by omega
    have x38 := x39 (by omega)
    clear x39
    go_wp2_with fail
    refine (l1Below_any c a len cap 20 _ (by repeat (first | with_reducible exact HC3.out | (with_reducible refine Cur.more ?_ _) | (with_reducible refine Cur.drew ?_) | (with_reducible refine Cur.far ?_ (by omega) _)))).mono ?_
    rintro e w4 ⟨⟨x4, x40, x49, rfl⟩, hC4, hK4⟩
    have HC4 : Hid (Cur w4 c a len cap) := hC4
    have HK4 : Hid (Kp c _ w4) := hK4
    have hz4 := hK4.big
    try simp at hz4
    clear hC4 hK4
    have d40 := fun o => HK4.out.cel (w.heap.size) o (by first | omega | (simp; done) | (simp; omega)) (by omega)
    have g40 := fun o => HK4.out.frz (w.heap.size) o (by first | omega | (simp; done) | (simp; omega)) (by omega)
    have l40 : w.heap.size < w4.heap.size := by omega
    have x48 := x49 (by omega)
    clear x49
    go_wp2_with fail
    refine (l1Int_any (fun z => 0 ≤ z ∧ z ≤ 4294967295) c a len cap (w4.heap.size) 7 _ (by repeat (first | with_reducible exact HC4.out | (with_reducible refine Cur.more ?_ _) | (with_reducible refine Cur.drew ?_) | (with_reducible refine Cur.far ?_ (by omega) _))) (by omega) (by omega) (by first | omega | (simp; done) | (simp; omega)) (by omega) (fun j hj => match j, hj with | 0, _ => ⟨0, by omega, by simp [go_sem]⟩ | 1, _ => ⟨1, by omega, by simp [go_sem]⟩ | 2, _ => ⟨4294967295, by omega, by simp [go_sem]⟩ | 3, _ => ⟨167772160, by omega, by simp [go_sem]⟩ | 4, _ => ⟨(167772160 + x2), by omega, by simp [go_sem]⟩ | 5, _ => ⟨(3232235520 + x3), by omega, by simp [go_sem]⟩ | 6, _ => ⟨(4294967295 - x4), by omega, by simp [go_sem]⟩ | (j + 7), h => absurd h (by omega))).mono ?_
    rintro e w5 ⟨⟨x5, x5b, rfl⟩, hC5, hK5⟩
    have HC5 : Hid (Cur w5 c a len cap) := hC5
    have HK5 : Hid (Kp c _ w5) := hK5
    have hz5 := hK5.big
    try simp at hz5
    clear hC5 hK5
    have d50 := fun o => HK5.out.cel (w.heap.size) o (by first | omega | (simp; done) | (simp; omega)) (by omega)
    have g50 := fun o => HK5.out.frz (w.heap.size) o (by first | omega | (simp; done) | (simp; omega)) (by omega)
    have l50 : w.heap.size < w5.heap.size := by omega
    have x5c : 0 ≤ x5 ∧ x5 ≤ 4294967295 := x5b
    clear x5b
    go_wp2_with fail
    refine bodyPost_ret (v := .agg #[.bool false, .int .i64 0, .int .i64 x5]) (by simp [results, Try.results55, go_sem, d50, d40, d30, d20, d10, l40]) rfl ⟨⟨false, 0, x5, ⟨okB_yes x5 x5c.1 x5c.2, by unfold I64; omega, by unfold I64; omega⟩, rfl⟩, ?_, ?_⟩
    · exact (by repeat (first | with_reducible exact HC5.out | (with_reducible refine Cur.more ?_ _) | (with_reducible refine Cur.drew ?_) | (with_reducible refine Cur.far ?_ (by omega) _)))
    · repeat (first | with_reducible exact Kp.refl _ _ | (with_reducible refine Kp.trans ?_ HK5.out) | (with_reducible refine Kp.trans ?_ HK4.out) | (with_reducible refine Kp.trans ?_ HK3.out) | (with_reducible refine Kp.trans ?_ HK2.out) | (with_reducible refine Kp.trans ?_ HK1.out) | (with_reducible refine Kp.more ?_ (by omega) _) | (with_reducible refine Kp.setNew ?_ (by omega) (by omega) _))

end Go.Proofs.Ytgohffeneibhdaa

namespace Go.Proofs.Ytgohffeneibhdaa
open Go.RowKit

set_option maxHeartbeats 1000000 in
theorem l1DrawAny_any (c : Nat) (a : Option Addr) (len cap : Nat) (w : World) (hC : Cur w c a len cap) :
    Calls Try.prog 73 #[.pointer (some ⟨c, 0, none⟩)] w fun e w' => (∃ (S : Bool) (X Y : Int), (I64 X ∧ I64 Y) ∧ e = .returned (.agg #[.bool S, .int .i64 X, .int .i64 Y])) ∧ Cur w' c a len cap ∧ Kp c w w' := by
  have HC : Hid (Cur w c a len cap) := hC
  have hlt := hC.lt
  clear hC
  go_enter Try.func73, Try.ntmps73
  go_wp2_with fail
  refine (l1Draw_any c a len cap _ (by repeat (first | with_reducible exact HC.out | (with_reducible refine Cur.more ?_ _) | (with_reducible refine Cur.drew ?_) | (with_reducible refine Cur.far ?_ (by omega) _)))).mono ?_
  rintro e w1 ⟨⟨S, X, Y, ⟨_, bX, bY⟩, rfl⟩, hC1, hK1⟩
  have HC1 : Hid (Cur w1 c a len cap) := hC1
  have HK1 : Hid (Kp c _ w1) := hK1
  have hz1 := hK1.big
  try simp at hz1
  clear hC1 hK1
  have d10 := fun o => HK1.out.cel (w.heap.size) o (by first | omega | (simp; done) | (simp; omega)) (by omega)
  have g10 := fun o => HK1.out.frz (w.heap.size) o (by first | omega | (simp; done) | (simp; omega)) (by omega)
  have l10 : w.heap.size < w1.heap.size := by omega
  have HX : Hid (I64 X) := bX
  have HY : Hid (I64 Y) := bY
  clear bX bY
  go_wp2_with fail
  refine (l1Below_any c a len cap 16 _ (by repeat (first | with_reducible exact HC1.out | (with_reducible refine Cur.more ?_ _) | (with_reducible refine Cur.drew ?_) | (with_reducible refine Cur.far ?_ (by omega) _)))).mono ?_
  rintro e w2 ⟨⟨x2, x20, x29, rfl⟩, hC2, hK2⟩
  have HC2 : Hid (Cur w2 c a len cap) := hC2
  have HK2 : Hid (Kp c _ w2) := hK2
  have hz2 := hK2.big
  try simp at hz2
  clear hC2 hK2
  have d20 := fun o => HK2.out.cel (w.heap.size) o (by first | omega | (simp; done) | (simp; omega)) (by omega)
  have g20 := fun o => HK2.out.frz (w.heap.size) o (by first | omega | (simp; done) | (simp; omega)) (by omega)
  have l20 : w.heap.size < w2.heap.size := by omega
  have d21 := fun o => HK2.out.cel (w1.heap.size) o (by first | omega | (simp; done) | (simp; omega)) (by omega)
  have g21 := fun o => HK2.out.frz (w1.heap.size) o (by first | omega | (simp; done) | (simp; omega)) (by omega)
  have l21 : w1.heap.size < w2.heap.size := by omega
  have x28 := x29 (by omega)
  clear x29
  by_cases z0 : x2 = 0
  · subst z0
    go_wp2_with fail
    refine bodyPost_ret (v := .agg #[.bool (!S), .int .i64 X, .int .i64 Y]) (by simp [results, Try.results73, go_sem, d20, d10, l10]) rfl ⟨⟨!S, X, Y, ⟨HX.out, HY.out⟩, rfl⟩, ?_, ?_⟩
    · exact (by repeat (first | with_reducible exact HC2.out | (with_reducible refine Cur.more ?_ _) | (with_reducible refine Cur.drew ?_) | (with_reducible refine Cur.far ?_ (by omega) _)))
    · repeat (first | with_reducible exact Kp.refl _ _ | (with_reducible refine Kp.trans ?_ HK2.out) | (with_reducible refine Kp.trans ?_ HK1.out) | (with_reducible refine Kp.more ?_ (by omega) _) | (with_reducible refine Kp.setNew ?_ (by omega) (by omega) _))
  · have y0 : (x2 == 0) = false := by rw [beq_eq_false_iff_ne]; exact z0
    by_cases z1 : x2 = 1
    · subst z1
      go_wp2_with fail
      refine (l1Odd_any c a len cap _ (by repeat (first | with_reducible exact HC2.out | (with_reducible refine Cur.more ?_ _) | (with_reducible refine Cur.drew ?_) | (with_reducible refine Cur.far ?_ (by omega) _)))).mono ?_
      rintro e w3 ⟨⟨x3, x3b, rfl⟩, hC3, hK3⟩
      have HC3 : Hid (Cur w3 c a len cap) := hC3
      have HK3 : Hid (Kp c _ w3) := hK3
      have hz3 := hK3.big
      try simp at hz3
      clear hC3 hK3
      have d30 := fun o => HK3.out.cel (w.heap.size) o (by first | omega | (simp; done) | (simp; omega)) (by omega)
      have g30 := fun o => HK3.out.frz (w.heap.size) o (by first | omega | (simp; done) | (simp; omega)) (by omega)
      have l30 : w.heap.size < w3.heap.size := by omega
      have d31 := fun o => HK3.out.cel (w1.heap.size) o (by first | omega | (simp; done) | (simp; omega)) (by omega)
      have g31 := fun o => HK3.out.frz (w1.heap.size) o (by first | omega | (simp; done) | (simp; omega)) (by omega)
      have l31 : w1.heap.size < w3.heap.size := by omega
      have x3c : -9223372036854775808 ≤ x3 ∧ x3 ≤ 9223372036854775807 := x3b
      clear x3b
      have HO : Hid (I64 x3) := x3c
      clear x3c
      go_wp2_with fail
      refine bodyPost_ret (v := .agg #[.bool S, .int .i64 X, .int .i64 x3]) (by simp [results, Try.results73, go_sem, d30, d20, d10, l10]) rfl ⟨⟨S, X, x3, ⟨HX.out, HO.out⟩, rfl⟩, ?_, ?_⟩
      · exact (by repeat (first | with_reducible exact HC3.out | (with_reducible refine Cur.more ?_ _) | (with_reducible refine Cur.drew ?_) | (with_reducible refine Cur.far ?_ (by omega) _)))
      · repeat (first | with_reducible exact Kp.refl _ _ | (with_reducible refine Kp.trans ?_ HK3.out) | (with_reducible refine Kp.trans ?_ HK2.out) | (with_reducible refine Kp.trans ?_ HK1.out) | (with_reducible refine Kp.more ?_ (by omega) _) | (with_reducible refine Kp.setNew ?_ (by omega) (by omega) _))
    · have y1 : (x2 == 1) = false := by rw [beq_eq_false_iff_ne]; exact z1
      go_wp2_with fail
      refine bodyPost_ret (v := .agg #[.bool S, .int .i64 X, .int .i64 Y]) (by simp [results, Try.results73, go_sem, d20, d10, l10]) rfl ⟨⟨S, X, Y, ⟨HX.out, HY.out⟩, rfl⟩, ?_, ?_⟩
      · exact (by repeat (first | with_reducible exact HC2.out | (with_reducible refine Cur.more ?_ _) | (with_reducible refine Cur.drew ?_) | (with_reducible refine Cur.far ?_ (by omega) _)))
      · repeat (first | with_reducible exact Kp.refl _ _ | (with_reducible refine Kp.trans ?_ HK2.out) | (with_reducible refine Kp.trans ?_ HK1.out) | (with_reducible refine Kp.more ?_ (by omega) _) | (with_reducible refine Kp.setNew ?_ (by omega) (by omega) _))

theorem bvW {x : Int} (h : I64 x) : (BitVec.ofInt 64 x).toInt = x := by
  unfold I64 at h
  rw [BitVec.toInt_ofInt, Int.bmod_def]
  omega
theorem bvI (x : BitVec 64) : I64 x.toInt := by
  have h := x.isLt
  unfold I64
  rw [BitVec.toInt_eq_toNat_cond]
  split <;> omega

end Go.Proofs.Ytgohffeneibhdaa

namespace Go.Proofs.Ytgohffeneibhdaa
open Go.RowKit

/-- The specification's PrefixOf of a right address and bits of its width: some prefix of words of 64 bits, and true. -/
theorem sPrefixOf_some (s : Bool) (X Y b : Int) (hX : I64 X) (hY : I64 Y) (hok : okB s X Y = true) (hb : 0 ≤ b) (hb1 : b ≤ (wd s : Int)) :
    ∃ (U V : Int), (I64 U ∧ I64 V) ∧ ∀ w : World, Calls Try.prog 57 #[.agg #[.bool s, .int .i64 X, .int .i64 Y], .int .i64 b] w fun e w' => e = .returned (.tuple #[.agg #[.bool s, .int .i64 U, .int .i64 V, .int .i64 b], .bool true]) ∧ Below w.heap.size w w' := by
  have h := sPrefixOf_yes s (BitVec.ofInt 64 X) (BitVec.ofInt 64 Y) b ((wd s : Int) - b).toNat (by rw [bvW hX, bvW hY]; exact hok) hb (by omega)
  rw [bvW hX, bvW hY] at h
  exact ⟨_, _, ⟨bvI _, bvI _⟩, h⟩

set_option maxHeartbeats 1000000 in
theorem l2Draw_any (c : Nat) (a : Option Addr) (len cap : Nat) (w : World) (hC : Cur w c a len cap) :
    Calls Try.prog 24 #[.pointer (some ⟨c, 0, none⟩)] w fun e w' => (∃ (S : Bool) (X Y Z : Int), (I64 X ∧ I64 Y ∧ I64 Z) ∧ e = .returned (.agg #[.bool S, .int .i64 X, .int .i64 Y, .int .i64 Z])) ∧ Cur w' c a len cap ∧ Kp c w w' := by
  have HC : Hid (Cur w c a len cap) := hC
  have hlt := hC.lt
  clear hC
  go_enter Try.func24, Try.ntmps24
  go_wp2_with fail
  refine (l1Draw_any c a len cap _ (by repeat (first | with_reducible exact HC.out | (with_reducible refine Cur.more ?_ _) | (with_reducible refine Cur.drew ?_) | (with_reducible refine Cur.far ?_ (by omega) _)))).mono ?_
  rintro e w1 ⟨⟨S, X, Y, ⟨hok, bX, bY⟩, rfl⟩, hC1, hK1⟩
  have HC1 : Hid (Cur w1 c a len cap) := hC1
  have HK1 : Hid (Kp c _ w1) := hK1
  have hz1 := hK1.big
  try simp at hz1
  clear hC1 hK1
  have d10 := fun o => HK1.out.cel (w.heap.size) o (by first | omega | (simp; done) | (simp; omega)) (by omega)
  have g10 := fun o => HK1.out.frz (w.heap.size) o (by first | omega | (simp; done) | (simp; omega)) (by omega)
  have l10 : w.heap.size < w1.heap.size := by omega
  have HX : Hid (I64 X ∧ I64 Y ∧ okB S X Y = true) := ⟨bX, bY, hok⟩
  clear bX bY hok
  go_wp2_with fail
  refine (l1Int_any (fun z => 0 ≤ z ∧ z ≤ 32) c a len cap (w1.heap.size + 1) 9 _ (by repeat (first | with_reducible exact HC1.out | (with_reducible refine Cur.more ?_ _) | (with_reducible refine Cur.drew ?_) | (with_reducible refine Cur.far ?_ (by omega) _))) (by omega) (by omega) (by first | omega | (simp; done) | (simp; omega)) (by omega) (fun j hj => match j, hj with | 0, _ => ⟨24, by omega, by simp [go_sem]⟩ | 1, _ => ⟨26, by omega, by simp [go_sem]⟩ | 2, _ => ⟨28, by omega, by simp [go_sem]⟩ | 3, _ => ⟨30, by omega, by simp [go_sem]⟩ | 4, _ => ⟨32, by omega, by simp [go_sem]⟩ | 5, _ => ⟨8, by omega, by simp [go_sem]⟩ | 6, _ => ⟨16, by omega, by simp [go_sem]⟩ | 7, _ => ⟨0, by omega, by simp [go_sem]⟩ | 8, _ => ⟨31, by omega, by simp [go_sem]⟩ | (j + 9), h => absurd h (by omega))).mono ?_
  rintro e w2 ⟨⟨x2, x2b, rfl⟩, hC2, hK2⟩
  have HC2 : Hid (Cur w2 c a len cap) := hC2
  have HK2 : Hid (Kp c _ w2) := hK2
  have hz2 := hK2.big
  try simp at hz2
  clear hC2 hK2
  have d20 := fun o => HK2.out.cel (w.heap.size) o (by first | omega | (simp; done) | (simp; omega)) (by omega)
  have g20 := fun o => HK2.out.frz (w.heap.size) o (by first | omega | (simp; done) | (simp; omega)) (by omega)
  have l20 : w.heap.size < w2.heap.size := by omega
  have d21 := fun o => HK2.out.cel (w1.heap.size) o (by first | omega | (simp; done) | (simp; omega)) (by omega)
  have g21 := fun o => HK2.out.frz (w1.heap.size) o (by first | omega | (simp; done) | (simp; omega)) (by omega)
  have l21 : w1.heap.size < w2.heap.size := by omega
  have x2c : 0 ≤ x2 ∧ x2 ≤ 32 := x2b
  have q1 : w.heap.size < w1.heap.size + 1 := by omega
  clear x2b
  cases S
  · obtain ⟨U, V, bUV, hF⟩ := sPrefixOf_some _ X Y x2 HX.out.1 HX.out.2.1 HX.out.2.2 (by omega) (by show x2 ≤ (32 : Int); omega)
    have HF : Hid (∀ w : World, _) := hF
    have HUV : Hid (I64 U ∧ I64 V) := bUV
    clear hF bUV
    go_wp2_with fail
    refine (HF.out _).mono ?_
    rintro e w3 ⟨rfl, hb3⟩
    have HC3 : Hid (Cur w3 c a len cap) := Cur.grew (by repeat (first | with_reducible exact HC2.out | (with_reducible refine Cur.more ?_ _) | (with_reducible refine Cur.drew ?_) | (with_reducible refine Cur.far ?_ (by omega) _))) hb3
    have HK3 : Hid (Kp c _ w3) := Kp.of_below (by first | omega | (simp; omega)) hb3
    have hz3 := hb3.size
    try simp at hz3
    clear hb3
    have d30 := fun o => HK3.out.cel (w.heap.size) o (by first | omega | (simp; done) | (simp; omega)) (by omega)
    have g30 := fun o => HK3.out.frz (w.heap.size) o (by first | omega | (simp; done) | (simp; omega)) (by omega)
    have l30 : w.heap.size < w3.heap.size := by omega
    go_wp2_with fail
    refine bodyPost_ret (v := .agg #[.bool false, .int .i64 U, .int .i64 V, .int .i64 x2]) (by simp [results, Try.results24, go_sem, d30, d20, d10, l10, q1, l30]) rfl ⟨⟨false, U, V, x2, ⟨HUV.out.1, HUV.out.2, by unfold I64; omega⟩, rfl⟩, ?_, ?_⟩
    · exact (by repeat (first | with_reducible exact HC3.out | (with_reducible refine Cur.more ?_ _) | (with_reducible refine Cur.drew ?_) | (with_reducible refine Cur.far ?_ (by omega) _)))
    · repeat (first | with_reducible exact Kp.refl _ _ | (with_reducible refine Kp.trans ?_ HK3.out) | (with_reducible refine Kp.trans ?_ HK2.out) | (with_reducible refine Kp.trans ?_ HK1.out) | (with_reducible refine Kp.more ?_ (by omega) _) | (with_reducible refine Kp.setNew ?_ (by omega) (by omega) _))
  · go_wp2_with fail
    refine (l1Int_any (fun z => 0 ≤ z ∧ z ≤ 128) c a len cap (w2.heap.size) 11 _ (by repeat (first | with_reducible exact HC2.out | (with_reducible refine Cur.more ?_ _) | (with_reducible refine Cur.drew ?_) | (with_reducible refine Cur.far ?_ (by omega) _))) (by omega) (by omega) (by first | omega | (simp; done) | (simp; omega)) (by omega) (fun j hj => match j, hj with | 0, _ => ⟨64, by omega, by simp [go_sem]⟩ | 1, _ => ⟨48, by omega, by simp [go_sem]⟩ | 2, _ => ⟨112, by omega, by simp [go_sem]⟩ | 3, _ => ⟨120, by omega, by simp [go_sem]⟩ | 4, _ => ⟨126, by omega, by simp [go_sem]⟩ | 5, _ => ⟨127, by omega, by simp [go_sem]⟩ | 6, _ => ⟨128, by omega, by simp [go_sem]⟩ | 7, _ => ⟨0, by omega, by simp [go_sem]⟩ | 8, _ => ⟨63, by omega, by simp [go_sem]⟩ | 9, _ => ⟨65, by omega, by simp [go_sem]⟩ | 10, _ => ⟨1, by omega, by simp [go_sem]⟩ | (j + 11), h => absurd h (by omega))).mono ?_
    rintro e w4 ⟨⟨x4, x4b, rfl⟩, hC4, hK4⟩
    have HC4 : Hid (Cur w4 c a len cap) := hC4
    have HK4 : Hid (Kp c _ w4) := hK4
    have hz4 := hK4.big
    try simp at hz4
    clear hC4 hK4
    have d40 := fun o => HK4.out.cel (w.heap.size) o (by first | omega | (simp; done) | (simp; omega)) (by omega)
    have g40 := fun o => HK4.out.frz (w.heap.size) o (by first | omega | (simp; done) | (simp; omega)) (by omega)
    have l40 : w.heap.size < w4.heap.size := by omega
    have d41 := fun o => HK4.out.cel (w1.heap.size) o (by first | omega | (simp; done) | (simp; omega)) (by omega)
    have g41 := fun o => HK4.out.frz (w1.heap.size) o (by first | omega | (simp; done) | (simp; omega)) (by omega)
    have l41 : w1.heap.size < w4.heap.size := by omega
    have x4c : 0 ≤ x4 ∧ x4 ≤ 128 := x4b
    clear x4b
    obtain ⟨U, V, bUV, hF⟩ := sPrefixOf_some _ X Y x4 HX.out.1 HX.out.2.1 HX.out.2.2 (by omega) (by show x4 ≤ (128 : Int); omega)
    have HF : Hid (∀ w : World, _) := hF
    have HUV : Hid (I64 U ∧ I64 V) := bUV
    clear hF bUV
    go_wp2_with fail
    refine (HF.out _).mono ?_
    rintro e w5 ⟨rfl, hb5⟩
    have HC5 : Hid (Cur w5 c a len cap) := Cur.grew (by repeat (first | with_reducible exact HC4.out | (with_reducible refine Cur.more ?_ _) | (with_reducible refine Cur.drew ?_) | (with_reducible refine Cur.far ?_ (by omega) _))) hb5
    have HK5 : Hid (Kp c _ w5) := Kp.of_below (by first | omega | (simp; omega)) hb5
    have hz5 := hb5.size
    try simp at hz5
    clear hb5
    have d50 := fun o => HK5.out.cel (w.heap.size) o (by first | omega | (simp; done) | (simp; omega)) (by omega)
    have g50 := fun o => HK5.out.frz (w.heap.size) o (by first | omega | (simp; done) | (simp; omega)) (by omega)
    have l50 : w.heap.size < w5.heap.size := by omega
    go_wp2_with fail
    refine bodyPost_ret (v := .agg #[.bool true, .int .i64 U, .int .i64 V, .int .i64 x4]) (by simp [results, Try.results24, go_sem, d50, d40, d20, d10, l10, q1, l20, l50]) rfl ⟨⟨true, U, V, x4, ⟨HUV.out.1, HUV.out.2, by unfold I64; omega⟩, rfl⟩, ?_, ?_⟩
    · exact (by repeat (first | with_reducible exact HC5.out | (with_reducible refine Cur.more ?_ _) | (with_reducible refine Cur.drew ?_) | (with_reducible refine Cur.far ?_ (by omega) _)))
    · repeat (first | with_reducible exact Kp.refl _ _ | (with_reducible refine Kp.trans ?_ HK5.out) | (with_reducible refine Kp.trans ?_ HK4.out) | (with_reducible refine Kp.trans ?_ HK2.out) | (with_reducible refine Kp.trans ?_ HK1.out) | (with_reducible refine Kp.more ?_ (by omega) _) | (with_reducible refine Kp.setNew ?_ (by omega) (by omega) _))

end Go.Proofs.Ytgohffeneibhdaa

namespace Go.Proofs.Ytgohffeneibhdaa
open Go.RowKit

set_option maxHeartbeats 4000000 in
theorem l2DrawAny_any (c : Nat) (a : Option Addr) (len cap : Nat) (w : World) (hC : Cur w c a len cap) :
    Calls Try.prog 43 #[.pointer (some ⟨c, 0, none⟩)] w fun e w' => (∃ (S : Bool) (X Y Z : Int), (I64 X ∧ I64 Y ∧ I64 Z) ∧ e = .returned (.agg #[.bool S, .int .i64 X, .int .i64 Y, .int .i64 Z])) ∧ Cur w' c a len cap ∧ Kp c w w' := by
  have HC : Hid (Cur w c a len cap) := hC
  have hlt := hC.lt
  clear hC
  go_enter Try.func43, Try.ntmps43
  go_wp2_with fail
  refine (l2Draw_any c a len cap _ (by repeat (first | (with_reducible refine Cur.far ?_ (by omega) _) | with_reducible exact HC.out | (with_reducible refine Cur.more ?_ _)))).mono ?_
  rintro e w1 ⟨⟨S, X, Y, Z, bb, rfl⟩, hC1, hK1⟩
  have HC1 : Hid (Cur w1 c a len cap) := hC1
  have HK1 : Hid (Kp c _ w1) := hK1
  have hz1 := hK1.big
  try simp at hz1
  clear hC1 hK1
  have d10 := fun o => HK1.out.cel (w.heap.size) o (by first | omega | (simp; done) | (simp; omega)) (by omega)
  have g10 := fun o => HK1.out.frz (w.heap.size) o (by first | omega | (simp; done) | (simp; omega)) (by omega)
  have l10 : w.heap.size < w1.heap.size := by omega
  have HB : Hid (I64 X ∧ I64 Y ∧ I64 Z) := bb
  clear bb
  go_wp2_with fail
  refine (l1Below_any c a len cap 12 _ (by repeat (first | (with_reducible refine Cur.far ?_ (by omega) _) | with_reducible exact HC1.out | (with_reducible refine Cur.more ?_ _)))).mono ?_
  rintro e w2 ⟨⟨x2, x20, x29, rfl⟩, hC2, hK2⟩
  have HC2 : Hid (Cur w2 c a len cap) := hC2
  have HK2 : Hid (Kp c _ w2) := hK2
  have hz2 := hK2.big
  try simp at hz2
  clear hC2 hK2
  have d20 := fun o => HK2.out.cel (w.heap.size) o (by first | omega | (simp; done) | (simp; omega)) (by omega)
  have g20 := fun o => HK2.out.frz (w.heap.size) o (by first | omega | (simp; done) | (simp; omega)) (by omega)
  have l20 : w.heap.size < w2.heap.size := by omega
  have d21 := fun o => HK2.out.cel (w1.heap.size) o (by first | omega | (simp; done) | (simp; omega)) (by omega)
  have g21 := fun o => HK2.out.frz (w1.heap.size) o (by first | omega | (simp; done) | (simp; omega)) (by omega)
  have l21 : w1.heap.size < w2.heap.size := by omega
  have x28 := x29 (by omega)
  clear x29
  have n1 : w1.heap.size ≠ w.heap.size := by omega
  by_cases z0 : x2 = 0
  · subst z0
    go_wp2_with fail
    refine (l1DrawAny_any c a len cap _ (by repeat (first | (with_reducible refine Cur.far ?_ (by omega) _) | with_reducible exact HC2.out | (with_reducible refine Cur.more ?_ _)))).mono ?_
    rintro e w3 ⟨⟨T, U, V, bb, rfl⟩, hC3, hK3⟩
    have HC3 : Hid (Cur w3 c a len cap) := hC3
    have HK3 : Hid (Kp c _ w3) := hK3
    have hz3 := hK3.big
    try simp at hz3
    clear hC3 hK3
    have d30 := fun o => HK3.out.cel (w.heap.size) o (by first | omega | (simp; done) | (simp; omega)) (by omega)
    have g30 := fun o => HK3.out.frz (w.heap.size) o (by first | omega | (simp; done) | (simp; omega)) (by omega)
    have l30 : w.heap.size < w3.heap.size := by omega
    have d31 := fun o => HK3.out.cel (w1.heap.size) o (by first | omega | (simp; done) | (simp; omega)) (by omega)
    have g31 := fun o => HK3.out.frz (w1.heap.size) o (by first | omega | (simp; done) | (simp; omega)) (by omega)
    have l31 : w1.heap.size < w3.heap.size := by omega
    have HU : Hid (I64 U ∧ I64 V) := bb
    clear bb
    have q0 : w3.cell? ⟨w.heap.size, 0, none⟩ = some (.bool false) := by simp [d30, d20, d10, go_sem, l10]
    have f0 : w3.frozen? ⟨w.heap.size, 0, none⟩ = false := by simp [g30, g20, g10, go_sem, l10]
    have q1 : w3.cell? ⟨w.heap.size, 1, none⟩ = some (.int .i64 0) := by simp [d30, d20, d10, go_sem, l10]
    have f1 : w3.frozen? ⟨w.heap.size, 1, none⟩ = false := by simp [g30, g20, g10, go_sem, l10]
    have q2 : w3.cell? ⟨w.heap.size, 2, none⟩ = some (.int .i64 0) := by simp [d30, d20, d10, go_sem, l10]
    have f2 : w3.frozen? ⟨w.heap.size, 2, none⟩ = false := by simp [g30, g20, g10, go_sem, l10]
    have q3 : w3.cell? ⟨w.heap.size, 3, none⟩ = some (.int .i64 0) := by simp [d30, d20, d10, go_sem, l10]
    have f3 : w3.frozen? ⟨w.heap.size, 3, none⟩ = false := by simp [g30, g20, g10, go_sem, l10]
    have p0 : w3.cell? ⟨w1.heap.size, 0, none⟩ = some (.bool S) := by simp [d31, d21, go_sem]
    have h0 : w3.frozen? ⟨w1.heap.size, 0, none⟩ = false := by simp [g31, g21, go_sem]
    have p1 : w3.cell? ⟨w1.heap.size, 1, none⟩ = some (.int .i64 X) := by simp [d31, d21, go_sem]
    have h1 : w3.frozen? ⟨w1.heap.size, 1, none⟩ = false := by simp [g31, g21, go_sem]
    have p2 : w3.cell? ⟨w1.heap.size, 2, none⟩ = some (.int .i64 Y) := by simp [d31, d21, go_sem]
    have h2 : w3.frozen? ⟨w1.heap.size, 2, none⟩ = false := by simp [g31, g21, go_sem]
    have p3 : w3.cell? ⟨w1.heap.size, 3, none⟩ = some (.int .i64 Z) := by simp [d31, d21, go_sem]
    have h3 : w3.frozen? ⟨w1.heap.size, 3, none⟩ = false := by simp [g31, g21, go_sem]
    have n2 : w.heap.size ≠ w1.heap.size := by omega
    clear d10 d20 d21 d30 d31 g10 g20 g21 g30 g31
    go_wp2_with fail
    refine bodyPost_ret (v := .agg #[.bool T, .int .i64 U, .int .i64 V, .int .i64 Z]) (by simp [results, Try.results43, go_sem, q0, q1, q2, q3]) rfl ⟨⟨T, U, V, Z, ⟨HU.out.1, HU.out.2, HB.out.2.2⟩, rfl⟩, ?_, ?_⟩
    · exact (by repeat (first | (with_reducible refine Cur.far ?_ (by omega) _) | with_reducible exact HC3.out | (with_reducible refine Cur.more ?_ _)))
    · repeat (first | (with_reducible refine Kp.setNew ?_ (by omega) (by omega) _) | with_reducible exact Kp.refl _ _ | (with_reducible refine Kp.trans ?_ HK3.out) | (with_reducible refine Kp.trans ?_ HK2.out) | (with_reducible refine Kp.trans ?_ HK1.out) | (with_reducible refine Kp.more ?_ (by omega) _))
  · have y0 : (x2 == 0) = false := by rw [beq_eq_false_iff_ne]; exact z0
    by_cases z1 : x2 = 1
    · subst z1
      go_wp2_with fail
      refine (l1Int_any I64 c a len cap (w2.heap.size) 6 _ (by repeat (first | (with_reducible refine Cur.far ?_ (by omega) _) | with_reducible exact HC2.out | (with_reducible refine Cur.more ?_ _))) (by omega) (by omega) (by first | omega | (simp; done) | (simp; omega)) (by omega) (fun j hj => match j, hj with | 0, _ => ⟨(-1), by unfold I64; omega, by simp [go_sem]⟩ | 1, _ => ⟨0, by unfold I64; omega, by simp [go_sem]⟩ | 2, _ => ⟨32, by unfold I64; omega, by simp [go_sem]⟩ | 3, _ => ⟨33, by unfold I64; omega, by simp [go_sem]⟩ | 4, _ => ⟨128, by unfold I64; omega, by simp [go_sem]⟩ | 5, _ => ⟨129, by unfold I64; omega, by simp [go_sem]⟩ | (j + 6), h => absurd h (by omega))).mono ?_
      rintro e w3 ⟨⟨x3, x3b, rfl⟩, hC3, hK3⟩
      have HC3 : Hid (Cur w3 c a len cap) := hC3
      have HK3 : Hid (Kp c _ w3) := hK3
      have hz3 := hK3.big
      try simp at hz3
      clear hC3 hK3
      have d30 := fun o => HK3.out.cel (w.heap.size) o (by first | omega | (simp; done) | (simp; omega)) (by omega)
      have g30 := fun o => HK3.out.frz (w.heap.size) o (by first | omega | (simp; done) | (simp; omega)) (by omega)
      have l30 : w.heap.size < w3.heap.size := by omega
      have d31 := fun o => HK3.out.cel (w1.heap.size) o (by first | omega | (simp; done) | (simp; omega)) (by omega)
      have g31 := fun o => HK3.out.frz (w1.heap.size) o (by first | omega | (simp; done) | (simp; omega)) (by omega)
      have l31 : w1.heap.size < w3.heap.size := by omega
      have HO : Hid (I64 x3) := x3b
      clear x3b
      go_wp2_with fail
      refine bodyPost_ret (v := .agg #[.bool S, .int .i64 X, .int .i64 Y, .int .i64 x3]) (by simp [results, Try.results43, go_sem, d30, d20, d10, l10, l20]) rfl ⟨⟨S, X, Y, x3, ⟨HB.out.1, HB.out.2.1, HO.out⟩, rfl⟩, ?_, ?_⟩
      · exact (by repeat (first | (with_reducible refine Cur.far ?_ (by omega) _) | with_reducible exact HC3.out | (with_reducible refine Cur.more ?_ _)))
      · repeat (first | (with_reducible refine Kp.setNew ?_ (by omega) (by omega) _) | with_reducible exact Kp.refl _ _ | (with_reducible refine Kp.trans ?_ HK3.out) | (with_reducible refine Kp.trans ?_ HK2.out) | (with_reducible refine Kp.trans ?_ HK1.out) | (with_reducible refine Kp.more ?_ (by omega) _))
    · have y1 : (x2 == 1) = false := by rw [beq_eq_false_iff_ne]; exact z1
      go_wp2_with fail
      refine bodyPost_ret (v := .agg #[.bool S, .int .i64 X, .int .i64 Y, .int .i64 Z]) (by simp [results, Try.results43, go_sem, d20, d10, l10]) rfl ⟨⟨S, X, Y, Z, HB.out, rfl⟩, ?_, ?_⟩
      · exact (by repeat (first | (with_reducible refine Cur.far ?_ (by omega) _) | with_reducible exact HC2.out | (with_reducible refine Cur.more ?_ _)))
      · repeat (first | (with_reducible refine Kp.setNew ?_ (by omega) (by omega) _) | with_reducible exact Kp.refl _ _ | (with_reducible refine Kp.trans ?_ HK2.out) | (with_reducible refine Kp.trans ?_ HK1.out) | (with_reducible refine Kp.more ?_ (by omega) _))

end Go.Proofs.Ytgohffeneibhdaa
