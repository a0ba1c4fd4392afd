/-
  The draws of addresses and prefixes: what comes is of words of 64 bits; the cursor lies on; nothing else turns.
-/
import Derived.Test.YtofnnpjadehgmaaDoorWBelow
namespace Go.Proofs.YtofnnpjadehgmaaDoor
open Go.RowKit

set_option maxHeartbeats 1000000 in
theorem l1Odd_any (c : Nat) (a : Option Addr) (len cap : Nat) (w : World) (hC : Cur w c a len cap) :
    Calls Tryd.prog 47 #[.pointer (some ⟨c, 0, none⟩)] w fun e w' => (∃ x : Int, I64 x ∧ e = .returned (.int .i64 x)) ∧ Cur w' c a len cap ∧ Kp c w w' := by
  have HC : Hid (Cur w c a len cap) := hC
  have hlt := hC.lt
  clear hC
  go_enter Tryd.func47, Tryd.ntmps47
  go_wp2_with fail
  refine (l1Int_any I64 c a len cap (w.heap.size) 14 _ (by repeat (first | with_reducible exact HC.out | (with_reducible refine Cur.more ?_ _) | (with_reducible refine Cur.drew ?_) | (with_reducible refine Cur.far ?_ (by omega) _))) (by omega) (by omega) (by first | omega | (simp; done) | (simp; omega)) (by omega) (fun j hj => match j, hj with | 0, _ => ⟨(-1), by unfold I64; omega, by simp [go_sem]⟩ | 1, _ => ⟨0, by unfold I64; omega, by simp [go_sem]⟩ | 2, _ => ⟨1, by unfold I64; omega, by simp [go_sem]⟩ | 3, _ => ⟨2, by unfold I64; omega, by simp [go_sem]⟩ | 4, _ => ⟨255, by unfold I64; omega, by simp [go_sem]⟩ | 5, _ => ⟨256, by unfold I64; omega, by simp [go_sem]⟩ | 6, _ => ⟨65535, by unfold I64; omega, by simp [go_sem]⟩ | 7, _ => ⟨2147483647, by unfold I64; omega, by simp [go_sem]⟩ | 8, _ => ⟨2147483648, by unfold I64; omega, by simp [go_sem]⟩ | 9, _ => ⟨4294967295, by unfold I64; omega, by simp [go_sem]⟩ | 10, _ => ⟨4294967296, by unfold I64; omega, by simp [go_sem]⟩ | 11, _ => ⟨(-2147483648), by unfold I64; omega, by simp [go_sem]⟩ | 12, _ => ⟨9223372036854775807, by unfold I64; omega, by simp [go_sem]⟩ | 13, _ => ⟨(-9223372036854775808), by unfold I64; omega, by simp [go_sem]⟩ | (j + 14), h => absurd h (by omega))).mono ?_
  rintro e w1 ⟨⟨x1, x1b, rfl⟩, hC1, hK1⟩
  have HC1 : Hid (Cur w1 c a len cap) := hC1
  have HK1 : Hid (Kp c _ w1) := hK1
  have hz1 := hK1.big
  try simp at hz1
  clear hC1 hK1
  go_wp2_with fail
  go_ret
  refine ⟨⟨x1, x1b, rfl⟩, HC1.out, ?_⟩
  repeat (first | with_reducible exact Kp.refl _ _ | (with_reducible refine Kp.trans ?_ HK1.out) | (with_reducible refine Kp.more ?_ (by omega) _) | (with_reducible refine Kp.setNew ?_ (by omega) (by omega) _))

set_option maxHeartbeats 1000000 in
theorem l1Draw_any (c : Nat) (a : Option Addr) (len cap : Nat) (w : World) (hC : Cur w c a len cap) :
    Calls Tryd.prog 46 #[.pointer (some ⟨c, 0, none⟩)] w fun e w' => (∃ (S : Bool) (X Y : Int), (okB S X Y = true ∧ I64 X ∧ I64 Y) ∧ e = .returned (.agg #[.bool S, .int .i64 X, .int .i64 Y])) ∧ Cur w' c a len cap ∧ Kp c w w' := by
  have HC : Hid (Cur w c a len cap) := hC
  have hlt := hC.lt
  clear hC
  go_enter Tryd.func46, Tryd.ntmps46
  go_wp2_with fail
  refine (l1Once_any c a len cap 2 _ (by repeat (first | with_reducible exact HC.out | (with_reducible refine Cur.more ?_ _) | (with_reducible refine Cur.drew ?_) | (with_reducible refine Cur.far ?_ (by omega) _)))).mono ?_
  rintro e w1 ⟨⟨B1, rfl⟩, hC1, hK1⟩
  have HC1 : Hid (Cur w1 c a len cap) := hC1
  have HK1 : Hid (Kp c _ w1) := hK1
  have hz1 := hK1.big
  try simp at hz1
  clear hC1 hK1
  have d10 := fun o => HK1.out.cel (w.heap.size) o (by first | omega | (simp; done) | (simp; omega)) (by omega)
  have g10 := fun o => HK1.out.frz (w.heap.size) o (by first | omega | (simp; done) | (simp; omega)) (by omega)
  have l10 : w.heap.size < w1.heap.size := by omega
  cases B1
  · go_wp2_with fail
    refine (l1Odd_any c a len cap _ (by repeat (first | with_reducible exact HC1.out | (with_reducible refine Cur.more ?_ _) | (with_reducible refine Cur.drew ?_) | (with_reducible refine Cur.far ?_ (by omega) _)))).mono ?_
    rintro e w2 ⟨⟨x2, x2b, rfl⟩, hC2, hK2⟩
    have HC2 : Hid (Cur w2 c a len cap) := hC2
    have HK2 : Hid (Kp c _ w2) := hK2
    have hz2 := hK2.big
    try simp at hz2
    clear hC2 hK2
    have d20 := fun o => HK2.out.cel (w.heap.size) o (by first | omega | (simp; done) | (simp; omega)) (by omega)
    have g20 := fun o => HK2.out.frz (w.heap.size) o (by first | omega | (simp; done) | (simp; omega)) (by omega)
    have l20 : w.heap.size < w2.heap.size := by omega
    have x2c : -9223372036854775808 ≤ x2 ∧ x2 ≤ 9223372036854775807 := x2b
    clear x2b
    go_wp2_with fail
    refine (l1Int_any I64 c a len cap (w2.heap.size) 7 _ (by repeat (first | with_reducible exact HC2.out | (with_reducible refine Cur.more ?_ _) | (with_reducible refine Cur.drew ?_) | (with_reducible refine Cur.far ?_ (by omega) _))) (by omega) (by omega) (by first | omega | (simp; done) | (simp; omega)) (by omega) (fun j hj => match j, hj with | 0, _ => ⟨0, by unfold I64; omega, by simp [go_sem]⟩ | 1, _ => ⟨2306139568115548160, by unfold I64; omega, by simp [go_sem]⟩ | 2, _ => ⟨(-108086391056891904), by unfold I64; omega, by simp [go_sem]⟩ | 3, _ => ⟨(-1), by unfold I64; omega, by simp [go_sem]⟩ | 4, _ => ⟨1, by unfold I64; omega, by simp [go_sem]⟩ | 5, _ => ⟨65536, by unfold I64; omega, by simp [go_sem]⟩ | 6, _ => ⟨x2, by unfold I64; omega, by simp [go_sem]⟩ | (j + 7), h => absurd h (by omega))).mono ?_
    rintro e w3 ⟨⟨x3, x3b, rfl⟩, hC3, hK3⟩
    have HC3 : Hid (Cur w3 c a len cap) := hC3
    have HK3 : Hid (Kp c _ w3) := hK3
    have hz3 := hK3.big
    try simp at hz3
    clear hC3 hK3
    have d30 := fun o => HK3.out.cel (w.heap.size) o (by first | omega | (simp; done) | (simp; omega)) (by omega)
    have g30 := fun o => HK3.out.frz (w.heap.size) o (by first | omega | (simp; done) | (simp; omega)) (by omega)
    have l30 : w.heap.size < w3.heap.size := by omega
    have x3c : -9223372036854775808 ≤ x3 ∧ x3 ≤ 9223372036854775807 := x3b
    clear x3b
    go_wp2_with fail
    refine (l1Below_any c a len cap 70000 _ (by repeat (first | with_reducible exact HC3.out | (with_reducible refine Cur.more ?_ _) | (with_reducible refine Cur.drew ?_) | (with_reducible refine Cur.far ?_ (by omega) _)))).mono ?_
    rintro e w4 ⟨⟨x4, x40, x49, rfl⟩, hC4, hK4⟩
    have HC4 : Hid (Cur w4 c a len cap) := hC4
    have HK4 : Hid (Kp c _ w4) := hK4
    have hz4 := hK4.big
    try simp at hz4
    clear hC4 hK4
    have d40 := fun o => HK4.out.cel (w.heap.size) o (by first | omega | (simp; done) | (simp; omega)) (by omega)
    have g40 := fun o => HK4.out.frz (w.heap.size) o (by first | omega | (simp; done) | (simp; omega)) (by omega)
    have l40 : w.heap.size < w4.heap.size := by omega
    have x48 := x49 (by omega)
    clear x49
    go_wp2_with fail
    refine (l1Odd_any c a len cap _ (by repeat (first | with_reducible exact HC4.out | (with_reducible refine Cur.more ?_ _) | (with_reducible refine Cur.drew ?_) | (with_reducible refine Cur.far ?_ (by omega) _)))).mono ?_
    rintro e w5 ⟨⟨x5, x5b, rfl⟩, hC5, hK5⟩
    have HC5 : Hid (Cur w5 c a len cap) := hC5
    have HK5 : Hid (Kp c _ w5) := hK5
    have hz5 := hK5.big
    try simp at hz5
    clear hC5 hK5
    have d50 := fun o => HK5.out.cel (w.heap.size) o (by first | omega | (simp; done) | (simp; omega)) (by omega)
    have g50 := fun o => HK5.out.frz (w.heap.size) o (by first | omega | (simp; done) | (simp; omega)) (by omega)
    have l50 : w.heap.size < w5.heap.size := by omega
    have x5c : -9223372036854775808 ≤ x5 ∧ x5 ≤ 9223372036854775807 := x5b
    clear x5b
    go_wp2_with fail
    refine (l1Int_any I64 c a len cap (w5.heap.size) 7 _ (by repeat (first | with_reducible exact HC5.out | (with_reducible refine Cur.more ?_ _) | (with_reducible refine Cur.drew ?_) | (with_reducible refine Cur.far ?_ (by omega) _))) (by omega) (by omega) (by first | omega | (simp; done) | (simp; omega)) (by omega) (fun j hj => match j, hj with | 0, _ => ⟨0, by unfold I64; omega, by simp [go_sem]⟩ | 1, _ => ⟨1, by unfold I64; omega, by simp [go_sem]⟩ | 2, _ => ⟨(-1), by unfold I64; omega, by simp [go_sem]⟩ | 3, _ => ⟨65536, by unfold I64; omega, by simp [go_sem]⟩ | 4, _ => ⟨4294967296, by unfold I64; omega, by simp [go_sem]⟩ | 5, _ => ⟨x4, by unfold I64; omega, by simp [go_sem]⟩ | 6, _ => ⟨x5, by unfold I64; omega, by simp [go_sem]⟩ | (j + 7), h => absurd h (by omega))).mono ?_
    rintro e w6 ⟨⟨x6, x6b, rfl⟩, hC6, hK6⟩
    have HC6 : Hid (Cur w6 c a len cap) := hC6
    have HK6 : Hid (Kp c _ w6) := hK6
    have hz6 := hK6.big
    try simp at hz6
    clear hC6 hK6
    have d60 := fun o => HK6.out.cel (w.heap.size) o (by first | omega | (simp; done) | (simp; omega)) (by omega)
    have g60 := fun o => HK6.out.frz (w.heap.size) o (by first | omega | (simp; done) | (simp; omega)) (by omega)
    have l60 : w.heap.size < w6.heap.size := by omega
    have HX : Hid (I64 x6) := x6b
    clear x6b
    go_wp2_with fail
    refine bodyPost_ret (v := .agg #[.bool true, .int .i64 x3, .int .i64 x6]) (by simp [results, Tryd.results46, go_sem, d60, d50, d40, d30, d20, d10, l20, l50, l60]) rfl ⟨⟨true, x3, x6, ⟨okB_t _ _, x3c, HX.out⟩, rfl⟩, ?_, ?_⟩
    · exact (by repeat (first | with_reducible exact HC6.out | (with_reducible refine Cur.more ?_ _) | (with_reducible refine Cur.drew ?_) | (with_reducible refine Cur.far ?_ (by omega) _)))
    · repeat (first | with_reducible exact Kp.refl _ _ | (with_reducible refine Kp.trans ?_ HK6.out) | (with_reducible refine Kp.trans ?_ HK5.out) | (with_reducible refine Kp.trans ?_ HK4.out) | (with_reducible refine Kp.trans ?_ HK3.out) | (with_reducible refine Kp.trans ?_ HK2.out) | (with_reducible refine Kp.trans ?_ HK1.out) | (with_reducible refine Kp.more ?_ (by omega) _) | (with_reducible refine Kp.setNew ?_ (by omega) (by omega) _))
  · go_wp2_with fail
    refine (l1Below_any c a len cap 300 _ (by repeat (first | with_reducible exact HC1.out | (with_reducible refine Cur.more ?_ _) | (with_reducible refine Cur.drew ?_) | (with_reducible refine Cur.far ?_ (by omega) _)))).mono ?_
    rintro e w2 ⟨⟨x2, x20, x29, rfl⟩, hC2, hK2⟩
    have HC2 : Hid (Cur w2 c a len cap) := hC2
    have HK2 : Hid (Kp c _ w2) := hK2
    have hz2 := hK2.big
    try simp at hz2
    clear hC2 hK2
    have d20 := fun o => HK2.out.cel (w.heap.size) o (by first | omega | (simp; done) | (simp; omega)) (by omega)
    have g20 := fun o => HK2.out.frz (w.heap.size) o (by first | omega | (simp; done) | (simp; omega)) (by omega)
    have l20 : w.heap.size < w2.heap.size := by omega
    have x28 := x29 (by omega)
    clear x29
    go_wp2_with fail
    refine (l1Below_any c a len cap 65536 _ (by repeat (first | with_reducible exact HC2.out | (with_reducible refine Cur.more ?_ _) | (with_reducible refine Cur.drew ?_) | (with_reducible refine Cur.far ?_ (by omega) _)))).mono ?_
    rintro e w3 ⟨⟨x3, x30, x39, rfl⟩, hC3, hK3⟩
    have HC3 : Hid (Cur w3 c a len cap) := hC3
    have HK3 : Hid (Kp c _ w3) := hK3
    have hz3 := hK3.big
    try simp at hz3
    clear hC3 hK3
    have d30 := fun o => HK3.out.cel (w.heap.size) o (by first | omega | (simp; done) | (simp; omega)) (by omega)
    have g30 := fun o => HK3.out.frz (w.heap.size) o (by first | omega | (simp; done) | (simp; omega)) (by omega)
    have l30 : w.heap.size < w3.heap.size := by omega
    have x38 := x39 (by omega)
    clear x39
    go_wp2_with fail
    refine (l1Below_any c a len cap 20 _ (by repeat (first | with_reducible exact HC3.out | (with_reducible refine Cur.more ?_ _) | (with_reducible refine Cur.drew ?_) | (with_reducible refine Cur.far ?_ (by omega) _)))).mono ?_
    rintro e w4 ⟨⟨x4, x40, x49, rfl⟩, hC4, hK4⟩
    have HC4 : Hid (Cur w4 c a len cap) := hC4
    have HK4 : Hid (Kp c _ w4) := hK4
    have hz4 := hK4.big
    try simp at hz4
    clear hC4 hK4
    have d40 := fun o => HK4.out.cel (w.heap.size) o (by first | omega | (simp; done) | (simp; omega)) (by omega)
    have g40 := fun o => HK4.out.frz (w.heap.size) o (by first | omega | (simp; done) | (simp; omega)) (by omega)
    have l40 : w.heap.size < w4.heap.size := by omega
    have x48 := x49 (by omega)
    clear x49
    go_wp2_with fail
    refine (l1Int_any (fun z => 0 ≤ z ∧ z ≤ 4294967295) c a len cap (w4.heap.size) 7 _ (by repeat (first | with_reducible exact HC4.out | (with_reducible refine Cur.more ?_ _) | (with_reducible refine Cur.drew ?_) | (with_reducible refine Cur.far ?_ (by omega) _))) (by omega) (by omega) (by first | omega | (simp; done) | (simp; omega)) (by omega) (fun j hj => match j, hj with | 0, _ => ⟨0, by omega, by simp [go_sem]⟩ | 1, _ => ⟨1, by omega, by simp [go_sem]⟩ | 2, _ => ⟨4294967295, by omega, by simp [go_sem]⟩ | 3, _ => ⟨167772160, by omega, by simp [go_sem]⟩ | 4, _ => ⟨(167772160 + x2), by omega, by simp [go_sem]⟩ | 5, _ => ⟨(3232235520 + x3), by omega, by simp [go_sem]⟩ | 6, _ => ⟨(4294967295 - x4), by omega, by simp [go_sem]⟩ | (j + 7), h => absurd h (by omega))).mono ?_
    rintro e w5 ⟨⟨x5, x5b, rfl⟩, hC5, hK5⟩
    have HC5 : Hid (Cur w5 c a len cap) := hC5
    have HK5 : Hid (Kp c _ w5) := hK5
    have hz5 := hK5.big
    try simp at hz5
    clear hC5 hK5
    have d50 := fun o => HK5.out.cel (w.heap.size) o (by first | omega | (simp; done) | (simp; omega)) (by omega)
    have g50 := fun o => HK5.out.frz (w.heap.size) o (by first | omega | (simp; done) | (simp; omega)) (by omega)
    have l50 : w.heap.size < w5.heap.size := by omega
    have x5c : 0 ≤ x5 ∧ x5 ≤ 4294967295 := x5b
    clear x5b
    go_wp2_with fail
    refine bodyPost_ret (v := .agg #[.bool false, .int .i64 0, .int .i64 x5]) (by simp [results, Tryd.results46, go_sem, d50, d40, d30, d20, d10, l40]) rfl ⟨⟨false, 0, x5, ⟨okB_yes x5 x5c.1 x5c.2, by unfold I64; omega, by unfold I64; omega⟩, rfl⟩, ?_, ?_⟩
    · exact (by repeat (first | with_reducible exact HC5.out | (with_reducible refine Cur.more ?_ _) | (with_reducible refine Cur.drew ?_) | (with_reducible refine Cur.far ?_ (by omega) _)))
    · repeat (first | with_reducible exact Kp.refl _ _ | (with_reducible refine Kp.trans ?_ HK5.out) | (with_reducible refine Kp.trans ?_ HK4.out) | (with_reducible refine Kp.trans ?_ HK3.out) | (with_reducible refine Kp.trans ?_ HK2.out) | (with_reducible refine Kp.trans ?_ HK1.out) | (with_reducible refine Kp.more ?_ (by omega) _) | (with_reducible refine Kp.setNew ?_ (by omega) (by omega) _))

end Go.Proofs.YtofnnpjadehgmaaDoor
