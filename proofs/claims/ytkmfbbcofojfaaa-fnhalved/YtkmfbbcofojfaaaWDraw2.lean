/-
  The draws of any address and any prefix: what comes is of words of 64 bits; the cursor lies on; nothing else turns.
-/
import Derived.Test.YtkmfbbcofojfaaaWDraw
import Derived.Test.YtkmfbbcofojfaaaBSAbov
namespace Go.Proofs.Ytkmfbbcofojfaaa
open Go.RowKit

set_option maxHeartbeats 1000000 in
theorem l1DrawAny_any (c : Nat) (a : Option Addr) (len cap : Nat) (w : World) (hC : Cur w c a len cap) :
    Calls Try.prog 68 #[.pointer (some ⟨c, 0, none⟩)] w fun e w' => (∃ (S : Bool) (X Y : Int), (I64 X ∧ I64 Y) ∧ e = .returned (.agg #[.bool S, .int .i64 X, .int .i64 Y])) ∧ Cur w' c a len cap ∧ Kp c w w' := by
  have HC : Hid (Cur w c a len cap) := hC
  have hlt := hC.lt
  clear hC
  go_enter Try.func68, Try.ntmps68
  go_wp2_with fail
  refine (l1Draw_any c a len cap _ (by repeat (first | with_reducible exact HC.out | (with_reducible refine Cur.more ?_ _) | (with_reducible refine Cur.drew ?_) | (with_reducible refine Cur.far ?_ (by omega) _)))).mono ?_
  rintro e w1 ⟨⟨S, X, Y, ⟨_, bX, bY⟩, rfl⟩, hC1, hK1⟩
  have HC1 : Hid (Cur w1 c a len cap) := hC1
  have HK1 : Hid (Kp c _ w1) := hK1
  have hz1 := hK1.big
  try simp at hz1
  clear hC1 hK1
  have d10 := fun o => HK1.out.cel (w.heap.size) o (by first | omega | (simp; done) | (simp; omega)) (by omega)
  have g10 := fun o => HK1.out.frz (w.heap.size) o (by first | omega | (simp; done) | (simp; omega)) (by omega)
  have l10 : w.heap.size < w1.heap.size := by omega
  have HX : Hid (I64 X) := bX
  have HY : Hid (I64 Y) := bY
  clear bX bY
  go_wp2_with fail
  refine (l1Below_any c a len cap 16 _ (by repeat (first | with_reducible exact HC1.out | (with_reducible refine Cur.more ?_ _) | (with_reducible refine Cur.drew ?_) | (with_reducible refine Cur.far ?_ (by omega) _)))).mono ?_
  rintro e w2 ⟨⟨x2, x20, x29, rfl⟩, hC2, hK2⟩
  have HC2 : Hid (Cur w2 c a len cap) := hC2
  have HK2 : Hid (Kp c _ w2) := hK2
  have hz2 := hK2.big
  try simp at hz2
  clear hC2 hK2
  have d20 := fun o => HK2.out.cel (w.heap.size) o (by first | omega | (simp; done) | (simp; omega)) (by omega)
  have g20 := fun o => HK2.out.frz (w.heap.size) o (by first | omega | (simp; done) | (simp; omega)) (by omega)
  have l20 : w.heap.size < w2.heap.size := by omega
  have d21 := fun o => HK2.out.cel (w1.heap.size) o (by first | omega | (simp; done) | (simp; omega)) (by omega)
  have g21 := fun o => HK2.out.frz (w1.heap.size) o (by first | omega | (simp; done) | (simp; omega)) (by omega)
  have l21 : w1.heap.size < w2.heap.size := by omega
  have x28 := x29 (by omega)
  clear x29
  by_cases z0 : x2 = 0
  · subst z0
    go_wp2_with fail
    refine bodyPost_ret (v := .agg #[.bool (!S), .int .i64 X, .int .i64 Y]) (by simp [results, Try.results68, go_sem, d20, d10, l10]) rfl ⟨⟨!S, X, Y, ⟨HX.out, HY.out⟩, rfl⟩, ?_, ?_⟩
    · exact (by repeat (first | with_reducible exact HC2.out | (with_reducible refine Cur.more ?_ _) | (with_reducible refine Cur.drew ?_) | (with_reducible refine Cur.far ?_ (by omega) _)))
    · repeat (first | with_reducible exact Kp.refl _ _ | (with_reducible refine Kp.trans ?_ HK2.out) | (with_reducible refine Kp.trans ?_ HK1.out) | (with_reducible refine Kp.more ?_ (by omega) _) | (with_reducible refine Kp.setNew ?_ (by omega) (by omega) _))
  · have y0 : (x2 == 0) = false := by rw [beq_eq_false_iff_ne]; exact z0
    by_cases z1 : x2 = 1
    · subst z1
      go_wp2_with fail
      refine (l1Odd_any c a len cap _ (by repeat (first | with_reducible exact HC2.out | (with_reducible refine Cur.more ?_ _) | (with_reducible refine Cur.drew ?_) | (with_reducible refine Cur.far ?_ (by omega) _)))).mono ?_
      rintro e w3 ⟨⟨x3, x3b, rfl⟩, hC3, hK3⟩
      have HC3 : Hid (Cur w3 c a len cap) := hC3
      have HK3 : Hid (Kp c _ w3) := hK3
      have hz3 := hK3.big
      try simp at hz3
      clear hC3 hK3
      have d30 := fun o => HK3.out.cel (w.heap.size) o (by first | omega | (simp; done) | (simp; omega)) (by omega)
      have g30 := fun o => HK3.out.frz (w.heap.size) o (by first | omega | (simp; done) | (simp; omega)) (by omega)
      have l30 : w.heap.size < w3.heap.size := by omega
      have d31 := fun o => HK3.out.cel (w1.heap.size) o (by first | omega | (simp; done) | (simp; omega)) (by omega)
      have g31 := fun o => HK3.out.frz (w1.heap.size) o (by first | omega | (simp; done) | (simp; omega)) (by omega)
      have l31 : w1.heap.size < w3.heap.size := by omega
      have x3c : -9223372036854775808 ≤ x3 ∧ x3 ≤ 9223372036854775807 := x3b
      clear x3b
      have HO : Hid (I64 x3) := x3c
      clear x3c
      go_wp2_with fail
      refine bodyPost_ret (v := .agg #[.bool S, .int .i64 X, .int .i64 x3]) (by simp [results, Try.results68, go_sem, d30, d20, d10, l10]) rfl ⟨⟨S, X, x3, ⟨HX.out, HO.out⟩, rfl⟩, ?_, ?_⟩
      · exact (by repeat (first | with_reducible exact HC3.out | (with_reducible refine Cur.more ?_ _) | (with_reducible refine Cur.drew ?_) | (with_reducible refine Cur.far ?_ (by omega) _)))
      · repeat (first | with_reducible exact Kp.refl _ _ | (with_reducible refine Kp.trans ?_ HK3.out) | (with_reducible refine Kp.trans ?_ HK2.out) | (with_reducible refine Kp.trans ?_ HK1.out) | (with_reducible refine Kp.more ?_ (by omega) _) | (with_reducible refine Kp.setNew ?_ (by omega) (by omega) _))
    · have y1 : (x2 == 1) = false := by rw [beq_eq_false_iff_ne]; exact z1
      go_wp2_with fail
      refine bodyPost_ret (v := .agg #[.bool S, .int .i64 X, .int .i64 Y]) (by simp [results, Try.results68, go_sem, d20, d10, l10]) rfl ⟨⟨S, X, Y, ⟨HX.out, HY.out⟩, rfl⟩, ?_, ?_⟩
      · exact (by repeat (first | with_reducible exact HC2.out | (with_reducible refine Cur.more ?_ _) | (with_reducible refine Cur.drew ?_) | (with_reducible refine Cur.far ?_ (by omega) _)))
      · repeat (first | with_reducible exact Kp.refl _ _ | (with_reducible refine Kp.trans ?_ HK2.out) | (with_reducible refine Kp.trans ?_ HK1.out) | (with_reducible refine Kp.more ?_ (by omega) _) | (with_reducible refine Kp.setNew ?_ (by omega) (by omega) _))

theorem bvW {x : Int} (h : I64 x) : (BitVec.ofInt 64 x).toInt = x := by
  unfold I64 at h
  rw [BitVec.toInt_ofInt, Int.bmod_def]
  omega
theorem bvI (x : BitVec 64) : I64 x.toInt := by
  have h := x.isLt
  unfold I64
  rw [BitVec.toInt_eq_toNat_cond]
  split <;> omega

/-- The specification's PrefixOf of a right address and bits of its width: some prefix of words of 64 bits, and true. -/
theorem sPrefixOf_some (s : Bool) (X Y b : Int) (hX : I64 X) (hY : I64 Y) (hok : okB s X Y = true) (hb : 0 ≤ b) (hb1 : b ≤ (wd s : Int)) :
    ∃ (U V : Int), (I64 U ∧ I64 V) ∧ ∀ w : World, Calls Try.prog 79 #[.agg #[.bool s, .int .i64 X, .int .i64 Y], .int .i64 b] w fun e w' => e = .returned (.tuple #[.agg #[.bool s, .int .i64 U, .int .i64 V, .int .i64 b], .bool true]) ∧ Below w.heap.size w w' := by
  have h := sPrefixOf_yes s (BitVec.ofInt 64 X) (BitVec.ofInt 64 Y) b ((wd s : Int) - b).toNat (by rw [bvW hX, bvW hY]; exact hok) hb (by omega)
  rw [bvW hX, bvW hY] at h
  exact ⟨_, _, ⟨bvI _, bvI _⟩, h⟩

set_option maxHeartbeats 1000000 in
theorem l2Draw_any (c : Nat) (a : Option Addr) (len cap : Nat) (w : World) (hC : Cur w c a len cap) :
    Calls Try.prog 52 #[.pointer (some ⟨c, 0, none⟩)] w fun e w' => (∃ (S : Bool) (X Y Z : Int), (I64 X ∧ I64 Y ∧ I64 Z) ∧ e = .returned (.agg #[.bool S, .int .i64 X, .int .i64 Y, .int .i64 Z])) ∧ Cur w' c a len cap ∧ Kp c w w' := by
  have HC : Hid (Cur w c a len cap) := hC
  have hlt := hC.lt
  clear hC
  go_enter Try.func52, Try.ntmps52
  go_wp2_with fail
  refine (l1Draw_any c a len cap _ (by repeat (first | with_reducible exact HC.out | (with_reducible refine Cur.more ?_ _) | (with_reducible refine Cur.drew ?_) | (with_reducible refine Cur.far ?_ (by omega) _)))).mono ?_
  rintro e w1 ⟨⟨S, X, Y, ⟨hok, bX, bY⟩, rfl⟩, hC1, hK1⟩
  have HC1 : Hid (Cur w1 c a len cap) := hC1
  have HK1 : Hid (Kp c _ w1) := hK1
  have hz1 := hK1.big
  try simp at hz1
  clear hC1 hK1
  have d10 := fun o => HK1.out.cel (w.heap.size) o (by first | omega | (simp; done) | (simp; omega)) (by omega)
  have g10 := fun o => HK1.out.frz (w.heap.size) o (by first | omega | (simp; done) | (simp; omega)) (by omega)
  have l10 : w.heap.size < w1.heap.size := by omega
  have HX : Hid (I64 X ∧ I64 Y ∧ okB S X Y = true) := ⟨bX, bY, hok⟩
  clear bX bY hok
  go_wp2_with fail
  refine (l1Int_any (fun z => 0 ≤ z ∧ z ≤ 32) c a len cap (w1.heap.size + 1) 9 _ (by repeat (first | with_reducible exact HC1.out | (with_reducible refine Cur.more ?_ _) | (with_reducible refine Cur.drew ?_) | (with_reducible refine Cur.far ?_ (by omega) _))) (by omega) (by omega) (by first | omega | (simp; done) | (simp; omega)) (by omega) (fun j hj => match j, hj with | 0, _ => ⟨24, by omega, by simp [go_sem]⟩ | 1, _ => ⟨26, by omega, by simp [go_sem]⟩ | 2, _ => ⟨28, by omega, by simp [go_sem]⟩ | 3, _ => ⟨30, by omega, by simp [go_sem]⟩ | 4, _ => ⟨32, by omega, by simp [go_sem]⟩ | 5, _ => ⟨8, by omega, by simp [go_sem]⟩ | 6, _ => ⟨16, by omega, by simp [go_sem]⟩ | 7, _ => ⟨0, by omega, by simp [go_sem]⟩ | 8, _ => ⟨31, by omega, by simp [go_sem]⟩ | (j + 9), h => absurd h (by omega))).mono ?_
  rintro e w2 ⟨⟨x2, x2b, rfl⟩, hC2, hK2⟩
  have HC2 : Hid (Cur w2 c a len cap) := hC2
  have HK2 : Hid (Kp c _ w2) := hK2
  have hz2 := hK2.big
  try simp at hz2
  clear hC2 hK2
  have d20 := fun o => HK2.out.cel (w.heap.size) o (by first | omega | (simp; done) | (simp; omega)) (by omega)
  have g20 := fun o => HK2.out.frz (w.heap.size) o (by first | omega | (simp; done) | (simp; omega)) (by omega)
  have l20 : w.heap.size < w2.heap.size := by omega
  have d21 := fun o => HK2.out.cel (w1.heap.size) o (by first | omega | (simp; done) | (simp; omega)) (by omega)
  have g21 := fun o => HK2.out.frz (w1.heap.size) o (by first | omega | (simp; done) | (simp; omega)) (by omega)
  have l21 : w1.heap.size < w2.heap.size := by omega
  have x2c : 0 ≤ x2 ∧ x2 ≤ 32 := x2b
  have q1 : w.heap.size < w1.heap.size + 1 := by omega
  clear x2b
  cases S
  · obtain ⟨U, V, bUV, hF⟩ := sPrefixOf_some _ X Y x2 HX.out.1 HX.out.2.1 HX.out.2.2 (by omega) (by show x2 ≤ (32 : Int); omega)
    have HF : Hid (∀ w : World, _) := hF
    have HUV : Hid (I64 U ∧ I64 V) := bUV
    clear hF bUV
    go_wp2_with fail
    refine (HF.out _).mono ?_
    rintro e w3 ⟨rfl, hb3⟩
    have HC3 : Hid (Cur w3 c a len cap) := Cur.grew (by repeat (first | with_reducible exact HC2.out | (with_reducible refine Cur.more ?_ _) | (with_reducible refine Cur.drew ?_) | (with_reducible refine Cur.far ?_ (by omega) _))) hb3
    have HK3 : Hid (Kp c _ w3) := Kp.of_below (by first | omega | (simp; omega)) hb3
    have hz3 := hb3.size
    try simp at hz3
    clear hb3
    have d30 := fun o => HK3.out.cel (w.heap.size) o (by first | omega | (simp; done) | (simp; omega)) (by omega)
    have g30 := fun o => HK3.out.frz (w.heap.size) o (by first | omega | (simp; done) | (simp; omega)) (by omega)
    have l30 : w.heap.size < w3.heap.size := by omega
    go_wp2_with fail
    refine bodyPost_ret (v := .agg #[.bool false, .int .i64 U, .int .i64 V, .int .i64 x2]) (by simp [results, Try.results52, go_sem, d30, d20, d10, l10, q1, l30]) rfl ⟨⟨false, U, V, x2, ⟨HUV.out.1, HUV.out.2, by unfold I64; omega⟩, rfl⟩, ?_, ?_⟩
    · exact (by repeat (first | with_reducible exact HC3.out | (with_reducible refine Cur.more ?_ _) | (with_reducible refine Cur.drew ?_) | (with_reducible refine Cur.far ?_ (by omega) _)))
    · repeat (first | with_reducible exact Kp.refl _ _ | (with_reducible refine Kp.trans ?_ HK3.out) | (with_reducible refine Kp.trans ?_ HK2.out) | (with_reducible refine Kp.trans ?_ HK1.out) | (with_reducible refine Kp.more ?_ (by omega) _) | (with_reducible refine Kp.setNew ?_ (by omega) (by omega) _))
  · go_wp2_with fail
    refine (l1Int_any (fun z => 0 ≤ z ∧ z ≤ 128) c a len cap (w2.heap.size) 11 _ (by repeat (first | with_reducible exact HC2.out | (with_reducible refine Cur.more ?_ _) | (with_reducible refine Cur.drew ?_) | (with_reducible refine Cur.far ?_ (by omega) _))) (by omega) (by omega) (by first | omega | (simp; done) | (simp; omega)) (by omega) (fun j hj => match j, hj with | 0, _ => ⟨64, by omega, by simp [go_sem]⟩ | 1, _ => ⟨48, by omega, by simp [go_sem]⟩ | 2, _ => ⟨112, by omega, by simp [go_sem]⟩ | 3, _ => ⟨120, by omega, by simp [go_sem]⟩ | 4, _ => ⟨126, by omega, by simp [go_sem]⟩ | 5, _ => ⟨127, by omega, by simp [go_sem]⟩ | 6, _ => ⟨128, by omega, by simp [go_sem]⟩ | 7, _ => ⟨0, by omega, by simp [go_sem]⟩ | 8, _ => ⟨63, by omega, by simp [go_sem]⟩ | 9, _ => ⟨65, by omega, by simp [go_sem]⟩ | 10, _ => ⟨1, by omega, by simp [go_sem]⟩ | (j + 11), h => absurd h (by omega))).mono ?_
    rintro e w4 ⟨⟨x4, x4b, rfl⟩, hC4, hK4⟩
    have HC4 : Hid (Cur w4 c a len cap) := hC4
    have HK4 : Hid (Kp c _ w4) := hK4
    have hz4 := hK4.big
    try simp at hz4
    clear hC4 hK4
    have d40 := fun o => HK4.out.cel (w.heap.size) o (by first | omega | (simp; done) | (simp; omega)) (by omega)
    have g40 := fun o => HK4.out.frz (w.heap.size) o (by first | omega | (simp; done) | (simp; omega)) (by omega)
    have l40 : w.heap.size < w4.heap.size := by omega
    have d41 := fun o => HK4.out.cel (w1.heap.size) o (by first | omega | (simp; done) | (simp; omega)) (by omega)
    have g41 := fun o => HK4.out.frz (w1.heap.size) o (by first | omega | (simp; done) | (simp; omega)) (by omega)
    have l41 : w1.heap.size < w4.heap.size := by omega
    have x4c : 0 ≤ x4 ∧ x4 ≤ 128 := x4b
    clear x4b
    obtain ⟨U, V, bUV, hF⟩ := sPrefixOf_some _ X Y x4 HX.out.1 HX.out.2.1 HX.out.2.2 (by omega) (by show x4 ≤ (128 : Int); omega)
    have HF : Hid (∀ w : World, _) := hF
    have HUV : Hid (I64 U ∧ I64 V) := bUV
    clear hF bUV
    go_wp2_with fail
    refine (HF.out _).mono ?_
    rintro e w5 ⟨rfl, hb5⟩
    have HC5 : Hid (Cur w5 c a len cap) := Cur.grew (by repeat (first | with_reducible exact HC4.out | (with_reducible refine Cur.more ?_ _) | (with_reducible refine Cur.drew ?_) | (with_reducible refine Cur.far ?_ (by omega) _))) hb5
    have HK5 : Hid (Kp c _ w5) := Kp.of_below (by first | omega | (simp; omega)) hb5
    have hz5 := hb5.size
    try simp at hz5
    clear hb5
    have d50 := fun o => HK5.out.cel (w.heap.size) o (by first | omega | (simp; done) | (simp; omega)) (by omega)
    have g50 := fun o => HK5.out.frz (w.heap.size) o (by first | omega | (simp; done) | (simp; omega)) (by omega)
    have l50 : w.heap.size < w5.heap.size := by omega
    go_wp2_with fail
    refine bodyPost_ret (v := .agg #[.bool true, .int .i64 U, .int .i64 V, .int .i64 x4]) (by simp [results, Try.results52, go_sem, d50, d40, d20, d10, l10, q1, l20, l50]) rfl ⟨⟨true, U, V, x4, ⟨HUV.out.1, HUV.out.2, by unfold I64; omega⟩, rfl⟩, ?_, ?_⟩
    · exact (by repeat (first | with_reducible exact HC5.out | (with_reducible refine Cur.more ?_ _) | (with_reducible refine Cur.drew ?_) | (with_reducible refine Cur.far ?_ (by omega) _)))
    · repeat (first | with_reducible exact Kp.refl _ _ | (with_reducible refine Kp.trans ?_ HK5.out) | (with_reducible refine Kp.trans ?_ HK4.out) | (with_reducible refine Kp.trans ?_ HK2.out) | (with_reducible refine Kp.trans ?_ HK1.out) | (with_reducible refine Kp.more ?_ (by omega) _) | (with_reducible refine Kp.setNew ?_ (by omega) (by omega) _))

end Go.Proofs.Ytkmfbbcofojfaaa
