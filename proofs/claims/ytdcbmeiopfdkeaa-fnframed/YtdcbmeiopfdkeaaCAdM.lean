/-
  An address's bytes are read back: plain mathematics; without the last one they are none.
-/
import Derived.Test.YtdcbmeiopfdkeaaCAdr
import Derived.Test.YtdcbmeiopfdkeaaCAdI
namespace Go.Proofs.Ytdcbmeiopfdkeaa
open Go.RowKit

theorem wst_nat (x : BitVec 64) (z : Int) (h0 : 0 ≤ z) (h1 : z ≤ 255) (hx : x.toNat < 2 ^ 56) : ((wst x z).toNat : Int) = x.toNat * 256 + z := by
  obtain ⟨y, rfl⟩ := Int.eq_ofNat_of_zero_le h0
  unfold wst
  have e : (BitVec.ofInt 64 (y : Int)).toNat = y := by rw [BitVec.ofInt_natCast, BitVec.toNat_ofNat]; omega
  rw [BitVec.toNat_or, e, BitVec.toNat_shiftLeft]
  have hs : x.toNat <<< 8 = x.toNat * 256 := by rw [Nat.shiftLeft_eq]
  rw [hs, Nat.mod_eq_of_lt (by omega), ← hs, ← Nat.shiftLeft_add_eq_or_of_lt (by omega : y < 2 ^ 8), hs]
  omega

theorem emod_step (q : Int) (M : Int) (hM : 0 < M) : (q / 256 % M) * 256 + q % 256 = q % (256 * M) := by
  have h1 := Int.mul_ediv_add_emod (q / 256) M
  have h2 := Int.emod_nonneg (q / 256) (Int.ne_of_gt hM)
  have h3 := Int.emod_lt_of_pos (q / 256) hM
  generalize q / 256 % M = r at *
  generalize hk : q / 256 / M = k at *
  have e : q = (r * 256 + q % 256) + 256 * M * k := by
    have : 256 * M * k = 256 * (M * k) := Int.mul_assoc _ _ _
    omega
  have e2 : (r * 256 + q % 256) % (256 * M) = r * 256 + q % 256 := Int.emod_eq_of_lt (by omega) (by omega)
  rw [← e2]
  conv => rhs; rw [e]
  rw [Int.add_mul_emod_self_left]

theorem wv_app (zs : List Int) (z : Int) : wv (zs ++ [z]) = wst (wv zs) z := by simp [wv]

theorem wv_bigTo (n : Int) (c : Nat) (hc : c ≤ 8) : ∀ i, i ≤ c → ((wv (bigTo n c i)).toNat : Int) = n / 2 ^ (8 * (c - i)) % 2 ^ (8 * i)
  | 0, _ => by simp [bigTo, wv, Int.emod_one]
  | i + 1, hi => by
    have ih := wv_bigTo n c hc i (by omega)
    have hp : (0 : Int) < 2 ^ (8 * i) := Int.pow_pos (by decide)
    have hlt := Int.emod_lt_of_pos (n / 2 ^ (8 * (c - i))) hp
    have hpw : (2 : Int) ^ (8 * i) ≤ 2 ^ 56 := by
      have := Nat.pow_le_pow_right (n := 2) (by decide) (show 8 * i ≤ 56 by omega)
      exact_mod_cast this
    have hb := byteAt_bd n (c - 1 - i)
    have h56 : (2 : Int) ^ 56 = 72057594037927936 := by decide
    have hN : (wv (bigTo n c i)).toNat < 2 ^ 56 := by omega
    rw [bigTo_succ, wv_app, wst_nat _ _ hb.1 hb.2 hN, ih]
    unfold byteAt
    have e : n / 2 ^ (8 * (c - i)) = n / 2 ^ (8 * (c - 1 - i)) / 256 := by
      rw [Int.ediv_ediv_of_nonneg (Int.le_of_lt (Int.pow_pos (by decide)))]
      congr 1
      rw [show 8 * (c - i) = 8 * (c - 1 - i) + 8 by omega, Int.pow_add]; rfl
    have e2 : (2 : Int) ^ (8 * (i + 1)) = 256 * 2 ^ (8 * i) := by
      rw [show 8 * (i + 1) = 8 * i + 8 by omega, Int.pow_add, Int.mul_comm]; rfl
    rw [e, e2, show c - (i + 1) = c - 1 - i by omega]
    exact emod_step _ _ hp

theorem big_bigTo (n : Int) (c : Nat) : big n c = bigTo n c c := rfl
theorem wv_big8 (n : Int) (h : -9223372036854775808 ≤ n ∧ n ≤ 9223372036854775807) : (wv (big n 8)).toInt = n := by
  have h1 := wv_bigTo n 8 (by omega) 8 (by omega)
  rw [← big_bigTo] at h1
  have e1 : (2 : Int) ^ (8 * (8 - 8)) = 1 := rfl
  have e2 : (2 : Int) ^ (8 * 8) = 18446744073709551616 := rfl
  rw [e1, e2, Int.ediv_one] at h1
  rw [toInt_wrap, h1, IntKind.wrap_i64]; omega
theorem wv_big4 (n : Int) (h0 : 0 ≤ n) (h1 : n ≤ 4294967295) : (wv (big n 4)).toInt = n := by
  have h2 := wv_bigTo n 4 (by omega) 4 (by omega)
  rw [← big_bigTo] at h2
  have e1 : (2 : Int) ^ (8 * (4 - 4)) = 1 := rfl
  have e2 : (2 : Int) ^ (8 * 4) = 4294967296 := rfl
  rw [e1, e2, Int.ediv_one] at h2
  rw [toInt_wrap, h2, IntKind.wrap_i64]; omega

theorem sub_mid (pre xs rest : List Int) {k c : Nat} (hk : k = pre.length) (hc : c = xs.length) : sub (pre ++ (xs ++ rest)) k c = xs := by
  subst hk hc
  unfold sub
  rw [List.drop_left, List.take_left]

theorem adrB_oct (s : Bool) (h l : Int) : Oct (adrB s h l) := by
  unfold adrB
  split
  · split
    · intro z hz
      rcases List.mem_cons.1 hz with rfl | hz
      · omega
      · rcases List.mem_append.1 hz with hz | hz
        · exact big_oct h 8 z hz
        · exact big_oct l 8 z hz
    · intro z hz
      rcases List.mem_cons.1 hz with rfl | hz
      · omega
      · exact big_oct l 4 z hz
  · intro z hz; cases hz
theorem okB_parts {h l : Int} (e : okB false h l = true) : h = 0 ∧ 0 ≤ l ∧ l ≤ 4294967295 := by
  simpa [okB] using e

/-- Back at its place, behind one byte and ahead of what comes. -/
theorem ga_back (s : Bool) (h l : Int) (hh : -9223372036854775808 ≤ h ∧ h ≤ 9223372036854775807) (hl : -9223372036854775808 ≤ l ∧ l ≤ 9223372036854775807) (hok : okB s h l = true) (p : Int) (rest : List Int) :
    gaV ([p] ++ (adrB s h l ++ rest)) 1 = .tuple #[.agg #[.bool s, .int .i64 h, .int .i64 l], .int .i64 (1 + ((adrB s h l).length : Int)), .bool true] := by
  cases s
  · obtain ⟨rfl, l0, l1⟩ := okB_parts hok
    rw [adrB_4 hok]
    have e := gaV_4 (zs := [p] ++ (([4] ++ big l 4) ++ rest)) (k := 1) (by simp) (by simp [big_len])
    refine Eq.trans e ?_
    unfold ga4
    have e2 : sub ([p] ++ (([4] ++ big l 4) ++ rest)) (1 + 1) 4 = big l 4 := by
      have := sub_mid [p, 4] (big l 4) rest (k := 1 + 1) (c := 4) rfl (big_len l 4).symm
      rw [← this]; congr 1
    rw [e2, wv_big4 l l0 l1]
    have e3 : (([4] ++ big l 4).length : Int) = 5 := by simp [big_len]
    rw [e3]; rfl
  · rw [adrB_6]
    have e := gaV_6 (zs := [p] ++ ((([6] ++ big h 8) ++ big l 8) ++ rest)) (k := 1) (by simp) (by simp [big_len]; omega)
    refine Eq.trans e ?_
    unfold ga6
    have e2 : sub ([p] ++ ((([6] ++ big h 8) ++ big l 8) ++ rest)) (1 + 1) 8 = big h 8 := by
      have := sub_mid [p, 6] (big h 8) (big l 8 ++ rest) (k := 1 + 1) (c := 8) rfl (big_len h 8).symm
      rw [← this]; congr 1 <;> simp
    have e3 : sub ([p] ++ ((([6] ++ big h 8) ++ big l 8) ++ rest)) (1 + 9) 8 = big l 8 := by
      have := sub_mid ([p, 6] ++ big h 8) (big l 8) rest (k := 1 + 9) (c := 8) (by simp [big_len]) (big_len l 8).symm
      rw [← this]; congr 1 <;> simp
    rw [e2, e3, wv_big8 h hh, wv_big8 l hl]
    have e4 : (((([6] ++ big h 8) ++ big l 8)).length : Int) = 17 := by simp [big_len]
    rw [e4]; rfl

/-- Without the last one. -/
theorem ga_short (s : Bool) (h l : Int) (hok : okB s h l = true) (hs : List Int) (z : Int) (e : adrB s h l = hs ++ [z]) : gaV hs 0 = gaNo := by
  have hlen : hs.length + 1 = if s then 17 else 5 := by
    have : (adrB s h l).length = hs.length + 1 := by rw [e]; simp
    rw [← this]
    cases s
    · rw [adrB_4 hok]; simp [big_len]
    · rw [adrB_6]; simp [big_len]
  have h0 : hs[0]? = some (if s then 6 else 4) := by
    have : (adrB s h l)[0]? = hs[0]? := by
      rw [e, List.getElem?_append_left]
      cases s <;> simp at hlen <;> omega
    rw [← this]
    cases s
    · rw [adrB_4 hok]; rfl
    · rw [adrB_6]; rfl
  refine gaV_no (k := 0) ?_ ?_
  · rintro ⟨h1, h2⟩
    rw [h1] at h0
    cases s
    · simp at hlen; omega
    · simp at h0
  · rintro ⟨h1, h2⟩
    rw [h1] at h0
    cases s
    · simp at h0
    · simp at hlen; omega

end Go.Proofs.Ytdcbmeiopfdkeaa
