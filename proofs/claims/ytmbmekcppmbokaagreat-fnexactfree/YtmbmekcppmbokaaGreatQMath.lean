/-
  Addresses as numbers: what is left of a span where single addresses are taken begins with the least place that is free. Plain mathematics.
-/
import Derived.Test.YtmbmekcppmbokaaGreatPLeft
namespace Go.Proofs.YtmbmekcppmbokaaGreat
open Go.RowKit

/-- An address as a number. -/
def adrN (H L : BitVec 64) : Nat := (H ++ L).toNat
def Sp.adr (x : Sp) : Nat := adrN x.H x.L

theorem adrN_inj {H L H' L' : BitVec 64} (h : adrN H L = adrN H' L') : H = H' ∧ L = L' := by
  have e : H ++ L = H' ++ L' := BitVec.eq_of_toNat_eq h
  constructor
  · apply BitVec.eq_of_getLsbD_eq
    intro i hi
    have := congrArg (fun v => v.getLsbD (64 + i)) e
    rw [BitVec.getLsbD_append, BitVec.getLsbD_append, if_neg (by omega), if_neg (by omega), Nat.add_sub_cancel_left] at this
    exact this
  · apply BitVec.eq_of_getLsbD_eq
    intro i hi
    have := congrArg (fun v => v.getLsbD i) e
    rw [BitVec.getLsbD_append, BitVec.getLsbD_append, if_pos hi, if_pos hi] at this
    exact this
theorem adr_bit (H L : BitVec 64) (i : Nat) : (adrN H L).testBit i = if i < 64 then L.getLsbD i else H.getLsbD (i - 64) := by
  unfold adrN
  rw [BitVec.testBit_toNat, BitVec.getLsbD_append]
theorem adr_lt (H L : BitVec 64) : adrN H L < 2 ^ 128 := (H ++ L).isLt

theorem clr_adr (n : Nat) (H L : BitVec 64) : adrN (cH n H) (cL n L) = adrN H L >>> n <<< n := by
  apply Nat.eq_of_testBit_eq
  intro i
  rw [adr_bit, Nat.testBit_shiftLeft, Nat.testBit_shiftRight, adr_bit]
  unfold cH cL
  by_cases h : i < 64
  · rw [if_pos h]
    simp only [BitVec.getLsbD_and, BitVec.getLsbD_not, ml_bit, h, decide_true, Bool.true_and]
    by_cases hn : n ≤ i
    · rw [show n + (i - n) = i by omega, if_pos h]
      simp [hn, show ¬ i < n by omega]
    · simp [hn, show i < n by omega]
  · rw [if_neg h]
    by_cases hi : i < 128
    · have h6 : i - 64 < 64 := by omega
      simp only [BitVec.getLsbD_and, BitVec.getLsbD_not, mh_bit, h6, decide_true, Bool.true_and]
      by_cases hn : n ≤ i
      · rw [show n + (i - n) = i by omega, if_neg h]
        simp [hn, show ¬ i - 64 + 64 < n by omega]
      · simp [hn, show i - 64 + 64 < n by omega]
    · have e : ∀ v : BitVec 64, v.getLsbD (i - 64) = false := fun v => BitVec.getLsbD_of_ge v _ (by omega)
      rw [e]
      by_cases hn : n ≤ i
      · rw [show n + (i - n) = i by omega, if_neg h, e]; simp
      · simp [hn]

theorem upp_adr (k : Nat) (hk : k < 128) (H L : BitVec 64) (h1 : cH (k + 1) H = H) (h2 : cL (k + 1) L = L) : adrN (cH k (fH (k + 1) H)) (cL k (fL (k + 1) L)) = adrN H L + 2 ^ k := by
  have e : adrN H L = adrN H L >>> (k + 1) <<< (k + 1) := by
    have := clr_adr (k + 1) H L
    rw [h1, h2] at this; exact this
  rw [e, Nat.shiftLeft_add_eq_or_of_lt (Nat.pow_lt_pow_right (by omega) (by omega)), ← e]
  apply Nat.eq_of_testBit_eq
  intro i
  have hz : i < k + 1 → (adrN H L).testBit i = false := fun hi => by
    rw [e, Nat.testBit_shiftLeft]; simp; omega
  rw [Nat.testBit_or, Nat.testBit_two_pow, adr_bit, adr_bit] at *
  unfold cH cL fH fL
  by_cases h : i < 64
  · rw [if_pos h] at hz ⊢
    rw [if_pos h]
    simp only [BitVec.getLsbD_and, BitVec.getLsbD_or, BitVec.getLsbD_not, ml_bit, h, decide_true, Bool.true_and]
    by_cases a : i < k
    · rw [hz (by omega)]; simp [a]; omega
    · by_cases b : i = k
      · subst b; simp
      · simp [a, show ¬ i < k + 1 by omega, show ¬ k = i by omega]
  · rw [if_neg h] at hz ⊢
    rw [if_neg h]
    by_cases hi : i < 128
    · have h6 : i - 64 < 64 := by omega
      simp only [BitVec.getLsbD_and, BitVec.getLsbD_or, BitVec.getLsbD_not, mh_bit, h6, decide_true, Bool.true_and]
      by_cases a : i < k
      · rw [hz (by omega)]; simp [show i - 64 + 64 < k by omega]; omega
      · by_cases b : i = k
        · subst b; simp [show ¬ i - 64 + 64 < i by omega, show i - 64 + 64 < i + 1 by omega]
        · simp [show ¬ i - 64 + 64 < k by omega, show ¬ i - 64 + 64 < k + 1 by omega, show ¬ k = i by omega]
    · have ez : ∀ v : BitVec 64, v.getLsbD (i - 64) = false := fun v => BitVec.getLsbD_of_ge v _ (by omega)
      rw [ez, ez]
      simp; omega

theorem ok_mult {x : Sp} (h : x.ok) : x.adr = x.adr / 2 ^ x.n * 2 ^ x.n := by
  have e := clr_adr x.n x.H x.L
  rw [h.2.2.1, h.2.2.2] at e
  rw [Nat.shiftRight_eq_div_pow, Nat.shiftLeft_eq] at e
  exact e
/-- A single address lies in a span. -/
theorem one_in {t x : Sp} (ht : t.n = 0) (hx : x.ok) : wB t x = true ↔ t.s = x.s ∧ x.adr ≤ t.adr ∧ t.adr < x.adr + 2 ^ x.n := by
  have hm := ok_mult hx
  have hp : 0 < 2 ^ x.n := Nat.pow_pos (by omega)
  have e := clr_adr x.n t.H t.L
  rw [Nat.shiftRight_eq_div_pow, Nat.shiftLeft_eq] at e
  rw [wB_iff]
  constructor
  · rintro ⟨_, hs, h1, h2⟩
    rw [h1, h2] at e
    have e2 : x.adr = t.adr / 2 ^ x.n * 2 ^ x.n := e
    refine ⟨hs, ?_, ?_⟩
    · rw [e2]; exact Nat.div_mul_le_self _ _
    · rw [e2]
      have := Nat.lt_div_mul_add (a := t.adr) hp
      omega
  · rintro ⟨hs, h1, h2⟩
    have hq : t.adr / 2 ^ x.n = x.adr / 2 ^ x.n := by
      rw [hm] at h1 h2
      apply Nat.div_eq_of_lt_le
      · exact h1
      · rw [Nat.succ_mul]; exact h2
    have e3 : adrN (cH x.n t.H) (cL x.n t.L) = adrN x.H x.L := by
      rw [e]
      show t.adr / 2 ^ x.n * 2 ^ x.n = x.adr
      rw [hq]; exact hm.symm
    obtain ⟨a, b⟩ := adrN_inj e3
    exact ⟨by omega, hs, a, b⟩

theorem left_head : ∀ (k : Nat) (x : Sp) (T : List Sp), x.ok → x.n = k → (∀ t ∈ T, t.n = 0) →
    (leftM k x T = [] → ∀ m, m < 2 ^ k → ∃ t ∈ T, t.s = x.s ∧ t.adr = x.adr + m) ∧
    (∀ z r, leftM k x T = z :: r → z.s = x.s ∧ ∃ m, m < 2 ^ k ∧ z.adr = x.adr + m ∧ (∀ t ∈ T, t.s = x.s → t.adr ≠ x.adr + m) ∧ ∀ j, j < m → ∃ t ∈ T, t.s = x.s ∧ t.adr = x.adr + j)
  | 0, x, T, hx, hn, hT => by
      unfold leftM
      by_cases ha : T.any (wB x) = true
      · rw [if_pos ha]
        refine ⟨fun _ m hm => ?_, (fun z r h => nomatch h)⟩
        obtain ⟨t, ht, hw⟩ := List.any_eq_true.1 ha
        rw [wB_iff, hT t ht, c0H, c0L] at hw
        have : m = 0 := by simpa using hm
        subst this
        exact ⟨t, ht, hw.2.1.symm, by unfold Sp.adr; rw [hw.2.2.1, hw.2.2.2]; rfl⟩
      · rw [if_neg ha]
        refine ⟨(fun h => nomatch h), fun z r h => ?_⟩
        cases h
        refine ⟨rfl, 0, by simp, by simp, fun t ht hs he => ha ?_, fun j hj => by omega⟩
        obtain ⟨a, b⟩ := adrN_inj (show adrN t.H t.L = adrN x.H x.L from he)
        refine List.any_eq_true.2 ⟨t, ht, ?_⟩
        rw [wB_iff, hT t ht, c0H, c0L]
        exact ⟨by omega, hs.symm, a.symm, b.symm⟩
  | k + 1, x, T, hx, hn, hT => by
      have hxn := hx.2.1
      have hw := wd_le' x.s
      have hpow : (2 : Nat) ^ (k + 1) = 2 ^ k + 2 ^ k := by rw [Nat.pow_succ]; omega
      have hp : 0 < 2 ^ k := Nat.pow_pos (by omega)
      have ha : ¬ T.any (wB x) = true := fun ha => by
        obtain ⟨t, ht, hw⟩ := List.any_eq_true.1 ha
        rw [wB_iff, hT t ht] at hw
        omega
      have hin : ∀ t ∈ T, t.s = x.s → x.adr ≤ t.adr → t.adr < x.adr + 2 ^ (k + 1) → t ∈ T.filter (fun t => wB t x) := fun t ht hs h1 h2 =>
        List.mem_filter.2 ⟨ht, (one_in (hT t ht) hx).2 ⟨hs, h1, by rw [hn]; exact h2⟩⟩
      have hT' : ∀ t ∈ T.filter (fun t => wB t x), t.n = 0 := fun t ht => hT t (List.mem_filter.1 ht).1
      unfold leftM
      rw [if_neg ha]
      by_cases hf : T.filter (fun t => wB t x) = []
      · rw [if_pos hf]
        refine ⟨(fun h => nomatch h), fun z r h => ?_⟩
        cases h
        refine ⟨rfl, 0, by omega, by omega, fun t ht hs he => ?_, fun j hj => by omega⟩
        have := hin t ht hs (by omega) (by omega)
        rw [hf] at this
        cases this
      · rw [if_neg hf]
        have hl := left_head k (lowS x k) (T.filter fun t => wB t x) (low_ok hx hn) rfl hT'
        have hu := left_head k (uppS x k) (T.filter fun t => wB t x) (upp_ok hx hn) rfl hT'
        have el : (lowS x k).adr = x.adr := rfl
        have eu : (uppS x k).adr = x.adr + 2 ^ k := upp_adr k (by omega) x.H x.L (by rw [← hn]; exact hx.2.2.1) (by rw [← hn]; exact hx.2.2.2)
        have sl : (lowS x k).s = x.s := rfl
        have su : (uppS x k).s = x.s := rfl
        rw [el, sl] at hl
        rw [eu, su] at hu
        have up : ∀ {m}, (∃ t ∈ T.filter (fun t => wB t x), t.s = x.s ∧ t.adr = m) → ∃ t ∈ T, t.s = x.s ∧ t.adr = m := fun ⟨t, ht, h⟩ => ⟨t, (List.mem_filter.1 ht).1, h⟩
        cases hlow : leftM k (lowS x k) (T.filter fun t => wB t x) with
        | nil =>
          have h0 := hl.1 hlow
          rw [List.nil_append]
          refine ⟨fun h m hm => ?_, fun z r h => ?_⟩
          · by_cases hm2 : m < 2 ^ k
            · exact up (h0 m hm2)
            · have := hu.1 h (m - 2 ^ k) (by omega)
              rw [show x.adr + 2 ^ k + (m - 2 ^ k) = x.adr + m by omega] at this
              exact up this
          · obtain ⟨hs, m, hm, he, hfr, hbe⟩ := hu.2 z r h
            refine ⟨hs, 2 ^ k + m, by omega, by omega, fun t ht hts hte => ?_, fun j hj => ?_⟩
            · exact hfr t (hin t ht hts (by omega) (by omega)) hts (by omega)
            · by_cases hj2 : j < 2 ^ k
              · exact up (h0 j hj2)
              · have := hbe (j - 2 ^ k) (by omega)
                rw [show x.adr + 2 ^ k + (j - 2 ^ k) = x.adr + j by omega] at this
                exact up this
        | cons z0 r0 =>
          rw [List.cons_append]
          refine ⟨(fun h => nomatch h), fun z r h => ?_⟩
          cases h
          obtain ⟨hs, m, hm, he, hfr, hbe⟩ := hl.2 z0 r0 hlow
          refine ⟨hs, m, by omega, he, fun t ht hts hte => ?_, fun j hj => up (hbe j hj)⟩
          exact hfr t (hin t ht hts (by omega) (by omega)) hts hte

end Go.Proofs.YtmbmekcppmbokaaGreat
