/-
  Addresses as numbers: what is left of a span where single addresses are taken begins with the least place that is free. Plain mathematics.
-/
import Derived.Test.YtgohffeneibhdaaPLeft
namespace Go.Proofs.Ytgohffeneibhdaa
open Go.RowKit

/-- An address as a number. -/
def adrN (H L : BitVec 64) : Nat := (H ++ L).toNat
def Sp.adr (x : Sp) : Nat := adrN x.H x.L

theorem adrN_inj {H L H' L' : BitVec 64} (h : adrN H L = adrN H' L') : H = H' ∧ L = L' := by
  have e : H ++ L = H' ++ L' := BitVec.eq_of_toNat_eq h
  constructor
  · apply BitVec.eq_of_getLsbD_eq
    intro i hi
    have := congrArg (fun v => v.getLsbD (64 + i)) e
    rw [BitVec.getLsbD_append, BitVec.getLsbD_append, if_neg (by omega), if_neg (by omega), Nat.add_sub_cancel_left] at this
    exact this
  · apply BitVec.eq_of_getLsbD_eq
    intro i hi
    have := congrArg (fun v => v.getLsbD i) e
    rw [BitVec.getLsbD_append, BitVec.getLsbD_append, if_pos hi, if_pos hi] at this
    exact this
theorem adr_bit (H L : BitVec 64) (i : Nat) : (adrN H L).testBit i = if i < 64 then L.getLsbD i else H.getLsbD (i - 64) := by
  unfold adrN
  rw [BitVec.testBit_toNat, BitVec.getLsbD_append]
theorem adr_lt (H L : BitVec 64) : adrN H L < 2 ^ 128 := (H ++ L).isLt

theorem clr_adr (n : Nat) (H L : BitVec 64) : adrN (cH n H) (cL n L) = adrN H L >>> n <<< n := by
  apply Nat.eq_of_testBit_eq
  intro i
  rw [adr_bit, Nat.testBit_shiftLeft, Nat.testBit_shiftRight, adr_bit]
  unfold cH cL
  by_cases h : i < 64
  · rw [if_pos h]
    simp only [BitVec.getLsbD_and, BitVec.getLsbD_not, ml_bit, h, decide_true, Bool.true_and]
    by_cases hn : n ≤ i
    · rw [show n + (i - n) = i by omega, if_pos h]
      simp [hn, show ¬ i < n by omega]
    · simp [hn, show i < n by omega]
  · rw [if_neg h]
    by_cases hi : i < 128
    · have h6 : i - 64 < 64 := by omega
      simp only [BitVec.getLsbD_and, BitVec.getLsbD_not, mh_bit, h6, decide_true, Bool.true_and]
      by_cases hn : n ≤ i
      · rw [show n + (i - n) = i by omega, if_neg h]
        simp [hn, show ¬ i - 64 + 64 < n by omega]
      · simp [hn, show i - 64 + 64 < n by omega]
    · have e : ∀ v : BitVec 64, v.getLsbD (i - 64) = false := fun v => BitVec.getLsbD_of_ge v _ (by omega)
      rw [e]
      by_cases hn : n ≤ i
      · rw [show n + (i - n) = i by omega, if_neg h, e]; simp
      · simp [hn]

theorem upp_adr (k : Nat) (hk : k < 128) (H L : BitVec 64) (h1 : cH (k + 1) H = H) (h2 : cL (k + 1) L = L) : adrN (cH k (fH (k + 1) H)) (cL k (fL (k + 1) L)) = adrN H L + 2 ^ k := by
  have e : adrN H L = adrN H L >>> (k + 1) <<< (k + 1) := by
    have := clr_adr (k + 1) H L
    rw [h1, h2] at this; exact this
  rw [e, Nat.shiftLeft_add_eq_or_of_lt (Nat.pow_lt_pow_right (by omega) (by omega)), ← e]
  apply Nat.eq_of_testBit_eq
  intro i
  have hz : i < k + 1 → (adrN H L).testBit i = false := fun hi => by
    rw [e, Nat.testBit_shiftLeft]; simp; omega
  rw [Nat.testBit_or, Nat.testBit_two_pow, adr_bit, adr_bit] at *
  unfold cH cL fH fL
  by_cases h : i < 64
  · rw [if_pos h] at hz ⊢
    rw [if_pos h]
    simp only [BitVec.getLsbD_and, BitVec.getLsbD_or, BitVec.getLsbD_not, ml_bit, h, decide_true, Bool.true_and]
    by_cases a : i < k
    · rw [hz (by omega)]; simp [a]; omega
    · by_cases b : i = k
      · subst b; simp
      · simp [a, show ¬ i < k + 1 by omega, show ¬ k = i by omega]
  · rw [if_neg h] at hz ⊢
    rw [if_neg h]
    by_cases hi : i < 128
    · have h6 : i - 64 < 64 := by omega
      simp only [BitVec.getLsbD_and, BitVec.getLsbD_or, BitVec.getLsbD_not, mh_bit, h6, decide_true, Bool.true_and]
      by_cases a : i < k
      · rw [hz (by omega)]; simp [show i - 64 + 64 < k by omega]; omega
      · by_cases b : i = k
        · subst b; simp [show ¬ i - 64 + 64 < i by omega, show i - 64 + 64 < i + 1 by omega]
        · simp [show ¬ i - 64 + 64 < k by omega, show ¬ i - 64 + 64 < k + 1 by omega, show ¬ k = i by omega]
    · have ez : ∀ v : BitVec 64, v.getLsbD (i - 64) = false := fun v => BitVec.getLsbD_of_ge v _ (by omega)
      rw [ez, ez]
      simp; omega

theorem ok_mult {x : Sp} (h : x.ok) : x.adr = x.adr / 2 ^ x.n * 2 ^ x.n := by
  have e := clr_adr x.n x.H x.L
  rw [h.2.2.1, h.2.2.2] at e
  rw [Nat.shiftRight_eq_div_pow, Nat.shiftLeft_eq] at e
  exact e
/-- A single address lies in a span. -/
theorem one_in {t x : Sp} (ht : t.n = 0) (hx : x.ok) : wB t x = true ↔ t.s = x.s ∧ x.adr ≤ t.adr ∧ t.adr < x.adr + 2 ^ x.n := by
  have hm := ok_mult hx
  have hp : 0 < 2 ^ x.n := Nat.pow_pos (by omega)
  have e := clr_adr x.n t.H t.L
  rw [Nat.shiftRight_eq_div_pow, Nat.shiftLeft_eq] at e
  rw [wB_iff]
  constructor
  · rintro ⟨_, hs, h1, h2⟩
    rw [h1, h2] at e
    have e2 : x.adr = t.adr / 2 ^ x.n * 2 ^ x.n := e
    refine ⟨hs, ?_, ?_⟩
    · rw [e2]; exact Nat.div_mul_le_self _ _
    · rw [e2]
      have := Nat.lt_div_mul_add (a := t.adr) hp
      omega
  · rintro ⟨hs, h1, h2⟩
    have hq : t.adr / 2 ^ x.n = x.adr / 2 ^ x.n := by
      rw [hm] at h1 h2
      apply Nat.div_eq_of_lt_le
      · exact h1
      · rw [Nat.succ_mul]; exact h2
    have e3 : adrN (cH x.n t.H) (cL x.n t.L) = adrN x.H x.L := by
      rw [e]
      show t.adr / 2 ^ x.n * 2 ^ x.n = x.adr
      rw [hq]; exact hm.symm
    obtain ⟨a, b⟩ := adrN_inj e3
    exact ⟨by omega, hs, a, b⟩

theorem left_head : ∀ (k : Nat) (x : Sp) (T : List Sp), x.ok → x.n = k → (∀ t ∈ T, t.n = 0) →
    (leftM k x T = [] → ∀ m, m < 2 ^ k → ∃ t ∈ T, t.s = x.s ∧ t.adr = x.adr + m) ∧
    (∀ z r, leftM k x T = z :: r → z.s = x.s ∧ ∃ m, m < 2 ^ k ∧ z.adr = x.adr + m ∧ (∀ t ∈ T, t.s = x.s → t.adr ≠ x.adr + m) ∧ ∀ j, j < m → ∃ t ∈ T, t.s = x.s ∧ t.adr = x.adr + j)
  | 0, x, T, hx, hn, hT => by
      unfold leftM
      by_cases ha : T.any (wB x) = true
      · rw [if_pos ha]
        refine ⟨fun _ m hm => ?_, (fun z r h => nomatch h)⟩
        obtain ⟨t, ht, hw⟩ := List.any_eq_true.1 ha
        rw [wB_iff, hT t ht, c0H, c0L] at hw
        have : m = 0 := by simpa using hm
        subst this
        exact ⟨t, ht, hw.2.1.symm, by unfold Sp.adr; rw [hw.2.2.1, hw.2.2.2]; rfl⟩
      · rw [if_neg ha]
        refine ⟨(fun h => nomatch h), fun z r h => ?_⟩
        cases h
        refine ⟨rfl, 0, by simp, by simp, fun t ht hs he => ha ?_, fun j hj => by omega⟩
        obtain ⟨a, b⟩ := adrN_inj (show adrN t.H t.L = adrN x.H x.L from he)
        refine List.any_eq_true.2 ⟨t, ht, ?_⟩
        rw [wB_iff, hT t ht, c0H, c0L]
        exact ⟨by omega, hs.symm, a.symm, b.symm⟩
  | k + 1, x, T, hx, hn, hT => by
      have hxn := hx.2.1
      have hw := wd_le' x.s
      have hpow : (2 : Nat) ^ (k + 1) = 2 ^ k + 2 ^ k := by rw [Nat.pow_succ]; omega
      have hp : 0 < 2 ^ k := Nat.pow_pos (by omega)
      have ha : ¬ T.any (wB x) = true := fun ha => by
        obtain ⟨t, ht, hw⟩ := List.any_eq_true.1 ha
        rw [wB_iff, hT t ht] at hw
        omega
      have hin : ∀ t ∈ T, t.s = x.s → x.adr ≤ t.adr → t.adr < x.adr + 2 ^ (k + 1) → t ∈ T.filter (fun t => wB t x) := fun t ht hs h1 h2 =>
        List.mem_filter.2 ⟨ht, (one_in (hT t ht) hx).2 ⟨hs, h1, by rw [hn]; exact h2⟩⟩
      have hT' : ∀ t ∈ T.filter (fun t => wB t x), t.n = 0 := fun t ht => hT t (List.mem_filter.1 ht).1
      unfold leftM
      rw [if_neg ha]
      by_cases hf : T.filter (fun t => wB t x) = []
      · rw [if_pos hf]
        refine ⟨(fun h => nomatch h), fun z r h => ?_⟩
        cases h
        refine ⟨rfl, 0, by omega, by omega, fun t ht hs he => ?_, fun j hj => by omega⟩
        have := hin t ht hs (by omega) (by omega)
        rw [hf] at this
        cases this
      · rw [if_neg hf]
        have hl := left_head k (lowS x k) (T.filter fun t => wB t x) (low_ok hx hn) rfl hT'
        have hu := left_head k (uppS x k) (T.filter fun t => wB t x) (upp_ok hx hn) rfl hT'
        have el : (lowS x k).adr = x.adr := rfl
        have eu : (uppS x k).adr = x.adr + 2 ^ k := upp_adr k (by omega) x.H x.L (by rw [← hn]; exact hx.2.2.1) (by rw [← hn]; exact hx.2.2.2)
        have sl : (lowS x k).s = x.s := rfl
        have su : (uppS x k).s = x.s := rfl
        rw [el, sl] at hl
        rw [eu, su] at hu
        have up : ∀ {m}, (∃ t ∈ T.filter (fun t => wB t x), t.s = x.s ∧ t.adr = m) → ∃ t ∈ T, t.s = x.s ∧ t.adr = m := fun ⟨t, ht, h⟩ => ⟨t, (List.mem_filter.1 ht).1, h⟩
        cases hlow : leftM k (lowS x k) (T.filter fun t => wB t x) with
        | nil =>
          have h0 := hl.1 hlow
          rw [List.nil_append]
          refine ⟨fun h m hm => ?_, fun z r h => ?_⟩
          · by_cases hm2 : m < 2 ^ k
            · exact up (h0 m hm2)
            · have := hu.1 h (m - 2 ^ k) (by omega)
              rw [show x.adr + 2 ^ k + (m - 2 ^ k) = x.adr + m by omega] at this
              exact up this
          · obtain ⟨hs, m, hm, he, hfr, hbe⟩ := hu.2 z r h
            refine ⟨hs, 2 ^ k + m, by omega, by omega, fun t ht hts hte => ?_, fun j hj => ?_⟩
            · exact hfr t (hin t ht hts (by omega) (by omega)) hts (by omega)
            · by_cases hj2 : j < 2 ^ k
              · exact up (h0 j hj2)
              · have := hbe (j - 2 ^ k) (by omega)
                rw [show x.adr + 2 ^ k + (j - 2 ^ k) = x.adr + j by omega] at this
                exact up this
        | cons z0 r0 =>
          rw [List.cons_append]
          refine ⟨(fun h => nomatch h), fun z r h => ?_⟩
          cases h
          obtain ⟨hs, m, hm, he, hfr, hbe⟩ := hl.2 z0 r0 hlow
          refine ⟨hs, m, by omega, he, fun t ht hts hte => ?_, fun j hj => up (hbe j hj)⟩
          exact hfr t (hin t ht hts (by omega) (by omega)) hts hte

end Go.Proofs.Ytgohffeneibhdaa

namespace Go.Proofs.Ytgohffeneibhdaa
open Go.RowKit

theorem cHH (n m : Nat) (h : n ≤ m) (H : BitVec 64) : cH m (cH n H) = cH m H := by
  apply BitVec.eq_of_getLsbD_eq
  intro i hi
  simp only [cH, BitVec.getLsbD_and, BitVec.getLsbD_not, mh_bit, hi, decide_true, Bool.true_and]
  by_cases a : i + 64 < n <;> by_cases b : i + 64 < m <;> simp [a, b] <;> omega
theorem cLL (n m : Nat) (h : n ≤ m) (L : BitVec 64) : cL m (cL n L) = cL m L := by
  apply BitVec.eq_of_getLsbD_eq
  intro i hi
  simp only [cL, BitVec.getLsbD_and, BitVec.getLsbD_not, ml_bit, hi, decide_true, Bool.true_and]
  by_cases a : i < n <;> by_cases b : i < m <;> simp [a, b] <;> omega
theorem cHd (n m : Nat) (h : n ≤ m) (H : BitVec 64) : cH n (cH m H) = cH m H := by
  apply BitVec.eq_of_getLsbD_eq
  intro i hi
  simp only [cH, BitVec.getLsbD_and, BitVec.getLsbD_not, mh_bit, hi, decide_true, Bool.true_and]
  by_cases a : i + 64 < n <;> by_cases b : i + 64 < m <;> simp [a, b] <;> omega
theorem cLd (n m : Nat) (h : n ≤ m) (L : BitVec 64) : cL n (cL m L) = cL m L := by
  apply BitVec.eq_of_getLsbD_eq
  intro i hi
  simp only [cL, BitVec.getLsbD_and, BitVec.getLsbD_not, ml_bit, hi, decide_true, Bool.true_and]
  by_cases a : i < n <;> by_cases b : i < m <;> simp [a, b] <;> omega
theorem wB_trans {a b c : Sp} (h1 : wB a b = true) (h2 : wB b c = true) : wB a c = true := by
  obtain ⟨n1, s1, e1, f1⟩ := (wB_iff _ _).1 h1
  obtain ⟨n2, s2, e2, f2⟩ := (wB_iff _ _).1 h2
  exact (wB_iff _ _).2 ⟨by omega, s1.trans s2, by rw [← e2, ← e1, cHH _ _ n2], by rw [← f2, ← f1, cLL _ _ n2]⟩
theorem wB_nest {z t x : Sp} (h1 : wB z t = true) (h2 : wB z x = true) : wB t x = true ∨ wB x t = true := by
  obtain ⟨n1, s1, e1, f1⟩ := (wB_iff _ _).1 h1
  obtain ⟨n2, s2, e2, f2⟩ := (wB_iff _ _).1 h2
  rcases Nat.le_total t.n x.n with h | h
  · left
    exact (wB_iff _ _).2 ⟨h, s1.symm.trans s2, by rw [← e1, cHH _ _ h, e2], by rw [← f1, cLL _ _ h, f2]⟩
  · right
    exact (wB_iff _ _).2 ⟨h, s2.symm.trans s1, by rw [← e2, cHH _ _ h, e1], by rw [← f2, cLL _ _ h, f1]⟩
theorem wB_self {x : Sp} (hx : x.ok) : wB x x = true := (wB_iff _ _).2 ⟨Nat.le_refl _, rfl, hx.2.2.1, hx.2.2.2⟩
/-- The first part of a span with so many free bits. -/
def subN (z : Sp) (s : Nat) : Sp := ⟨z.s, z.H, z.L, s⟩
theorem subN_ok {z : Sp} (hz : z.ok) {s : Nat} (hs : s ≤ z.n) : (subN z s).ok :=
  ⟨hz.1, Nat.le_trans hs hz.2.1, by show cH s z.H = z.H; rw [← hz.2.2.1, cHd _ _ hs], by show cL s z.L = z.L; rw [← hz.2.2.2, cLd _ _ hs]⟩
theorem subN_in {z : Sp} (hz : z.ok) {s : Nat} (hs : s ≤ z.n) : wB (subN z s) z = true := (wB_iff _ _).2 ⟨hs, rfl, hz.2.2.1, hz.2.2.2⟩
theorem wB_num {t x : Sp} (hx : x.ok) : wB t x = true ↔ t.n ≤ x.n ∧ t.s = x.s ∧ x.adr ≤ t.adr ∧ t.adr < x.adr + 2 ^ x.n := by
  have h := one_in (t := subN t 0) (x := x) rfl hx
  have e : wB t x = true ↔ t.n ≤ x.n ∧ wB (subN t 0) x = true := by
    rw [wB_iff, wB_iff]
    constructor
    · rintro ⟨a, b, c, d⟩; exact ⟨a, Nat.zero_le _, b, c, d⟩
    · rintro ⟨a, _, b, c, d⟩; exact ⟨a, b, c, d⟩
  rw [e, h]
  exact Iff.rfl
theorem upp_num {x : Sp} {k : Nat} (hx : x.ok) (hn : x.n = k + 1) : (uppS x k).adr = x.adr + 2 ^ k := upp_adr k (by have := hx.le; omega) x.H x.L (by rw [← hn]; exact hx.2.2.1) (by rw [← hn]; exact hx.2.2.2)
/-- What lies in a span, and is less, lies in one of its halves, and does not touch the other one. -/
theorem half_in {x p : Sp} {k : Nat} (hx : x.ok) (hn : x.n = k + 1) (hp : p.ok) (hw : wB p x = true) (hk : p.n ≤ k) :
    (wB p (lowS x k) = true ∧ wB p (uppS x k) = false ∧ wB (uppS x k) p = false ∧ p.adr < x.adr + 2 ^ k) ∨ (wB p (uppS x k) = true ∧ wB p (lowS x k) = false ∧ wB (lowS x k) p = false ∧ x.adr + 2 ^ k ≤ p.adr) := by
  have hl := low_ok hx hn
  have hu := upp_ok hx hn
  have eu := upp_num hx hn
  have el : (lowS x k).adr = x.adr := rfl
  obtain ⟨h1, h2, h3, h4⟩ := (wB_num hx).1 hw
  have hpow : (2 : Nat) ^ (k + 1) = 2 ^ k + 2 ^ k := by rw [Nat.pow_succ]; omega
  rw [hn, hpow] at h4
  by_cases hc : p.adr < x.adr + 2 ^ k
  · have a1 : wB p (lowS x k) = true := (wB_num hl).2 ⟨hk, h2, h3, hc⟩
    have a2 : wB p (uppS x k) = false := by
      rw [Bool.eq_false_iff]; intro h
      exact halves_part hx hn a1 h
    refine Or.inl ⟨a1, a2, ?_, hc⟩
    rw [Bool.eq_false_iff]; intro h
    have h5 := (wB_num hp).1 h
    have e : p.n = k := by have : k ≤ p.n := h5.1; omega
    have : wB p (uppS x k) = true := by
      obtain ⟨n1, s1, e1, f1⟩ := (wB_iff _ _).1 h
      have b1 : cH k (uppS x k).H = (uppS x k).H := hu.2.2.1
      have b2 : cL k (uppS x k).L = (uppS x k).L := hu.2.2.2
      rw [e] at e1 f1
      rw [b1] at e1; rw [b2] at f1
      refine (wB_iff _ _).2 ⟨hk, s1.symm, ?_, ?_⟩
      · show cH k p.H = (uppS x k).H; rw [← e1, b1]
      · show cL k p.L = (uppS x k).L; rw [← f1, b2]
    rw [a2] at this; cases this
  · have a1 : wB p (uppS x k) = true := (wB_num hu).2 ⟨hk, h2, by rw [eu]; omega, by rw [eu]; show p.adr < x.adr + 2 ^ k + 2 ^ k; omega⟩
    have a2 : wB p (lowS x k) = false := by
      rw [Bool.eq_false_iff]; intro h
      exact halves_part hx hn h a1
    refine Or.inr ⟨a1, a2, ?_, by omega⟩
    rw [Bool.eq_false_iff]; intro h
    have h5 := ((wB_num hp).1 h).2.2.1
    rw [el] at h5
    have : 0 < 2 ^ k := Nat.pow_pos (by omega)
    omega
/-- Free of a list: none lies in it, and it lies in none. -/
def Fr (p : Sp) (l : List Sp) : Prop := ∀ t ∈ l, wB p t = false ∧ wB t p = false
theorem Fr.filter {p : Sp} {l : List Sp} (h : Fr p l) (f : Sp → Bool) : Fr p (l.filter f) := fun t ht => h t (List.mem_filter.1 ht).1
theorem left_apart (k : Nat) (x p : Sp) (l : List Sp) (h1 : wB p x = false) (h2 : wB x p = false) : leftM k x (l ++ [p]) = leftM k x l := by
  have ea : (l ++ [p]).any (wB x) = l.any (wB x) := by rw [List.any_append]; simp [h2]
  have ef : (l ++ [p]).filter (fun t => wB t x) = l.filter (fun t => wB t x) := by rw [List.filter_append]; simp [h1]
  cases k with
  | zero => unfold leftM; rw [ea]
  | succ k => unfold leftM; rw [ea, ef]
def sumR (s : Nat) : List Sp → Nat
  | [] => 0
  | z :: r => (if s ≤ z.n then 2 ^ (z.n - s) else 0) + sumR s r
theorem sumR_app (s : Nat) : ∀ a b : List Sp, sumR s (a ++ b) = sumR s a + sumR s b
  | [], b => by simp [sumR]
  | z :: r, b => by simp only [List.cons_append, sumR, sumR_app s r b]; omega
theorem left_nil {k : Nat} {x : Sp} : leftM k x [] = [x] := by
  cases k <;> simp [leftM]
theorem left_one : ∀ (k : Nat) (x : Sp) (l : List Sp) (p : Sp), x.ok → x.n = k → p.ok → wB p x = true → Fr p l → sumR p.n (leftM k x (l ++ [p])) + 1 = sumR p.n (leftM k x l) := by
  intro k
  induction k with
  | zero =>
    intro x l p hx hn hp hw hf
    have hpn : p.n = 0 := by have := ((wB_iff _ _).1 hw).1; omega
    have ha : l.any (wB x) = false := by
      rw [Bool.eq_false_iff]; intro h
      obtain ⟨t, ht, hxt⟩ := List.any_eq_true.1 h
      have := (hf t ht).1
      rw [wB_trans hw hxt] at this; cases this
    have hxp : wB x p = true := by
      rcases wB_nest (wB_self hp) hw with h | h
      · obtain ⟨n1, s1, e1, f1⟩ := (wB_iff _ _).1 h
        rw [hn, c0H] at e1
        rw [hn, c0L] at f1
        exact (wB_iff _ _).2 ⟨by omega, s1.symm, by rw [hpn, c0H, e1], by rw [hpn, c0L, f1]⟩
      · exact h
    unfold leftM
    rw [if_pos (show (l ++ [p]).any (wB x) = true by rw [List.any_append, ha]; simp [hxp]), if_neg (show ¬ l.any (wB x) = true by rw [ha]; simp)]
    simp [sumR, hpn, hn]
  | succ k ih =>
    intro x l p hx hn hp hw hf
    have ha : l.any (wB x) = false := by
      rw [Bool.eq_false_iff]; intro h
      obtain ⟨t, ht, hxt⟩ := List.any_eq_true.1 h
      have := (hf t ht).1
      rw [wB_trans hw hxt] at this; cases this
    have ef : (l ++ [p]).filter (fun t => wB t x) = l.filter (fun t => wB t x) ++ [p] := by rw [List.filter_append]; simp [hw]
    have hl := low_ok hx hn
    have hu := upp_ok hx hn
    cases hxp : wB x p
    · -- less than the whole
      have hpk : p.n ≤ k := by
        rcases Nat.lt_or_ge k p.n with h | h
        · exfalso
          have h1 := ((wB_iff _ _).1 hw).1
          have e : p.n = x.n := by omega
          obtain ⟨_, s1, e1, f1⟩ := (wB_iff _ _).1 hw
          have b1 := hp.2.2.1
          have b2 := hp.2.2.2
          rw [e] at b1 b2
          rw [b1] at e1; rw [b2] at f1
          have : wB x p = true := (wB_iff _ _).2 ⟨by omega, s1.symm, by rw [e, ← e1, b1], by rw [e, ← f1, b2]⟩
          rw [hxp] at this; cases this
        · exact h
      have key : ∀ N : List Sp, Fr p N → sumR p.n (leftM k (lowS x k) (N ++ [p]) ++ leftM k (uppS x k) (N ++ [p])) + 1 = sumR p.n (leftM k (lowS x k) N ++ leftM k (uppS x k) N) := fun N hN => by
        rw [sumR_app, sumR_app]
        rcases half_in hx hn hp hw hpk with ⟨a1, a2, a3, _⟩ | ⟨a1, a2, a3, _⟩
        · rw [left_apart k (uppS x k) p N a2 a3]
          have := ih (lowS x k) N p hl rfl hp a1 hN
          omega
        · rw [left_apart k (lowS x k) p N a2 a3]
          have := ih (uppS x k) N p hu rfl hp a1 hN
          omega
      have e1 : leftM (k + 1) x (l ++ [p]) = leftM k (lowS x k) (l.filter (fun t => wB t x) ++ [p]) ++ leftM k (uppS x k) (l.filter (fun t => wB t x) ++ [p]) := by
        conv => lhs; unfold leftM
        rw [if_neg (by rw [List.any_append, ha]; simp [hxp]), ef, if_neg (by simp)]
      rw [e1]
      by_cases hfe : l.filter (fun t => wB t x) = []
      · have e2 : leftM (k + 1) x l = [x] := by
          conv => lhs; unfold leftM
          rw [if_neg (by rw [ha]; simp), if_pos hfe]
        rw [e2, hfe]
        have h1 := key [] (fun t ht => by cases ht)
        rw [left_nil, left_nil] at h1
        have h2 : sumR p.n ([lowS x k] ++ [uppS x k]) = 2 ^ (k - p.n) + 2 ^ (k - p.n) := by
          have c1 : (lowS x k).n = k := rfl
          have c2 : (uppS x k).n = k := rfl
          simp only [List.cons_append, List.nil_append, sumR, c1, c2, hpk, if_true]; omega
        have h3 : sumR p.n [x] = 2 ^ (k - p.n) + 2 ^ (k - p.n) := by
          have : p.n ≤ x.n := by omega
          show (if p.n ≤ x.n then 2 ^ (x.n - p.n) else 0) + 0 = _
          rw [if_pos this, hn, show k + 1 - p.n = (k - p.n) + 1 by omega, Nat.pow_succ]; omega
        rw [h2] at h1
        rw [h3]; exact h1
      · have e2 : leftM (k + 1) x l = leftM k (lowS x k) (l.filter (fun t => wB t x)) ++ leftM k (uppS x k) (l.filter (fun t => wB t x)) := by
          conv => lhs; unfold leftM
          rw [if_neg (by rw [ha]; simp), if_neg hfe]
        rw [e2]
        exact key _ (hf.filter _)
    · -- the whole
      have e : p.n = k + 1 := by have h1 := ((wB_iff _ _).1 hw).1; have h2 := ((wB_iff _ _).1 hxp).1; omega
      have hfe : l.filter (fun t => wB t x) = [] := by
        rw [List.filter_eq_nil_iff]
        intro t ht h
        have := (hf t ht).2
        rw [wB_trans h hxp] at this; cases this
      have e1 : leftM (k + 1) x (l ++ [p]) = [] := by
        unfold leftM
        rw [if_pos (by rw [List.any_append]; simp [hxp])]
      have e2 : leftM (k + 1) x l = [x] := by
        conv => lhs; unfold leftM
        rw [if_neg (by rw [ha]; simp), if_pos hfe]
      rw [e1, e2]
      simp [sumR, e, hn]
/-- Each part that is left is right, lies in the span, and touches nothing that is taken. -/
theorem left_part : ∀ (k : Nat) (x : Sp) (l : List Sp), x.ok → x.n = k → ∀ z ∈ leftM k x l, z.ok ∧ wB z x = true ∧ Fr z l := by
  intro k
  induction k with
  | zero =>
    intro x l hx hn z hz
    unfold leftM at hz
    split at hz
    · cases hz
    · rename_i ha
      have : z = x := by simpa using hz
      subst this
      refine ⟨hx, wB_self hx, fun t ht => ⟨?_, ?_⟩⟩
      · rw [Bool.eq_false_iff]; intro h; exact ha (List.any_eq_true.2 ⟨t, ht, h⟩)
      · rw [Bool.eq_false_iff]; intro h
        exact ha (near_zero hn (l := l) (fun hf => by
          have h5 : t ∈ l.filter (fun t => wB t z) := List.mem_filter.2 ⟨ht, h⟩
          rw [hf] at h5; cases h5))
  | succ k ih =>
    intro x l hx hn z hz
    unfold leftM at hz
    split at hz
    · cases hz
    · rename_i ha
      split at hz
      · rename_i hf
        have : z = x := by simpa using hz
        subst this
        refine ⟨hx, wB_self hx, fun t ht => ⟨?_, ?_⟩⟩
        · rw [Bool.eq_false_iff]; intro h; exact ha (List.any_eq_true.2 ⟨t, ht, h⟩)
        · rw [Bool.eq_false_iff]; intro h
          have h5 : t ∈ l.filter (fun t => wB t z) := List.mem_filter.2 ⟨ht, h⟩
          rw [hf] at h5; cases h5
      · have hl := low_ok hx hn
        have hu := upp_ok hx hn
        have inx : wB (lowS x k) x = true ∧ wB (uppS x k) x = true := by
          have hp : 0 < 2 ^ k := Nat.pow_pos (by omega)
          have hpow : (2 : Nat) ^ (k + 1) = 2 ^ k + 2 ^ k := by rw [Nat.pow_succ]; omega
          have eu := upp_num hx hn
          have el : (lowS x k).adr = x.adr := rfl
          exact ⟨(wB_num hx).2 ⟨by show k ≤ x.n; omega, rfl, by omega, by rw [hn, hpow, el]; omega⟩, (wB_num hx).2 ⟨by show k ≤ x.n; omega, rfl, by omega, by rw [hn, hpow, eu]; omega⟩⟩
        have fin : ∀ y : Sp, z.ok → wB z y = true → wB y x = true → Fr z (l.filter fun t => wB t x) → z.ok ∧ wB z x = true ∧ Fr z l := fun y hzo hzy hyx hfr => by
          have hzx := wB_trans hzy hyx
          refine ⟨hzo, hzx, fun t ht => ?_⟩
          cases htx : wB t x
          · refine ⟨?_, ?_⟩
            · rw [Bool.eq_false_iff]; intro h
              rcases wB_nest h hzx with h1 | h1
              · rw [htx] at h1; cases h1
              · exact ha (List.any_eq_true.2 ⟨t, ht, h1⟩)
            · rw [Bool.eq_false_iff]; intro h
              rw [wB_trans h hzx] at htx; cases htx
          · exact hfr t (List.mem_filter.2 ⟨ht, htx⟩)
        rcases List.mem_append.1 hz with h | h
        · obtain ⟨a, b, c⟩ := ih (lowS x k) _ hl rfl z h
          exact fin _ a b inx.1 c
        · obtain ⟨a, b, c⟩ := ih (uppS x k) _ hu rfl z h
          exact fin _ a b inx.2 c
def rmB (s : Nat) (z : Sp) : Bool := decide (s ≤ z.n)
/-- With the first one taken, the next one is farther on. -/
theorem left_next : ∀ (k : Nat) (x : Sp) (l : List Sp) (s : Nat) (z : Sp) (r : List Sp), x.ok → x.n = k → (leftM k x l).filter (rmB s) = z :: r → ∀ z' ∈ (leftM k x (l ++ [subN z s])).filter (rmB s), z.adr < z'.adr := by
  intro k
  induction k with
  | zero =>
    intro x l s z r hx hn hz z' hz'
    have hm : z ∈ (leftM 0 x l).filter (rmB s) := by rw [hz]; exact List.mem_cons_self ..
    obtain ⟨hm, hs⟩ := List.mem_filter.1 hm
    have hs : s ≤ z.n := of_decide_eq_true hs
    unfold leftM at hm
    split at hm
    · cases hm
    · rename_i ha
      have e : z = x := by simpa using hm
      subst e
      exfalso
      unfold leftM at hz'
      rw [if_pos (by
        rw [List.any_append]
        have : wB z (subN z s) = true := by
          have hs0 : s = z.n := by omega
          subst hs0
          exact wB_self hx
        simp [this])] at hz'
      simp at hz'
  | succ k ih =>
    intro x l s z r hx hn hz z' hz'
    have hm : z ∈ (leftM (k + 1) x l).filter (rmB s) := by rw [hz]; exact List.mem_cons_self ..
    obtain ⟨hm, hs⟩ := List.mem_filter.1 hm
    have hs : s ≤ z.n := of_decide_eq_true hs
    obtain ⟨hzo, hzx, hzf⟩ := left_part (k + 1) x l hx hn z hm
    have hl := low_ok hx hn
    have hu := upp_ok hx hn
    have eu := upp_num hx hn
    have el : (lowS x k).adr = x.adr := rfl
    have hp : 0 < 2 ^ k := Nat.pow_pos (by omega)
    have po := subN_ok hzo hs
    have pin := subN_in hzo hs
    have pa : (subN z s).adr = z.adr := rfl
    have pn : (subN z s).n = s := rfl
    generalize hP : subN z s = p at *
    have hpx := wB_trans pin hzx
    have ef : (l ++ [p]).filter (fun t => wB t x) = l.filter (fun t => wB t x) ++ [p] := by rw [List.filter_append]; simp [hpx]
    by_cases ha : l.any (wB x) = true
    · exfalso
      unfold leftM at hm
      rw [if_pos ha] at hm
      cases hm
    · have ha' : l.any (wB x) = false := by simpa using ha
      cases hxp : wB x p
      · have hpk : p.n ≤ k := by
          rcases Nat.lt_or_ge k p.n with h | h
          · exfalso
            have h1 := ((wB_iff _ _).1 hpx).1
            have e : p.n = x.n := by omega
            obtain ⟨_, s1, e1, f1⟩ := (wB_iff _ _).1 hpx
            have b1 := po.2.2.1
            have b2 := po.2.2.2
            rw [e] at b1 b2
            rw [b1] at e1; rw [b2] at f1
            have : wB x p = true := (wB_iff _ _).2 ⟨by omega, s1.symm, by rw [e, ← e1, b1], by rw [e, ← f1, b2]⟩
            rw [hxp] at this; cases this
          · exact h
        have e1 : leftM (k + 1) x (l ++ [p]) = leftM k (lowS x k) (l.filter (fun t => wB t x) ++ [p]) ++ leftM k (uppS x k) (l.filter (fun t => wB t x) ++ [p]) := by
          conv => lhs; unfold leftM
          rw [if_neg (by rw [List.any_append, ha']; simp [hxp]), ef, if_neg (by simp)]
        rw [e1, List.filter_append] at hz'
        -- the halves' parts, of a list N whose first part with room is z
        have key : ∀ N : List Sp, (∃ r', (leftM k (lowS x k) N ++ leftM k (uppS x k) N).filter (rmB s) = (if wB p (lowS x k) = true then (leftM k (lowS x k) N).filter (rmB s) else []) ++ r') → True := fun _ _ => trivial
        clear key
        have go : ∀ N : List Sp, z'  ∈ (leftM k (lowS x k) (N ++ [p])).filter (rmB s) ++ (leftM k (uppS x k) (N ++ [p])).filter (rmB s) →
            (wB p (lowS x k) = true → ∃ y r', (leftM k (lowS x k) N).filter (rmB s) = y :: r' ∧ subN y s = p) → (wB p (uppS x k) = true → (leftM k (lowS x k) N).filter (rmB s) = [] ∧ ∃ y r', (leftM k (uppS x k) N).filter (rmB s) = y :: r' ∧ subN y s = p) → z.adr < z'.adr := fun N hN h1 h2 => by
          rcases half_in hx hn po hpx hpk with ⟨a1, a2, a3, a4⟩ | ⟨a1, a2, a3, a4⟩
          · obtain ⟨y, r', hy, hyp⟩ := h1 a1
            rcases List.mem_append.1 hN with h | h
            · have := ih (lowS x k) N s y r' hl rfl hy z' (by rw [hyp]; exact h)
              have ey : y.adr = z.adr := by rw [← pa, ← hyp]; rfl
              omega
            · rw [left_apart k (uppS x k) p N a2 a3] at h
              have h3 := (left_part k (uppS x k) N hu rfl z' (List.mem_filter.1 h).1).2.1
              have h4 := ((wB_num hu).1 h3).2.2.1
              omega
          · obtain ⟨h0, y, r', hy, hyp⟩ := h2 a1
            rcases List.mem_append.1 hN with h | h
            · rw [left_apart k (lowS x k) p N a2 a3, h0] at h
              cases h
            · have := ih (uppS x k) N s y r' hu rfl hy z' (by rw [hyp]; exact h)
              have ey : y.adr = z.adr := by rw [← pa, ← hyp]; rfl
              omega
        by_cases hfe : l.filter (fun t => wB t x) = []
        · have e2 : leftM (k + 1) x l = [x] := by
            conv => lhs; unfold leftM
            rw [if_neg ha, if_pos hfe]
          have ez : z = x := by rw [e2] at hm; simpa using hm
          subst ez
          rw [hfe] at hz'
          have pnk : s ≤ k := by omega
          refine go [] hz' (fun _ => ⟨lowS z k, [], ?_, ?_⟩) (fun h => ?_)
          · rw [left_nil]
            have : rmB s (lowS z k) = true := decide_eq_true pnk
            simp [this]
          · rw [← hP]; rfl
          · exfalso
            have h4 := ((wB_num hu).1 h).2.2.1
            omega
        · have e2 : leftM (k + 1) x l = leftM k (lowS x k) (l.filter (fun t => wB t x)) ++ leftM k (uppS x k) (l.filter (fun t => wB t x)) := by
            conv => lhs; unfold leftM
            rw [if_neg ha, if_neg hfe]
          rw [e2, List.filter_append] at hz
          refine go _ hz' (fun h => ?_) (fun h => ?_)
          · cases hc : (leftM k (lowS x k) (l.filter (fun t => wB t x))).filter (rmB s) with
            | nil =>
              exfalso
              rw [hc, List.nil_append] at hz
              have hzm : z ∈ (leftM k (uppS x k) (l.filter (fun t => wB t x))).filter (rmB s) := by rw [hz]; exact List.mem_cons_self ..
              have h3 := (left_part k (uppS x k) _ hu rfl z (List.mem_filter.1 hzm).1).2.1
              exact halves_part hx hn h (wB_trans pin h3)
            | cons y r' =>
              rw [hc, List.cons_append] at hz
              have : y = z := by injection hz
              exact ⟨y, r', rfl, by rw [this]; exact hP⟩
          · cases hc : (leftM k (lowS x k) (l.filter (fun t => wB t x))).filter (rmB s) with
            | nil =>
              rw [hc, List.nil_append] at hz
              exact ⟨rfl, z, r, hz, hP⟩
            | cons y r' =>
              exfalso
              rw [hc, List.cons_append] at hz
              have e : y = z := by injection hz
              have hym : y ∈ (leftM k (lowS x k) (l.filter (fun t => wB t x))).filter (rmB s) := by rw [hc]; exact List.mem_cons_self ..
              have h3 := (left_part k (lowS x k) _ hl rfl y (List.mem_filter.1 hym).1).2.1
              rw [e] at h3
              exact halves_part hx hn (wB_trans pin h3) h
      · exfalso
        have e1 : leftM (k + 1) x (l ++ [p]) = [] := by
          unfold leftM
          rw [if_pos (by rw [List.any_append]; simp [hxp])]
        rw [e1] at hz'
        cases hz'

end Go.Proofs.Ytgohffeneibhdaa
