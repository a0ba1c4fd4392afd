/-
  What is left of a span, in plain mathematics: a list of spans that are taken, halves, and how many parts there are at most.
-/
import Derived.Test.YtdbcdichmmcnbaaGreatZK10
import Derived.Test.YtdbcdichmmcnbaaGreatZK11
import Derived.Test.YtdbcdichmmcnbaaGreatZK3
namespace Go.Proofs.YtdbcdichmmcnbaaGreat
open Go.RowKit

/-- A span: where it begins, and how many bits are free. -/
structure Sp where
  s : Bool
  H : BitVec 64
  L : BitVec 64
  n : Nat

def Sp.ok (x : Sp) : Prop := okB x.s x.H.toInt x.L.toInt = true ∧ x.n ≤ wd x.s ∧ cH x.n x.H = x.H ∧ cL x.n x.L = x.L
def Sp.pre (x : Sp) : Pf := ⟨x.s, x.H, x.L, (wd x.s : Int) - x.n⟩
def Sp.spn (x : Sp) : Pf := ⟨x.s, x.H, x.L, x.n⟩
def wB (x y : Sp) : Bool := withB x.s x.H x.L x.n y.s y.H y.L y.n
def lowS (x : Sp) (k : Nat) : Sp := ⟨x.s, x.H, x.L, k⟩
def uppS (x : Sp) (k : Nat) : Sp := ⟨x.s, cH k (fH (k + 1) x.H), cL k (fL (k + 1) x.L), k⟩
def leftM : Nat → Sp → List Sp → List Sp
  | 0, x, l => if l.any (wB x) = true then [] else [x]
  | k + 1, x, l => if l.any (wB x) = true then [] else if l.filter (fun t => wB t x) = [] then [x] else leftM k (lowS x k) (l.filter fun t => wB t x) ++ leftM k (uppS x k) (l.filter fun t => wB t x)

theorem Sp.ok.pok {x : Sp} (h : x.ok) : pokB x.s x.H x.L ((wd x.s : Int) - x.n) = true := by
  obtain ⟨h1, h2, h3, h4⟩ := h
  have e : ((wd x.s : Int) - ((wd x.s : Int) - x.n)).toNat = x.n := by omega
  unfold pokB hasB
  rw [h1, e, h3, h4]
  have : decide (0 ≤ (wd x.s : Int) - x.n ∧ (wd x.s : Int) - x.n ≤ (wd x.s : Int)) = true := decide_eq_true (by omega)
  rw [this]; simp
theorem Sp.of_pok {p : Pf} (h : pokB p.s p.H p.L p.b = true) : ∃ x : Sp, x.ok ∧ x.pre = p := by
  obtain ⟨h1, h2, h3⟩ := pokB_parts h
  refine ⟨⟨p.s, p.H, p.L, ((wd p.s : Int) - p.b).toNat⟩, ⟨h1, by show ((wd p.s : Int) - p.b).toNat ≤ wd p.s; omega, ?_⟩, ?_⟩
  · unfold hasB at h3
    simp only [Bool.and_eq_true, beq_iff_eq] at h3
    exact h3.2
  · unfold Sp.pre
    obtain ⟨s, H, L, b⟩ := p
    simp only [Pf.mk.injEq, true_and]
    simp only at h2
    omega
theorem Sp.ok.le {x : Sp} (h : x.ok) : x.n ≤ 128 := Nat.le_trans h.2.1 (wd_le' x.s)
theorem win_wB {x y : Sp} (hx : x.ok) (hy : y.ok) : winB x.s x.H x.L ((wd x.s : Int) - x.n) y.s y.H y.L ((wd y.s : Int) - y.n) = wB x y :=
  win_with hx.pok hy.pok (by omega) (by omega)
theorem wB_iff (x y : Sp) : wB x y = true ↔ x.n ≤ y.n ∧ x.s = y.s ∧ cH y.n x.H = y.H ∧ cL y.n x.L = y.L := by
  unfold wB withB hasB
  simp only [Bool.and_eq_true, decide_eq_true_eq, beq_iff_eq]
theorem c0H (H : BitVec 64) : cH 0 H = H := by
  unfold cH; rw [show ~~~ mh 0 = BitVec.allOnes 64 by decide, BitVec.and_allOnes]
theorem c0L (L : BitVec 64) : cL 0 L = L := by
  unfold cL; rw [show ~~~ ml 0 = BitVec.allOnes 64 by decide, BitVec.and_allOnes]
/-- A single address has nothing in it but itself. -/
theorem near_zero {x : Sp} (h0 : x.n = 0) {l : List Sp} (h : l.filter (fun t => wB t x) ≠ []) : l.any (wB x) = true := by
  obtain ⟨t, ht⟩ := List.exists_mem_of_ne_nil _ h
  obtain ⟨hm, hw⟩ := List.mem_filter.1 ht
  rw [List.any_eq_true]
  refine ⟨t, hm, ?_⟩
  obtain ⟨h1, h2, h3, h4⟩ := (wB_iff t x).1 hw
  have tn : t.n = 0 := by omega
  rw [h0, c0H] at h3
  rw [h0, c0L] at h4
  exact (wB_iff x t).2 ⟨by omega, h2.symm, by rw [tn, c0H, h3], by rw [tn, c0L, h4]⟩
theorem low_ok {x : Sp} {k : Nat} (h : x.ok) (hn : x.n = k + 1) : (lowS x k).ok := by
  obtain ⟨h1, h2, h3, h4⟩ := h
  rw [hn] at h2 h3 h4
  exact ⟨h1, by show k ≤ wd x.s; omega, cH_less k _ h3, cL_less k _ h4⟩
theorem upp_ok {x : Sp} {k : Nat} (h : x.ok) (hn : x.n = k + 1) : (uppS x k).ok := by
  obtain ⟨h1, h2, h3, h4⟩ := h
  rw [hn] at h2
  exact ⟨okB_clr x.s _ _ k (okB_fill x.s x.H x.L (k + 1) h2 h1), by show k ≤ wd x.s; omega, cH_idem k _, cL_idem k _⟩
theorem halves_part {x t : Sp} {k : Nat} (h : x.ok) (hn : x.n = k + 1) (h1 : wB t (lowS x k) = true) (h2 : wB t (uppS x k) = true) : False := by
  obtain ⟨_, _, a3, a4⟩ := (wB_iff _ _).1 h1
  obtain ⟨_, _, b3, b4⟩ := (wB_iff _ _).1 h2
  have e3 : x.H = cH k (fH (k + 1) x.H) := a3.symm.trans b3
  have e4 : x.L = cL k (fL (k + 1) x.L) := a4.symm.trans b4
  obtain ⟨_, _, h3, h4⟩ := h
  have := wd_le' x.s
  rw [hn] at h3 h4
  rcases Nat.lt_or_ge k 64 with hk | hk
  · exact up_neL k hk _ h4 e4.symm
  · exact up_neH k (by omega) hk _ h3 e3.symm
theorem two_count {α : Type} (p q : α → Bool) : ∀ l : List α, (∀ t ∈ l, p t = true → q t = true → False) → (l.filter p).length + (l.filter q).length ≤ l.length
  | [], _ => by simp
  | t :: l, h => by
      have ih := two_count p q l (fun u hu => h u (List.mem_cons_of_mem _ hu))
      have ht := h t (List.mem_cons_self ..)
      rw [List.filter_cons, List.filter_cons, List.length_cons]
      cases hp : p t <;> cases hq : q t <;> simp <;> first | omega | (exact absurd hq (by intro; exact ht hp hq))
theorem left_len : ∀ (k : Nat) (x : Sp) (l : List Sp), x.ok → x.n = k → (leftM k x l).length ≤ (l.filter fun t => wB t x).length * k + 1
  | 0, x, l, _, _ => by
      unfold leftM; split <;> simp
  | k + 1, x, l, hx, hn => by
      unfold leftM
      split
      · simp
      · split
        · simp
        · rename_i hne
          have i1 := left_len k (lowS x k) (l.filter fun t => wB t x) (low_ok hx hn) rfl
          have i2 := left_len k (uppS x k) (l.filter fun t => wB t x) (upp_ok hx hn) rfl
          have hc := two_count (fun t => wB t (lowS x k)) (fun t => wB t (uppS x k)) (l.filter fun t => wB t x) (fun t _ a b => halves_part hx hn a b)
          have hpos : 0 < (l.filter fun t => wB t x).length := List.length_pos_iff.2 hne
          generalize (l.filter fun t => wB t x) = N at *
          generalize (N.filter fun t => wB t (lowS x k)).length = c1 at *
          generalize (N.filter fun t => wB t (uppS x k)).length = c2 at *
          rw [List.length_append, Nat.mul_succ]
          have hm : (c1 + c2) * k ≤ N.length * k := Nat.mul_le_mul_right k hc
          rw [Nat.add_mul] at hm
          omega
theorem left_le {x : Sp} (hx : x.ok) (l : List Sp) (hl : l.length ≤ 300) : (leftM x.n x l).length ≤ 38401 := by
  have h := left_len x.n x l hx rfl
  have h1 : (l.filter fun t => wB t x).length ≤ 300 := Nat.le_trans (List.length_filter_le _ _) hl
  have h2 : (l.filter fun t => wB t x).length * x.n ≤ 300 * 128 := Nat.mul_le_mul h1 hx.le
  omega

end Go.Proofs.YtdbcdichmmcnbaaGreat

/-
  Addresses as numbers: what is left of a span where single addresses are taken begins with the least place that is free. Plain mathematics.
-/
namespace Go.Proofs.YtdbcdichmmcnbaaGreat
open Go.RowKit

/-- An address as a number. -/
def adrN (H L : BitVec 64) : Nat := (H ++ L).toNat
def Sp.adr (x : Sp) : Nat := adrN x.H x.L

theorem adrN_inj {H L H' L' : BitVec 64} (h : adrN H L = adrN H' L') : H = H' ∧ L = L' := by
  have e : H ++ L = H' ++ L' := BitVec.eq_of_toNat_eq h
  constructor
  · apply BitVec.eq_of_getLsbD_eq
    intro i hi
    have := congrArg (fun v => v.getLsbD (64 + i)) e
    rw [BitVec.getLsbD_append, BitVec.getLsbD_append, if_neg (by omega), if_neg (by omega), Nat.add_sub_cancel_left] at this
    exact this
  · apply BitVec.eq_of_getLsbD_eq
    intro i hi
    have := congrArg (fun v => v.getLsbD i) e
    rw [BitVec.getLsbD_append, BitVec.getLsbD_append, if_pos hi, if_pos hi] at this
    exact this
theorem adr_bit (H L : BitVec 64) (i : Nat) : (adrN H L).testBit i = if i < 64 then L.getLsbD i else H.getLsbD (i - 64) := by
  unfold adrN
  rw [BitVec.testBit_toNat, BitVec.getLsbD_append]
theorem adr_lt (H L : BitVec 64) : adrN H L < 2 ^ 128 := (H ++ L).isLt

theorem clr_adr (n : Nat) (H L : BitVec 64) : adrN (cH n H) (cL n L) = adrN H L >>> n <<< n := by
  apply Nat.eq_of_testBit_eq
  intro i
  rw [adr_bit, Nat.testBit_shiftLeft, Nat.testBit_shiftRight, adr_bit]
  unfold cH cL
  by_cases h : i < 64
  · rw [if_pos h]
    simp only [BitVec.getLsbD_and, BitVec.getLsbD_not, ml_bit, h, decide_true, Bool.true_and]
    by_cases hn : n ≤ i
    · rw [show n + (i - n) = i by omega, if_pos h]
      simp [hn, show ¬ i < n by omega]
    · simp [hn, show i < n by omega]
  · rw [if_neg h]
    by_cases hi : i < 128
    · have h6 : i - 64 < 64 := by omega
      simp only [BitVec.getLsbD_and, BitVec.getLsbD_not, mh_bit, h6, decide_true, Bool.true_and]
      by_cases hn : n ≤ i
      · rw [show n + (i - n) = i by omega, if_neg h]
        simp [hn, show ¬ i - 64 + 64 < n by omega]
      · simp [hn, show i - 64 + 64 < n by omega]
    · have e : ∀ v : BitVec 64, v.getLsbD (i - 64) = false := fun v => BitVec.getLsbD_of_ge v _ (by omega)
      rw [e]
      by_cases hn : n ≤ i
      · rw [show n + (i - n) = i by omega, if_neg h, e]; simp
      · simp [hn]

theorem upp_adr (k : Nat) (hk : k < 128) (H L : BitVec 64) (h1 : cH (k + 1) H = H) (h2 : cL (k + 1) L = L) : adrN (cH k (fH (k + 1) H)) (cL k (fL (k + 1) L)) = adrN H L + 2 ^ k := by
  have e : adrN H L = adrN H L >>> (k + 1) <<< (k + 1) := by
    have := clr_adr (k + 1) H L
    rw [h1, h2] at this; exact this
  rw [e, Nat.shiftLeft_add_eq_or_of_lt (Nat.pow_lt_pow_right (by omega) (by omega)), ← e]
  apply Nat.eq_of_testBit_eq
  intro i
  have hz : i < k + 1 → (adrN H L).testBit i = false := fun hi => by
    rw [e, Nat.testBit_shiftLeft]; simp; omega
  rw [Nat.testBit_or, Nat.testBit_two_pow, adr_bit, adr_bit] at *
  unfold cH cL fH fL
  by_cases h : i < 64
  · rw [if_pos h] at hz ⊢
    rw [if_pos h]
    simp only [BitVec.getLsbD_and, BitVec.getLsbD_or, BitVec.getLsbD_not, ml_bit, h, decide_true, Bool.true_and]
    by_cases a : i < k
    · rw [hz (by omega)]; simp [a]; omega
    · by_cases b : i = k
      · subst b; simp
      · simp [a, show ¬ i < k + 1 by omega, show ¬ k = i by omega]
  · rw [if_neg h] at hz ⊢
    rw [if_neg h]
    by_cases hi : i < 128
    · have h6 : i - 64 < 64 := by omega
      simp only [BitVec.getLsbD_and, BitVec.getLsbD_or, BitVec.getLsbD_not, mh_bit, h6, decide_true, Bool.true_and]
      by_cases a : i < k
      · rw [hz (by omega)]; simp [show i - 64 + 64 < k by omega]; omega
      · by_cases b : i = k
        · subst b; simp [show ¬ i - 64 + 64 < i by omega, show i - 64 + 64 < i + 1 by omega]
        · simp [show ¬ i - 64 + 64 < k by omega, show ¬ i - 64 + 64 < k + 1 by omega, show ¬ k = i by omega]
    · have ez : ∀ v : BitVec 64, v.getLsbD (i - 64) = false := fun v => BitVec.getLsbD_of_ge v _ (by omega)
      rw [ez, ez]
      simp; omega

theorem ok_mult {x : Sp} (h : x.ok) : x.adr = x.adr / 2 ^ x.n * 2 ^ x.n := by
  have e := clr_adr x.n x.H x.L
  rw [h.2.2.1, h.2.2.2] at e
  rw [Nat.shiftRight_eq_div_pow, Nat.shiftLeft_eq] at e
  exact e
/-- A single address lies in a span. -/
theorem one_in {t x : Sp} (ht : t.n = 0) (hx : x.ok) : wB t x = true ↔ t.s = x.s ∧ x.adr ≤ t.adr ∧ t.adr < x.adr + 2 ^ x.n := by
  have hm := ok_mult hx
  have hp : 0 < 2 ^ x.n := Nat.pow_pos (by omega)
  have e := clr_adr x.n t.H t.L
  rw [Nat.shiftRight_eq_div_pow, Nat.shiftLeft_eq] at e
  rw [wB_iff]
  constructor
  · rintro ⟨_, hs, h1, h2⟩
    rw [h1, h2] at e
    have e2 : x.adr = t.adr / 2 ^ x.n * 2 ^ x.n := e
    refine ⟨hs, ?_, ?_⟩
    · rw [e2]; exact Nat.div_mul_le_self _ _
    · rw [e2]
      have := Nat.lt_div_mul_add (a := t.adr) hp
      omega
  · rintro ⟨hs, h1, h2⟩
    have hq : t.adr / 2 ^ x.n = x.adr / 2 ^ x.n := by
      rw [hm] at h1 h2
      apply Nat.div_eq_of_lt_le
      · exact h1
      · rw [Nat.succ_mul]; exact h2
    have e3 : adrN (cH x.n t.H) (cL x.n t.L) = adrN x.H x.L := by
      rw [e]
      show t.adr / 2 ^ x.n * 2 ^ x.n = x.adr
      rw [hq]; exact hm.symm
    obtain ⟨a, b⟩ := adrN_inj e3
    exact ⟨by omega, hs, a, b⟩

end Go.Proofs.YtdbcdichmmcnbaaGreat

/-
  Both CmpAddr and both CmpPrefix of what is right: the order of the numbers.
-/
namespace Go.Proofs.YtdbcdichmmcnbaaGreat
open Go.RowKit

/-- An address as one number: those of 32 bits come first. -/
def keyN (s : Bool) (H L : BitVec 64) : Nat := (if s then 340282366920938463463374607431768211456 else 0) + adrN H L
theorem adrN_eq (H L : BitVec 64) : adrN H L = H.toNat * 18446744073709551616 + L.toNat := by
  unfold adrN
  rw [BitVec.toNat_append, ← Nat.shiftLeft_add_eq_or_of_lt L.isLt, Nat.shiftLeft_eq]
theorem bvb (x : BitVec 64) : -9223372036854775808 ≤ x.toInt ∧ x.toInt ≤ 9223372036854775807 := by
  have h1 := BitVec.toInt_lt (x := x); have h2 := BitVec.le_toInt (x := x); simp at h1 h2; omega

theorem cmp_keys (s : Bool) (H L : BitVec 64) (s' : Bool) (H' L' : BitVec 64) (h : okB s H.toInt L.toInt = true) (h' : okB s' H'.toInt L'.toInt = true) (r0 r1 r2 q0 q1 q2 : Int)
    (hr : (s = true → r0 = 1 ∧ r1 = H.toNat) ∧ (s = false → r0 = 0 ∧ r1 = 0) ∧ r2 = L.toNat) (hq : (s' = true → q0 = 1 ∧ q1 = H'.toNat) ∧ (s' = false → q0 = 0 ∧ q1 = 0) ∧ q2 = L'.toNat) :
    cmp3 r0 r1 r2 q0 q1 q2 = cmpW (keyN s H L : Int) (keyN s' H' L' : Int) := by
  have a1 := H.isLt; have a2 := L.isLt; have a3 := H'.isLt; have a4 := L'.isLt
  have z : s = false → H.toNat = 0 := fun e => by subst e; rw [(okB_four H L h).1]; rfl
  have z' : s' = false → H'.toNat = 0 := fun e => by subst e; rw [(okB_four H' L' h').1]; rfl
  unfold keyN
  rw [adrN_eq, adrN_eq]
  generalize H.toNat = x at *
  generalize L.toNat = y at *
  generalize H'.toNat = x' at *
  generalize L'.toNat = y' at *
  obtain ⟨r, rf, rfl⟩ := hr
  obtain ⟨q, qf, rfl⟩ := hq
  cases s <;> cases s'
  · obtain ⟨rfl, rfl⟩ := rf rfl
    obtain ⟨rfl, rfl⟩ := qf rfl
    have z1 := z rfl; have z2 := z' rfl
    subst z1 z2
    unfold cmp3 cmpW
    simp
  · obtain ⟨rfl, rfl⟩ := rf rfl
    obtain ⟨rfl, rfl⟩ := q rfl
    have z1 := z rfl
    subst z1
    unfold cmp3 cmpW
    simp
    omega
  · obtain ⟨rfl, rfl⟩ := r rfl
    obtain ⟨rfl, rfl⟩ := qf rfl
    have z2 := z' rfl
    subst z2
    unfold cmp3 cmpW
    simp
    omega
  · obtain ⟨rfl, rfl⟩ := r rfl
    obtain ⟨rfl, rfl⟩ := q rfl
    unfold cmp3 cmpW
    rcases Int.lt_trichotomy (x : Int) (x' : Int) with hx | hx | hx
    · rw [if_neg (by omega), if_pos (by rw [if_pos hx]; omega), if_pos hx, if_pos (by simp; omega)]
    · have hxx : x = x' := by omega
      subst hxx
      rcases Int.lt_trichotomy (y : Int) (y' : Int) with hy | hy | hy
      · simp [hy]
      · have hyy : y = y' := by omega
        subst hyy; simp
      · have : ¬ (y : Int) < y' := by omega
        simp [hy, this]
    · have : ¬ (x : Int) < x' := by omega
      rw [if_neg (by omega), if_pos (by rw [if_neg this, if_pos hx]; omega), if_neg this, if_pos hx, if_neg (by simp; omega), if_pos (by simp; omega)]

theorem cmp_ok (s : Bool) (H L : BitVec 64) (s' : Bool) (H' L' : BitVec 64) (h : okB s H.toInt L.toInt = true) (h' : okB s' H'.toInt L'.toInt = true) :
      (∀ w : World, Calls Tryz.prog 98 #[.agg #[.bool s, .int .i64 H.toInt, .int .i64 L.toInt], .agg #[.bool s', .int .i64 H'.toInt, .int .i64 L'.toInt]] w fun e w' => e = .returned (.int .i64 (cmpW (keyN s H L : Int) (keyN s' H' L' : Int))) ∧ Below w.heap.size w w') ∧
      (∀ w : World, Calls Tryz.prog 139 #[.agg #[.bool s, .int .i64 H.toInt, .int .i64 L.toInt], .agg #[.bool s', .int .i64 H'.toInt, .int .i64 L'.toInt]] w fun e w' => e = .returned (.int .i64 (cmpW (keyN s H L : Int) (keyN s' H' L' : Int))) ∧ Below w.heap.size w w') := by
  have hz : Nrm s H.toInt L.toInt s H.toInt L.toInt := Or.inl ⟨h, rfl, rfl, rfl⟩
  have hz' : Nrm s' H'.toInt L'.toInt s' H'.toInt L'.toInt := Or.inl ⟨h', rfl, rfl, rfl⟩
  obtain ⟨r0, r1, r2, hr, rt, rf, r2e⟩ := Rank_ex s H.toInt L.toInt
  obtain ⟨q0, q1, q2, hr', qt, qf, q2e⟩ := Rank_ex s' H'.toInt L'.toInt
  have hi := iCmp_ne s H.toInt L.toInt s' H'.toInt L'.toInt s H.toInt L.toInt s' H'.toInt L'.toInt r0 r1 r2 q0 q1 q2 hz hr hz' hr'
  rw [wrapU] at rt r2e qt q2e
  have hk := cmp_keys s H L s' H' L' h h' r0 r1 r2 q0 q1 q2 ⟨rt, rf, r2e⟩ ⟨qt, qf, q2e⟩
  rw [hk] at hi
  refine ⟨?_, hi⟩
  rw [← hk]
  have bH := bvb H; have bL := bvb L; have bH' := bvb H'; have bL' := bvb L'
  have wH := wrapU H; have wL := wrapU L; have wH' := wrapU H'; have wL' := wrapU L'
  clear hi hk hr hr'
  subst r2e q2e
  cases s <;> cases s'
  · obtain ⟨rfl, rfl⟩ := rf rfl
    obtain ⟨rfl, rfl⟩ := qf rfl
    have e1 := (okB_four H L h).1; have e2 := (okB_four H' L' h').1
    subst e1 e2
    by_cases hL : L.toInt = L'.toInt
    · have hLL : L = L' := BitVec.eq_of_toInt_eq hL
      subst hLL
      rw [cmp3_eq]
      exact sCmp_eq false _ _ false _ _ false false _ _ _ _ hz hz' (fun wx => by rw [eqSt]; simp)
    · have hq : ∀ wx, (Op.equalIn 10000 29 (.agg #[.bool false, .int .i64 (0 : BitVec 64).toInt, .int .i64 L.toInt]) (.agg #[.bool false, .int .i64 (0 : BitVec 64).toInt, .int .i64 L'.toInt])).run Tryz.prog wx = .ok false wx := fun wx => by rw [eqSt]; simp [hL]
      have u0 : ult (0 : BitVec 64).toInt (0 : BitVec 64).toInt = false := by simp [ult]
      have ne : IntKind.u64.wrap L.toInt ≠ IntKind.u64.wrap L'.toInt := fun e => hL (u64_inj bL bL' e)
      cases u : ult L.toInt L'.toInt
      · rw [cmp3_gt2 (by have := ult_f u; omega)]
        exact sCmp_gt2 false _ _ false _ _ false _ _ _ _ hz hz' hq u0 (by simp) u
      · rw [cmp3_lt2 (by have := ult_t u; omega)]
        exact sCmp_lt2 false _ _ false _ _ false _ _ _ _ hz hz' hq u0 (by simp) u
  · obtain ⟨rfl, rfl⟩ := rf rfl
    obtain ⟨rfl, rfl⟩ := qt rfl
    rw [cmp3_lt0 (by omega)]
    exact sCmp_ft false _ _ true _ _ _ _ _ _ hz hz' (fun wx => by rw [eqSt]; simp)
  · obtain ⟨rfl, rfl⟩ := rt rfl
    obtain ⟨rfl, rfl⟩ := qf rfl
    rw [cmp3_gt0 (by omega)]
    exact sCmp_tf true _ _ false _ _ _ _ _ _ hz hz' (fun wx => by rw [eqSt]; simp)
  · obtain ⟨rfl, rfl⟩ := rt rfl
    obtain ⟨rfl, rfl⟩ := qt rfl
    by_cases hH : H.toInt = H'.toInt
    · have hHH : H = H' := BitVec.eq_of_toInt_eq hH
      subst hHH
      by_cases hL : L.toInt = L'.toInt
      · have hLL : L = L' := BitVec.eq_of_toInt_eq hL
        subst hLL
        rw [cmp3_eq]
        exact sCmp_eq true _ _ true _ _ true true _ _ _ _ hz hz' (fun wx => by rw [eqSt]; simp)
      · have hq : ∀ wx, (Op.equalIn 10000 29 (.agg #[.bool true, .int .i64 H.toInt, .int .i64 L.toInt]) (.agg #[.bool true, .int .i64 H.toInt, .int .i64 L'.toInt])).run Tryz.prog wx = .ok false wx := fun wx => by rw [eqSt]; simp [hL]
        have u0 : ult H.toInt H.toInt = false := by simp [ult]
        have ne : IntKind.u64.wrap L.toInt ≠ IntKind.u64.wrap L'.toInt := fun e => hL (u64_inj bL bL' e)
        cases u : ult L.toInt L'.toInt
        · rw [cmp3_gt2 (by have := ult_f u; omega)]
          exact sCmp_gt2 true _ _ true _ _ true _ _ _ _ hz hz' hq u0 (by simp) u
        · rw [cmp3_lt2 (by have := ult_t u; omega)]
          exact sCmp_lt2 true _ _ true _ _ true _ _ _ _ hz hz' hq u0 (by simp) u
    · have hq : ∀ wx, (Op.equalIn 10000 29 (.agg #[.bool true, .int .i64 H.toInt, .int .i64 L.toInt]) (.agg #[.bool true, .int .i64 H'.toInt, .int .i64 L'.toInt])).run Tryz.prog wx = .ok false wx := fun wx => by rw [eqSt]; simp [hH]
      have ne : IntKind.u64.wrap H.toInt ≠ IntKind.u64.wrap H'.toInt := fun e => hH (u64_inj bH bH' e)
      cases u : ult H.toInt H'.toInt
      · rw [cmp3_gt1 (by have := ult_f u; omega)]
        exact sCmp_gt1 true _ _ true _ _ true _ _ _ _ hz hz' hq u (by simp [hH])
      · rw [cmp3_lt1 (by have := ult_t u; omega)]
        exact sCmp_lt1 true _ _ true _ _ true _ _ _ _ hz hz' hq u

/-- The order of two prefixes. -/
def cmpP (p q : Pf) : Int := orI (cmpW (keyN p.s p.H p.L : Int) (keyN q.s q.H q.L : Int)) (cmpW p.b q.b)

theorem sCmpP (p q : Pf) (hp : pokB p.s p.H p.L p.b = true) (hq : pokB q.s q.H q.L q.b = true) (w : World) :
    Calls Tryz.prog 47 #[.agg #[.bool p.s, .int .i64 p.H.toInt, .int .i64 p.L.toInt, .int .i64 p.b], .agg #[.bool q.s, .int .i64 q.H.toInt, .int .i64 q.L.toInt, .int .i64 q.b]] w fun e w' => e = .returned (.int .i64 (cmpP p q)) ∧ Below w.heap.size w w' :=
  sCmpPrefix_any p.s p.H.toInt p.L.toInt p.b q.s q.H.toInt q.L.toInt q.b _ (cmp_ok p.s p.H p.L q.s q.H q.L (pokB_parts hp).1 (pokB_parts hq).1).1 w
theorem iCmpP (p q : Pf) (hp : pokB p.s p.H p.L p.b = true) (hq : pokB q.s q.H q.L q.b = true) (w : World) :
    Calls Tryz.prog 108 #[.agg #[.bool p.s, .int .i64 p.H.toInt, .int .i64 p.L.toInt, .int .i64 p.b], .agg #[.bool q.s, .int .i64 q.H.toInt, .int .i64 q.L.toInt, .int .i64 q.b]] w fun e w' => e = .returned (.int .i64 (cmpP p q)) ∧ Below w.heap.size w w' :=
  iCmpPrefix_any p.s p.H.toInt p.L.toInt p.b q.s q.H.toInt q.L.toInt q.b _ (cmp_ok p.s p.H p.L q.s q.H q.L (pokB_parts hp).1 (pokB_parts hq).1).2 w

end Go.Proofs.YtdbcdichmmcnbaaGreat
