/-
  Prefixes as spans of numbers: what follows what, what lies in what; rows of pools and blocks. Plain mathematics.
-/
import Derived.Test.YtdbcdichmmcnbaaGreatZK12
import Derived.Test.YtdbcdichmmcnbaaGreatZK17
import Derived.Test.YtdbcdichmmcnbaaGreatZK16
import Derived.Test.YtdbcdichmmcnbaaGreatZK18
namespace Go.Proofs.YtdbcdichmmcnbaaGreat
open Go.RowKit

def Pf.pk (p : Pf) : Bool := pokB p.s p.H p.L p.b
def winP (p q : Pf) : Bool := winB p.s p.H p.L p.b q.s q.H q.L q.b
def ovP (p q : Pf) : Bool := winP p q || winP q p
def Pf.ad (p : Pf) : Nat := adrN p.H p.L
def Pf.sz (p : Pf) : Nat := ((wd p.s : Int) - p.b).toNat
/-- q lies wholly behind p. -/
def fol (p q : Pf) : Prop := (p.s = false ∧ q.s = true) ∨ (p.s = q.s ∧ p.ad + 2 ^ p.sz ≤ q.ad)

theorem pk_parts {p : Pf} (h : p.pk = true) : 0 ≤ p.b ∧ p.b ≤ wd p.s ∧ p.ad = p.ad / 2 ^ p.sz * 2 ^ p.sz ∧ p.ad < 2 ^ 128 := by
  obtain ⟨x, hx, rfl⟩ := Sp.of_pok (p := p) h
  have h1 := hx.2.1
  have e : (Sp.pre x).sz = x.n := by show ((wd x.s : Int) - ((wd x.s : Int) - x.n)).toNat = x.n; omega
  refine ⟨?_, ?_, ?_, adr_lt _ _⟩
  · show 0 ≤ (wd x.s : Int) - x.n; omega
  · show (wd x.s : Int) - x.n ≤ (wd x.s : Int); omega
  · rw [e]; exact ok_mult hx
theorem win_iff {p q : Pf} (hp : p.pk = true) (hq : q.pk = true) : winP p q = true ↔ p.s = q.s ∧ q.b ≤ p.b ∧ q.ad ≤ p.ad ∧ p.ad < q.ad + 2 ^ q.sz := by
  obtain ⟨x, hx, rfl⟩ := Sp.of_pok (p := p) hp
  obtain ⟨y, hy, rfl⟩ := Sp.of_pok (p := q) hq
  have h1 := hx.2.1
  have h2 := hy.2.1
  have e : (Sp.pre y).sz = y.n := by show ((wd y.s : Int) - ((wd y.s : Int) - y.n)).toNat = y.n; omega
  have e1 : winP x.pre y.pre = wB x y := win_wB hx hy
  have e2 := one_in (t := ⟨x.s, x.H, x.L, 0⟩) rfl hy
  rw [e1, e, wB_iff]
  rw [wB_iff] at e2
  have e3 : (Sp.pre y).b ≤ (Sp.pre x).b ↔ (wd y.s : Int) - y.n ≤ (wd x.s : Int) - x.n := Iff.rfl
  constructor
  · rintro ⟨a, b, c, d⟩
    have := e2.1 ⟨Nat.zero_le _, b, c, d⟩
    refine ⟨b, ?_, this.2.1, this.2.2⟩
    rw [e3, b]; omega
  · rintro ⟨a, b, c, d⟩
    have := e2.2 ⟨a, c, d⟩
    refine ⟨?_, a, this.2.2⟩
    rw [e3] at b
    have ha : x.s = y.s := a
    rw [ha] at b; omega
theorem win_pk {p q : Pf} (h : winP p q = true) : p.pk = true ∧ q.pk = true := by
  unfold winP winB at h
  rw [Bool.and_eq_true, Bool.and_eq_true] at h
  exact ⟨h.1, h.2.1⟩
theorem sz_mono {p q : Pf} (hq : q.pk = true) (hs : p.s = q.s) (h : q.b ≤ p.b) : p.sz ≤ q.sz := by
  have := (pk_parts hq).2.1
  unfold Pf.sz; rw [hs]; omega
theorem mult_step {a b k : Nat} (ha : a = a / k * k) (hb : b = b / k * k) (h : a < b) : a + k ≤ b := by
  have hk : 0 < k := by
    rcases Nat.eq_zero_or_pos k with rfl | h'
    · simp at ha hb; omega
    · exact h'
  have : a / k < b / k := by
    apply Nat.lt_of_not_le
    intro h'
    have := Nat.mul_le_mul_right k h'
    omega
  have := Nat.mul_le_mul_right k this
  rw [Nat.succ_mul] at this
  omega
theorem mult_down {a m k : Nat} (hmk : m ≤ k) (ha : a = a / 2 ^ k * 2 ^ k) : a = a / 2 ^ m * 2 ^ m := by
  have e : 2 ^ k = 2 ^ (k - m) * 2 ^ m := by rw [← Nat.pow_add]; congr 1; omega
  have hd : 2 ^ m ∣ a := ⟨a / 2 ^ k * 2 ^ (k - m), by
    rw [Nat.mul_comm, Nat.mul_assoc, ← e]; exact ha⟩
  exact (Nat.div_mul_cancel hd).symm
theorem key_lt {p q : Pf} : (keyN p.s p.H p.L : Int) < (keyN q.s q.H q.L : Int) ↔ (p.s = false ∧ q.s = true) ∨ (p.s = q.s ∧ p.ad < q.ad) := by
  have h1 := adr_lt p.H p.L
  have h2 := adr_lt q.H q.L
  unfold keyN Pf.ad
  cases p.s <;> cases q.s <;> simp <;> omega
theorem cmp_neg {p q : Pf} : cmpP p q < 0 ↔ ((p.s = false ∧ q.s = true) ∨ (p.s = q.s ∧ p.ad < q.ad)) ∨ (p.s = q.s ∧ p.ad = q.ad ∧ p.b < q.b) := by
  have k1 := key_lt (p := p) (q := q)
  have k2 := key_lt (p := q) (q := p)
  have ke : (keyN p.s p.H p.L : Int) = (keyN q.s q.H q.L : Int) ↔ p.s = q.s ∧ p.ad = q.ad := by
    have h1 := adr_lt p.H p.L
    have h2 := adr_lt q.H q.L
    unfold keyN Pf.ad
    cases p.s <;> cases q.s <;> simp <;> omega
  unfold cmpP orI cmpW
  rcases Int.lt_trichotomy (keyN p.s p.H p.L : Int) (keyN q.s q.H q.L : Int) with h | h | h
  · have := k1.1 h
    simp [h]; exact Or.inl this
  · have hn : ¬ ((keyN p.s p.H p.L : Int) < (keyN q.s q.H q.L : Int)) := by omega
    have hn2 : ¬ ((keyN q.s q.H q.L : Int) < (keyN p.s p.H p.L : Int)) := by omega
    have hh := ke.1 h
    have nk := fun c => hn (k1.2 c)
    rw [if_neg hn, if_neg hn2]
    simp only [bne_self_eq_false, Bool.false_eq_true, if_false]
    constructor
    · intro hc
      right
      refine ⟨hh.1, hh.2, ?_⟩
      split at hc
      · assumption
      · split at hc <;> omega
    · rintro (c | ⟨_, _, c⟩)
      · exact absurd c nk
      · rw [if_pos c]; omega
  · have hn : ¬ ((keyN p.s p.H p.L : Int) < (keyN q.s q.H q.L : Int)) := by omega
    have hh := k2.1 h
    have nk := fun c => hn (k1.2 c)
    rw [if_neg hn, if_pos h]
    simp only [show ((1 : Int) != 0) = true from rfl, if_true]
    constructor
    · intro hc; omega
    · rintro (c | ⟨a, b, _⟩)
      · exact absurd c nk
      · have := ke.2 ⟨a, b⟩; omega
theorem fol_of {p q : Pf} (hp : p.pk = true) (hq : q.pk = true) (hc : cmpP p q < 0) (ho : ovP p q = false) : fol p q := by
  unfold ovP at ho
  rw [Bool.or_eq_false_iff] at ho
  obtain ⟨p1, p2, p3, p4⟩ := pk_parts hp
  obtain ⟨q1, q2, q3, q4⟩ := pk_parts hq
  have hpz : 0 < 2 ^ p.sz := Nat.pow_pos (by omega)
  rcases cmp_neg.1 hc with (h | ⟨h, ha⟩) | ⟨h, ha, hb⟩
  · exact Or.inl h
  · right
    refine ⟨h, ?_⟩
    by_cases hz : q.sz < p.sz
    · apply Nat.le_of_not_lt
      intro hlt
      have : winP q p = true := (win_iff hq hp).2 ⟨h.symm, by unfold Pf.sz at hz; rw [h] at hz p2; omega, by omega, hlt⟩
      rw [this] at ho; exact absurd ho.2 (by simp)
    · exact mult_step p3 (mult_down (by omega) q3) ha
  · exfalso
    have : winP q p = true := (win_iff hq hp).2 ⟨h.symm, by omega, by omega, by omega⟩
    rw [this] at ho; exact absurd ho.2 (by simp)
theorem fol_trans {p q r : Pf} (h1 : fol p q) (h2 : fol q r) : fol p r := by
  have hz : 0 < 2 ^ q.sz := Nat.pow_pos (by omega)
  unfold fol at *
  rcases h1 with ⟨a, b⟩ | ⟨a, b⟩ <;> rcases h2 with ⟨c, d⟩ | ⟨c, d⟩
  · rw [b] at c; cases c
  · exact Or.inl ⟨a, c ▸ b⟩
  · exact Or.inl ⟨a ▸ c, d⟩
  · exact Or.inr ⟨a.trans c, by omega⟩
theorem fol_ov {p q : Pf} (hp : p.pk = true) (hq : q.pk = true) (h : fol p q) : ovP p q = false := by
  have hz : 0 < 2 ^ p.sz := Nat.pow_pos (by omega)
  unfold ovP
  rw [Bool.or_eq_false_iff]
  constructor
  · cases e : winP p q
    · rfl
    · obtain ⟨a, _, b, c⟩ := (win_iff hp hq).1 e
      rcases h with ⟨d, f⟩ | ⟨_, d⟩
      · rw [d, f] at a; cases a
      · omega
  · cases e : winP q p
    · rfl
    · obtain ⟨a, _, b, c⟩ := (win_iff hq hp).1 e
      rcases h with ⟨d, f⟩ | ⟨_, d⟩
      · rw [d, f] at a; cases a
      · omega
theorem ov_symm (p q : Pf) : ovP p q = ovP q p := by unfold ovP; exact Bool.or_comm _ _
/-- What lies in two that follow each other, follows too. -/
theorem fol_in {t u p q : Pf} (h1 : winP t p = true) (h2 : winP u q = true) (h : fol p q) : fol t u := by
  obtain ⟨ht, hp⟩ := win_pk h1
  obtain ⟨hu, hq⟩ := win_pk h2
  obtain ⟨a1, a2, a3, a4⟩ := (win_iff ht hp).1 h1
  obtain ⟨b1, b2, b3, b4⟩ := (win_iff hu hq).1 h2
  rcases h with ⟨c, d⟩ | ⟨c, d⟩
  · exact Or.inl ⟨a1.trans c, b1.trans d⟩
  · refine Or.inr ⟨a1.trans (c.trans b1.symm), ?_⟩
    have hm := mult_step (pk_parts ht).2.2.1 (mult_down (sz_mono hp a1 a2) (a := p.ad + 2 ^ p.sz) (by
      have h3 := (pk_parts hp).2.2.1
      rw [Nat.add_div_right _ (Nat.pow_pos (by omega)), Nat.succ_mul]; omega)) a4
    omega
theorem fol_not {t p q : Pf} (h1 : winP t p = true) (h2 : winP t q = true) (h : fol p q) : False := by
  have := fol_in h1 h2 h
  have hz : 0 < 2 ^ t.sz := Nat.pow_pos (by omega)
  rcases this with ⟨a, b⟩ | ⟨_, b⟩
  · rw [a] at b; cases b
  · omega
theorem same_of {p q : Pf} (hp : p.pk = true) (hq : q.pk = true) (hb : p.b = q.b) (ho : ovP p q = true) : ¬ cmpP p q < 0 := by
  intro hc
  unfold ovP at ho
  have hpz : 0 < 2 ^ p.sz := Nat.pow_pos (by omega)
  have key : p.s = q.s ∧ p.ad = q.ad := by
    rcases Bool.or_eq_true _ _ ▸ ho with h | h
    · obtain ⟨a, _, b, c⟩ := (win_iff hp hq).1 h
      have e : p.sz = q.sz := by unfold Pf.sz; rw [a, hb]
      refine ⟨a, ?_⟩
      rcases Nat.lt_or_ge q.ad p.ad with h' | h'
      · have := mult_step (e ▸ (pk_parts hq).2.2.1) ((pk_parts hp).2.2.1) h'
        rw [e] at this; omega
      · omega
    · obtain ⟨a, _, b, c⟩ := (win_iff hq hp).1 h
      have e : q.sz = p.sz := by unfold Pf.sz; rw [a, hb]
      refine ⟨a.symm, ?_⟩
      rcases Nat.lt_or_ge p.ad q.ad with h' | h'
      · have := mult_step ((pk_parts hp).2.2.1) (e ▸ (pk_parts hq).2.2.1) h'
        omega
      · omega
  rcases cmp_neg.1 hc with (⟨a, b⟩ | ⟨_, b⟩) | ⟨_, _, b⟩
  · rw [key.1, b] at a; cases a
  · omega
  · omega

/-- A pool that is right. -/
def okPl (q : Pl) : Bool := q.p.pk && (decide (q.p.b ≤ q.n) && (decide (q.n ≤ (wd q.p.s : Int)) && decide (q.n ≤ q.p.b + 20)))
def folB (p q : Pf) : Bool := decide (cmpP p q < 0) && !ovP p q
/-- Pools from here on are right, behind r. -/
def poolsF : Option Pf → List Pl → Bool
  | _, [] => true
  | r, q :: t => (okPl q && (match r with | none => true | some r => folB r q.p)) && poolsF (some q.p) t
/-- The place of the first pool that has p. -/
def lpF (p : Pf) : Int → List Pl → Int
  | _, [] => -1
  | i, q :: t => if winP p q.p = true then i else lpF p (i + 1) t
def carB (ps : List Pl) (p : Pf) : Bool := ps.any fun q => (p.b == q.n) && winP p q.p
def bitsAt (ps : List Pl) (k : Int) : Int := (ps.getD k.toNat Pl.zero).n
def blocksI (ps : List Pl) : Option Pf → List Bk → Bool
  | _, [] => true
  | r, q :: t => ((ownB q.t && carB ps q.p) && (match r with | none => true | some r => folB r q.p)) && blocksI ps (some q.p) t
def blocksS (ps : List Pl) : Option Pf → List Bk → Bool
  | _, [] => true
  | r, q :: t => ((((q.p.pk && ownB q.t) && decide (0 ≤ lpF q.p 0 ps)) && (bitsAt ps (lpF q.p 0 ps) == q.p.b)) && (match r with | none => true | some r => decide (cmpP r q.p < 0))) && blocksS ps (some q.p) t
def planB (ps : List Pl) (bs : List Bk) : Bool := (decide (ps.length ≤ 20) && decide (bs.length ≤ 60)) && (poolsF none ps && blocksI ps none bs)

/-- Pools no two of which overlap. -/
def Dsj (ps : List Pl) : Prop := ps.Pairwise (fun q r => fol q.p r.p) ∧ ∀ q ∈ ps, okPl q = true
theorem okPl_pk {q : Pl} (h : okPl q = true) : q.p.pk = true := by unfold okPl at h; rw [Bool.and_eq_true] at h; exact h.1
theorem pools_dsj : ∀ (ps : List Pl) (r : Option Pf), (∀ p, r = some p → p.pk = true) → poolsF r ps = true → Dsj ps ∧ ∀ p, r = some p → ∀ q ∈ ps, fol p q.p
  | [], r, _, _ => ⟨⟨List.Pairwise.nil, fun _ h => by cases h⟩, fun _ _ _ h => by cases h⟩
  | q :: t, r, hr, h => by
      unfold poolsF at h
      rw [Bool.and_eq_true, Bool.and_eq_true] at h
      obtain ⟨⟨h1, h2⟩, h3⟩ := h
      have hq := okPl_pk h1
      obtain ⟨⟨d1, d2⟩, d3⟩ := pools_dsj t (some q.p) (fun p e => by cases e; exact hq) h3
      have d3' := d3 q.p rfl
      refine ⟨⟨List.pairwise_cons.2 ⟨fun r hr => d3' r hr, d1⟩, fun x hx => ?_⟩, fun p e x hx => ?_⟩
      · rcases List.mem_cons.1 hx with rfl | hx
        · exact h1
        · exact d2 x hx
      · subst e
        have h2' : folB p q.p = true := h2
        unfold folB at h2'
        rw [Bool.and_eq_true, decide_eq_true_eq, Bool.not_eq_true'] at h2'
        have hf := fol_of (hr p rfl) hq h2'.1 h2'.2
        rcases List.mem_cons.1 hx with rfl | hx
        · exact hf
        · exact fol_trans hf (d3' x hx)

theorem lpF_shift (p : Pf) : ∀ (ps : List Pl) (i : Int), 0 ≤ i → (lpF p i ps = -1 ∧ lpF p 0 ps = -1) ∨ (0 ≤ lpF p 0 ps ∧ lpF p i ps = lpF p 0 ps + i)
  | [], i, _ => Or.inl ⟨rfl, rfl⟩
  | q :: t, i, hi => by
      unfold lpF
      by_cases h : winP p q.p = true
      · rw [if_pos h, if_pos h]; exact Or.inr ⟨by omega, by omega⟩
      · rw [if_neg h, if_neg h]
        rcases lpF_shift p t (i + 1) (by omega) with ⟨a, b⟩ | ⟨a, b⟩ <;> rcases lpF_shift p t (0 + 1) (by omega) with ⟨c, d⟩ | ⟨c, d⟩
        · exact Or.inl ⟨a, c⟩
        · omega
        · omega
        · exact Or.inr ⟨by omega, by omega⟩
theorem lpF_step (p : Pf) (q : Pl) (t : List Pl) (h : winP p q.p = false) : (lpF p 0 (q :: t) = -1 ∧ lpF p 0 t = -1) ∨ (0 ≤ lpF p 0 t ∧ lpF p 0 (q :: t) = lpF p 0 t + 1) := by
  have e : lpF p 0 (q :: t) = lpF p (0 + 1) t := by
    conv => lhs; unfold lpF
    rw [if_neg (by rw [h]; simp)]
  rw [e]
  exact lpF_shift p t (0 + 1) (by omega)
theorem carved_eq (p : Pf) : ∀ ps : List Pl, Dsj ps → carB ps p = (decide (0 ≤ lpF p 0 ps) && (bitsAt ps (lpF p 0 ps) == p.b))
  | [], _ => rfl
  | q :: t, hd => by
      have hp := List.pairwise_cons.1 hd.1
      have ih := carved_eq p t ⟨hp.2, fun x hx => hd.2 x (List.mem_cons_of_mem _ hx)⟩
      have hc : carB (q :: t) p = (((p.b == q.n) && winP p q.p) || carB t p) := rfl
      rw [hc]
      cases h : winP p q.p
      · rw [Bool.and_false, Bool.false_or, ih]
        rcases lpF_step p q t h with ⟨a, b⟩ | ⟨a, b⟩
        · rw [a, b]; rfl
        · rw [b]
          have e1 : decide (0 ≤ lpF p 0 t) = true := decide_eq_true a
          have e2 : decide (0 ≤ lpF p 0 t + 1) = true := decide_eq_true (by omega)
          have e3 : bitsAt (q :: t) (lpF p 0 t + 1) = bitsAt t (lpF p 0 t) := by
            unfold bitsAt
            rw [show (lpF p 0 t + 1).toNat = (lpF p 0 t).toNat + 1 by omega, List.getD_cons_succ]
          rw [e1, e2, e3]
      · have hn : carB t p = false := by
          unfold carB
          rw [List.any_eq_false]
          intro x hx hw
          rw [Bool.and_eq_true] at hw
          exact fol_not h hw.2 (hp.1 x hx)
        rw [hn, Bool.and_true, Bool.or_false]
        have e : lpF p 0 (q :: t) = 0 := by unfold lpF; rw [if_pos h]
        rw [e]
        show (p.b == q.n) = (true && (q.n == p.b))
        rw [Bool.true_and, Bool.beq_comm]
theorem carB_pk {ps : List Pl} {p : Pf} (h : carB ps p = true) : p.pk = true := by
  obtain ⟨q, _, h⟩ := List.any_eq_true.1 h
  rw [Bool.and_eq_true] at h
  exact (win_pk h.2).1
theorem pw_three {ps : List Pl} (hd : ps.Pairwise (fun q r => fol q.p r.p)) {a b : Pl} (ha : a ∈ ps) (hb : b ∈ ps) : a = b ∨ fol a.p b.p ∨ fol b.p a.p := by
  induction ps with
  | nil => cases ha
  | cons x t ih =>
    have hp := List.pairwise_cons.1 hd
    rcases List.mem_cons.1 ha with ha' | ha' <;> rcases List.mem_cons.1 hb with hb' | hb'
    · exact Or.inl (ha'.trans hb'.symm)
    · subst ha'; exact Or.inr (Or.inl (hp.1 b hb'))
    · subst hb'; exact Or.inr (Or.inr (hp.1 a ha'))
    · exact ih hp.2 ha' hb'
/-- Two that are carved and rise lie apart. -/
theorem carved_apart {ps : List Pl} (hd : Dsj ps) {r p : Pf} (hr : carB ps r = true) (hp : carB ps p = true) : folB r p = decide (cmpP r p < 0) := by
  unfold folB
  cases hc : decide (cmpP r p < 0)
  · rfl
  · rw [decide_eq_true_eq] at hc
    obtain ⟨a, ha, h1⟩ := List.any_eq_true.1 hr
    obtain ⟨b, hb, h2⟩ := List.any_eq_true.1 hp
    rw [Bool.and_eq_true, beq_iff_eq] at h1 h2
    have hrp := (win_pk h1.2).1
    have hpp := (win_pk h2.2).1
    have : ovP r p = false := by
      rcases pw_three hd.1 ha hb with rfl | h | h
      · cases ho : ovP r p
        · rfl
        · exact absurd hc (same_of hrp hpp (h1.1.trans h2.1.symm) ho)
      · exact fol_ov hrp hpp (fol_in h1.2 h2.2 h)
      · rw [ov_symm]; exact fol_ov hpp hrp (fol_in h2.2 h1.2 h)
    rw [this]; rfl
theorem blocks_same {ps : List Pl} (hd : Dsj ps) : ∀ (bs : List Bk) (r : Option Pf), (∀ p, r = some p → carB ps p = true) → blocksS ps r bs = blocksI ps r bs
  | [], _, _ => rfl
  | q :: t, r, hr => by
      unfold blocksS blocksI
      have hc := carved_eq q.p ps hd
      cases hcar : carB ps q.p
      · rw [Bool.and_false, Bool.false_and, Bool.false_and]
        rw [hcar] at hc
        rw [Bool.and_assoc (q.p.pk && ownB q.t), ← hc, Bool.and_false, Bool.false_and, Bool.false_and]
      · rw [blocks_same hd t (some q.p) (fun p e => by cases e; exact hcar)]
        rw [hcar] at hc
        rw [Bool.and_assoc (q.p.pk && ownB q.t), ← hc, carB_pk hcar, Bool.true_and, Bool.and_true]
        congr 2
        cases r with
        | none => rfl
        | some r => exact (carved_apart hd (hr r rfl) hcar).symm

end Go.Proofs.YtdbcdichmmcnbaaGreat
