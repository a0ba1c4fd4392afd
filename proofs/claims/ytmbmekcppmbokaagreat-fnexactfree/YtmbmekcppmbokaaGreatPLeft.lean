/-
  What is left of a span, in plain mathematics: a list of spans that are taken, halves, and how many parts there are at most.
-/
import Derived.Test.YtmbmekcppmbokaaGreatBIWith
import Derived.Test.YtmbmekcppmbokaaGreatBSHalf
import Derived.Test.YtmbmekcppmbokaaGreatPRow
namespace Go.Proofs.YtmbmekcppmbokaaGreat
open Go.RowKit

/-- A span: where it begins, and how many bits are free. -/
structure Sp where
  s : Bool
  H : BitVec 64
  L : BitVec 64
  n : Nat

def Sp.ok (x : Sp) : Prop := okB x.s x.H.toInt x.L.toInt = true ∧ x.n ≤ wd x.s ∧ cH x.n x.H = x.H ∧ cL x.n x.L = x.L
def Sp.pre (x : Sp) : Pf := ⟨x.s, x.H, x.L, (wd x.s : Int) - x.n⟩
def Sp.spn (x : Sp) : Pf := ⟨x.s, x.H, x.L, x.n⟩
def wB (x y : Sp) : Bool := withB x.s x.H x.L x.n y.s y.H y.L y.n
def lowS (x : Sp) (k : Nat) : Sp := ⟨x.s, x.H, x.L, k⟩
def uppS (x : Sp) (k : Nat) : Sp := ⟨x.s, cH k (fH (k + 1) x.H), cL k (fL (k + 1) x.L), k⟩
def leftM : Nat → Sp → List Sp → List Sp
  | 0, x, l => if l.any (wB x) = true then [] else [x]
  | k + 1, x, l => if l.any (wB x) = true then [] else if l.filter (fun t => wB t x) = [] then [x] else leftM k (lowS x k) (l.filter fun t => wB t x) ++ leftM k (uppS x k) (l.filter fun t => wB t x)

theorem Sp.ok.pok {x : Sp} (h : x.ok) : pokB x.s x.H x.L ((wd x.s : Int) - x.n) = true := by
  obtain ⟨h1, h2, h3, h4⟩ := h
  have e : ((wd x.s : Int) - ((wd x.s : Int) - x.n)).toNat = x.n := by omega
  unfold pokB hasB
  rw [h1, e, h3, h4]
  have : decide (0 ≤ (wd x.s : Int) - x.n ∧ (wd x.s : Int) - x.n ≤ (wd x.s : Int)) = true := decide_eq_true (by omega)
  rw [this]; simp
theorem Sp.of_pok {p : Pf} (h : pokB p.s p.H p.L p.b = true) : ∃ x : Sp, x.ok ∧ x.pre = p := by
  obtain ⟨h1, h2, h3⟩ := pokB_parts h
  refine ⟨⟨p.s, p.H, p.L, ((wd p.s : Int) - p.b).toNat⟩, ⟨h1, by show ((wd p.s : Int) - p.b).toNat ≤ wd p.s; omega, ?_⟩, ?_⟩
  · unfold hasB at h3
    simp only [Bool.and_eq_true, beq_iff_eq] at h3
    exact h3.2
  · unfold Sp.pre
    obtain ⟨s, H, L, b⟩ := p
    simp only [Pf.mk.injEq, true_and]
    simp only at h2
    omega
theorem Sp.ok.le {x : Sp} (h : x.ok) : x.n ≤ 128 := Nat.le_trans h.2.1 (wd_le' x.s)
theorem win_wB {x y : Sp} (hx : x.ok) (hy : y.ok) : winB x.s x.H x.L ((wd x.s : Int) - x.n) y.s y.H y.L ((wd y.s : Int) - y.n) = wB x y :=
  win_with hx.pok hy.pok (by omega) (by omega)
theorem wB_iff (x y : Sp) : wB x y = true ↔ x.n ≤ y.n ∧ x.s = y.s ∧ cH y.n x.H = y.H ∧ cL y.n x.L = y.L := by
  unfold wB withB hasB
  simp only [Bool.and_eq_true, decide_eq_true_eq, beq_iff_eq]
theorem c0H (H : BitVec 64) : cH 0 H = H := by
  unfold cH; rw [show ~~~ mh 0 = BitVec.allOnes 64 by decide, BitVec.and_allOnes]
theorem c0L (L : BitVec 64) : cL 0 L = L := by
  unfold cL; rw [show ~~~ ml 0 = BitVec.allOnes 64 by decide, BitVec.and_allOnes]
/-- A single address has nothing in it but itself. -/
theorem near_zero {x : Sp} (h0 : x.n = 0) {l : List Sp} (h : l.filter (fun t => wB t x) ≠ []) : l.any (wB x) = true := by
  obtain ⟨t, ht⟩ := List.exists_mem_of_ne_nil _ h
  obtain ⟨hm, hw⟩ := List.mem_filter.1 ht
  rw [List.any_eq_true]
  refine ⟨t, hm, ?_⟩
  obtain ⟨h1, h2, h3, h4⟩ := (wB_iff t x).1 hw
  have tn : t.n = 0 := by omega
  rw [h0, c0H] at h3
  rw [h0, c0L] at h4
  exact (wB_iff x t).2 ⟨by omega, h2.symm, by rw [tn, c0H, h3], by rw [tn, c0L, h4]⟩
theorem low_ok {x : Sp} {k : Nat} (h : x.ok) (hn : x.n = k + 1) : (lowS x k).ok := by
  obtain ⟨h1, h2, h3, h4⟩ := h
  rw [hn] at h2 h3 h4
  exact ⟨h1, by show k ≤ wd x.s; omega, cH_less k _ h3, cL_less k _ h4⟩
theorem upp_ok {x : Sp} {k : Nat} (h : x.ok) (hn : x.n = k + 1) : (uppS x k).ok := by
  obtain ⟨h1, h2, h3, h4⟩ := h
  rw [hn] at h2
  exact ⟨okB_clr x.s _ _ k (okB_fill x.s x.H x.L (k + 1) h2 h1), by show k ≤ wd x.s; omega, cH_idem k _, cL_idem k _⟩
theorem halves_part {x t : Sp} {k : Nat} (h : x.ok) (hn : x.n = k + 1) (h1 : wB t (lowS x k) = true) (h2 : wB t (uppS x k) = true) : False := by
  obtain ⟨_, _, a3, a4⟩ := (wB_iff _ _).1 h1
  obtain ⟨_, _, b3, b4⟩ := (wB_iff _ _).1 h2
  have e3 : x.H = cH k (fH (k + 1) x.H) := a3.symm.trans b3
  have e4 : x.L = cL k (fL (k + 1) x.L) := a4.symm.trans b4
  obtain ⟨_, _, h3, h4⟩ := h
  have := wd_le' x.s
  rw [hn] at h3 h4
  rcases Nat.lt_or_ge k 64 with hk | hk
  · exact up_neL k hk _ h4 e4.symm
  · exact up_neH k (by omega) hk _ h3 e3.symm
theorem two_count {α : Type} (p q : α → Bool) : ∀ l : List α, (∀ t ∈ l, p t = true → q t = true → False) → (l.filter p).length + (l.filter q).length ≤ l.length
  | [], _ => by simp
  | t :: l, h => by
      have ih := two_count p q l (fun u hu => h u (List.mem_cons_of_mem _ hu))
      have ht := h t (List.mem_cons_self ..)
      rw [List.filter_cons, List.filter_cons, List.length_cons]
      cases hp : p t <;> cases hq : q t <;> simp <;> first | omega | (exact absurd hq (by intro; exact ht hp hq))
theorem left_len : ∀ (k : Nat) (x : Sp) (l : List Sp), x.ok → x.n = k → (leftM k x l).length ≤ (l.filter fun t => wB t x).length * k + 1
  | 0, x, l, _, _ => by
      unfold leftM; split <;> simp
  | k + 1, x, l, hx, hn => by
      unfold leftM
      split
      · simp
      · split
        · simp
        · rename_i hne
          have i1 := left_len k (lowS x k) (l.filter fun t => wB t x) (low_ok hx hn) rfl
          have i2 := left_len k (uppS x k) (l.filter fun t => wB t x) (upp_ok hx hn) rfl
          have hc := two_count (fun t => wB t (lowS x k)) (fun t => wB t (uppS x k)) (l.filter fun t => wB t x) (fun t _ a b => halves_part hx hn a b)
          have hpos : 0 < (l.filter fun t => wB t x).length := List.length_pos_iff.2 hne
          generalize (l.filter fun t => wB t x) = N at *
          generalize (N.filter fun t => wB t (lowS x k)).length = c1 at *
          generalize (N.filter fun t => wB t (uppS x k)).length = c2 at *
          rw [List.length_append, Nat.mul_succ]
          have hm : (c1 + c2) * k ≤ N.length * k := Nat.mul_le_mul_right k hc
          rw [Nat.add_mul] at hm
          omega
theorem left_le {x : Sp} (hx : x.ok) (l : List Sp) (hl : l.length ≤ 300) : (leftM x.n x l).length ≤ 38401 := by
  have h := left_len x.n x l hx rfl
  have h1 : (l.filter fun t => wB t x).length ≤ 300 := Nat.le_trans (List.length_filter_le _ _) hl
  have h2 : (l.filter fun t => wB t x).length * x.n ≤ 300 * 128 := Nat.mul_le_mul h1 hx.le
  omega

end Go.Proofs.YtmbmekcppmbokaaGreat
