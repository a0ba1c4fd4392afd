/-
  Who led: a map of those that did; what both functions answer.
-/
import Derived.Test.YtjiplphfpkhmpaaJB
import Derived.Maps.OwnSet
import Derived.Maps.OwnOps
namespace Go.Proofs.Ytjiplphfpkhmpaa
open Go.RowKit Go.Maps

def l0 (x : List Int) : Int := x.getD 0 0
def l1 (x : List Int) : Int := x.getD 1 0
/-- Of two that led: not in one term, or the same. -/
def prF (L : List (List Int)) (i k : Nat) : Bool := match L[i]?, L[k]? with
  | some x, some y => !((l0 x == l0 y) && (l1 x != l1 y))
  | _, _ => true
def oneF (L : List (List Int)) (i : Nat) : Bool := allN (prF L i) i
theorem prF_at {L : List (List Int)} {i k : Nat} {x y : List Int} (h : L[i]? = some x) (g : L[k]? = some y) : prF L i k = !((l0 x == l0 y) && (l1 x != l1 y)) := by
  unfold prF
  rw [h, g]
/-- A datum of a map holds just what the first i say. -/
structure HasL (D : DataW Unit) (L : List (List Int)) (i : Nat) : Prop where
  im : IsMap D
  all : ∀ k y, k < i → L[k]? = some y → Maps.has D (.int .i64 (l0 y)) = true ∧ D.atKey (.int .i64 (l0 y)) (.lit (.int .i64 0)) = .lit (.int .i64 (l1 y))
  only : ∀ t, Maps.has D (.int .i64 t) = true → ∃ k y, k < i ∧ L[k]? = some y ∧ l0 y = t
theorem HasL.zero (L : List (List Int)) : HasL (.map []) L 0 := ⟨⟨_, rfl⟩, fun k y h => absurd h (Nat.not_lt_zero _), fun t h => by cases h⟩
theorem key_lit (t : Int) : WideAt.IsKeyLit (.int .i64 t) := trivial
/-- Another one in its term. -/
theorem HasL.bad {D : DataW Unit} {L : List (List Int)} {i : Nat} {x : List Int} (h : HasL D L i) (hx : L[i]? = some x) {c : Int} (hh : Maps.has D (.int .i64 (l0 x)) = true) (hc : D.atKey (.int .i64 (l0 x)) (.lit (.int .i64 0)) = .lit (.int .i64 c)) (hne : c ≠ l1 x) : oneF L i = false := by
  obtain ⟨k, y, hk, hy, e⟩ := h.only _ hh
  have h1 := (h.all k y hk hy).2
  rw [e, hc] at h1
  have h2 : c = l1 y := (Lit.int.inj (DataW.lit.inj h1)).2
  refine allN_bad (i := k) ?_ hk
  rw [prF_at hx hy, e, ← h2]
  simp [Ne.symm hne]
/-- The same, or none. -/
theorem HasL.good {D : DataW Unit} {L : List (List Int)} {i : Nat} {x : List Int} (h : HasL D L i) (hx : L[i]? = some x) {c : Int} (hc : D.atKey (.int .i64 (l0 x)) (.lit (.int .i64 0)) = .lit (.int .i64 c)) (hq : Maps.has D (.int .i64 (l0 x)) = false ∨ c = l1 x) :
    oneF L i = true ∧ HasL (D.put (.int .i64 (l0 x)) (.lit (.int .i64 (l1 x)))) L (i + 1) := by
  have key : ∀ k y, k < i → L[k]? = some y → l0 y = l0 x → l1 y = l1 x := by
    intro k y hk hy e
    obtain ⟨g1, g2⟩ := h.all k y hk hy
    rw [e] at g1 g2
    rcases hq with hq | hq
    · rw [hq] at g1; cases g1
    · rw [hc, hq] at g2
      exact ((Lit.int.inj (DataW.lit.inj g2)).2).symm
  refine ⟨allN_of (fun k hk => ?_), ⟨h.im.put _ _, fun k y hk hy => ?_, fun t ht => ?_⟩⟩
  · obtain ⟨y, hy⟩ : ∃ y, L[k]? = some y := ⟨_, List.getElem?_eq_getElem (by have := (List.getElem?_eq_some_iff.1 hx).1; omega)⟩
    rw [prF_at hx hy]
    by_cases e : l0 y = l0 x
    · rw [key k y hk hy e]; simp
    · simp [Ne.symm e]
  · by_cases e : l0 y = l0 x
    · rw [e, has_put_same h.im (key_lit _), atKey_put_same h.im (key_lit _)]
      refine ⟨rfl, ?_⟩
      by_cases hki : k < i
      · rw [key k y hki hy e]
      · have : k = i := by omega
        subst this
        rw [hx] at hy
        rw [Option.some.inj hy]
    · have hki : k < i := by
        by_cases hki : k < i
        · exact hki
        · have : k = i := by omega
          subst this
          rw [hx] at hy
          exact absurd (by rw [Option.some.inj hy]) e
      have hne : (Lit.int .i64 (l0 y)) ≠ .int .i64 (l0 x) := fun q => e ((Lit.int.inj q).2)
      rw [has_put_other hne, atKey_put_other hne]
      exact h.all k y hki hy
  · by_cases e : t = l0 x
    · exact ⟨i, x, by omega, hx, e.symm⟩
    · have hne : (Lit.int .i64 t) ≠ .int .i64 (l0 x) := fun q => e ((Lit.int.inj q).2)
      rw [has_put_other hne] at ht
      obtain ⟨k, y, hk, hy, g⟩ := h.only t ht
      exact ⟨k, y, by omega, hy, g⟩

theorem own_later {P : Program} {kt : TypeId} {R : Value → Option (DataW Unit × List MemPlace)} {W V : World} {b n : Nat} {D : DataW Unit} (h : W.ownsMap P kt R b n D) (hb : Below W.heap.size W V) : V.ownsMap P kt R b n D := by
  have hlt := h.lt
  obtain ⟨es, clock, hg, F, hs, hD⟩ := h
  exact ⟨es, clock, (hb.block b hlt).trans hg, F, hs, hD⟩
theorem wpl_mkmap {P : Program} {ops : Array Oper} {rest : List Oper} {a : Act} {w : World} {Q : Exit → Act → World → Prop} {d : Option Tmp} {ty : TypeId} {ps : String} {af : Array Edge} {t : TypeId} (kt : TypeId) (R : Value → Option (DataW Unit × List MemPlace))
    (k : ∀ V, V.ownsMap P kt R w.heap.size 0 (.map []) → Below w.heap.size w V → wpList P ops Q rest (a.put d (.map (some w.heap.size))) V) : wpList P ops Q (⟨d, .makeMap t none, ty, ps, af, none⟩ :: rest) a w :=
  wpl_val (v := .map (some w.heap.size)) (w' := w.alloc (.map #[] 0)) (by simp [execOp, run_makeMap]) (k _ (World.ownsMap_made w P kt R) (below_new _ _))
theorem Try.lawInt : Keyed Try.prog 3 := int_keyed Try.underlying3
theorem Try.zeroInt (w : World) : (zeroValue 3).run Try.prog w = .ok (.int .i64 0) w := by kernel_rfl
/-- A row's element, where it lies. -/
theorem At.out {α : Type} {T : Cd α} {W : World} {B p q j : Nat} {y : α} (h : At T W B (some ⟨p, q, none⟩) j y) : ∃ us, p < W.heap.size ∧ Seg W p (q + j * T.k) us ∧ T.rep W B us y := by
  obtain ⟨p', q', us, e, _, hp, hs, hr⟩ := h
  simp only [Option.some.injEq, Addr.mk.injEq, and_true] at e
  obtain ⟨rfl, rfl⟩ := e
  exact ⟨us, hp, hs, hr⟩
/-- One that led. -/
structure LedC (W : World) (p off : Nat) (vs : List Value) (x : List Int) : Prop where
  seg : Seg W p off vs
  len : vs.length = 2
  one : One vs
  c0 : vs[0]? = some (.int .i64 (l0 x))
  c1 : vs[1]? = some (.int .i64 (l1 x))
theorem led_at {W : World} {p q j : Nat} {x : List Int} (h : At cIntA2 W 0 (some ⟨p, q, none⟩) j x) : ∃ vs, p < W.heap.size ∧ LedC W p (q + j * 2) vs x := by
  obtain ⟨us, hp, hs, hr⟩ := h.out
  have hl := cIntA2.len hr
  have h1 := cIntA2.one hr
  obtain ⟨rfl, hx⟩ := hr
  match x, hx with
  | [x0, x1], _ => exact ⟨_, hp, hs, hl, h1, rfl, rfl⟩

end Go.Proofs.Ytjiplphfpkhmpaa
