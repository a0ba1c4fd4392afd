/-
  Boxes.
-/
import Derived.Test.YtamaanbnlnpjcaaV15G
namespace Go.Proofs.Ytamaanbnlnpjcaa
open Go.ChangeShapes Go.WideShapes Go.ChangeAt Go.RowKit Go.Joins Go.Deep

/-- A box of cells. -/
structure Bx (x : World) (p : Nat) (vs : List Value) : Prop where
  cel : ∀ i v, vs[i]? = some v → x.cell? ⟨p, i, none⟩ = some v
  frz : ∀ o, x.frozen? ⟨p, o, none⟩ = false
  lt : p < x.heap.size
theorem Bx.set {x : World} {p : Nat} {vs : List Value} (h : Bx x p vs) (i : Nat) (u v : Value) (hu : vs[i]? = some u) : Bx (x.setCell ⟨p, i, none⟩ v) p (vs.set i v) := by
  refine ⟨fun j y hy => ?_, fun o => by simp [go_sem, h.frz], by simpa using h.lt⟩
  by_cases e : j = i
  · subst e
    have c := h.cel j u hu
    rw [List.getElem?_set_self (by rcases Nat.lt_or_ge j vs.length with h' | h'; exact h'; rw [List.getElem?_eq_none h'] at hu; cases hu)] at hy
    cases hy
    simp [go_sem, c]
  · rw [List.getElem?_set_ne (fun h => e h.symm)] at hy
    have c := h.cel j y hy
    have e' : ¬ i = j := fun h => e h.symm
    simp [go_sem, c]
theorem Bx.later {x y : World} {p : Nat} {vs : List Value} (h : Bx x p vs) (k : Below x.heap.size x y) : Bx y p vs :=
  ⟨fun i v hv => (k.cell (p := ⟨p, i, none⟩) h.lt).trans (h.cel i v hv), fun o => (k.frozen (p := ⟨p, o, none⟩) h.lt).trans (h.frz o), Nat.lt_of_lt_of_le h.lt k.size⟩
theorem Bx.far {x : World} {p : Nat} {vs : List Value} (h : Bx x p vs) {b i : Nat} (hb : b ≠ p) (v : Value) : Bx (x.setCell ⟨b, i, none⟩ v) p vs :=
  have hb' := hb.symm
  ⟨fun j y hy => by have c := h.cel j y hy; simp [go_sem, c], fun o => by simp [go_sem, h.frz], by simpa using h.lt⟩
theorem Bx.new (x : World) (vs : List Value) (t : TypeId) : Bx (x.alloc (.cells vs.toArray t)) x.heap.size vs :=
  ⟨fun i v hv => by simp [go_sem, hv], fun o => by simp [go_sem], by simp⟩
theorem Bx.grown {x y : World} {p : Nat} {row : Option Nat} {vs : List Value} (h : Bx x p vs) (k : x.grownBy y row) (hp : some p ≠ row) : Bx y p vs := by
  have hb : y.heap[p]? = x.heap[p]? := k.block p h.lt hp
  exact ⟨fun i v hv => (World.cell?_of_block (w := x) hb).trans (h.cel i v hv), fun o => (World.frozen?_of_block (w := x) (a := ⟨p, o, none⟩) hb).trans (h.frz o), Nat.lt_of_lt_of_le h.lt k.size⟩
theorem kpt_cell (X : World) (b i : Nat) (v : Value) : Kpt (fun q => q ≠ b) X (X.setCell ⟨b, i, none⟩ v) := ⟨rfl, rfl, rfl, by simp [World.setCell], fun k _ hk => Below.heap_setCell X ⟨b, i, none⟩ v k hk⟩
theorem OwnG.low {α : Type} {K : Kd α} {t : TypeId} {X : World} {B b i : Nat} {v : Value} {ps : List α} (h : OwnG K t X B v ps) (hb : b < B) (u : Value) : OwnG K t (X.setCell ⟨b, i, none⟩ u) B v ps := h.kpt (kpt_cell X b i u) (fun q hq => by have := (h.lt q hq).1; omega)

end Go.Proofs.Ytamaanbnlnpjcaa
