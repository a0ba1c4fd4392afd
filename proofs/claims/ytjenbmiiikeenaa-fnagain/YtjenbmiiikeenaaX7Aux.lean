/-
  Small rules on cells and rows along a walk.
-/
import Derived.Test.YtjenbmiiikeenaaV7Own
import Derived.Test.YtjenbmiiikeenaaV7SDk
namespace Go.Proofs.Ytjenbmiiikeenaa
open Go.RowKit

theorem cell_grown {w w' : World} {r : Option Nat} {b o : Nat} {u : Value} (hg : w.grownBy w' r) (h : w.cell? ⟨b, o, none⟩ = some u) (hne : ∀ k, r = some k → k ≠ b) : w'.cell? ⟨b, o, none⟩ = some u :=
  (World.cell?_of_block (w := w) (hg.block b (World.block_lt_of_cell? w _ h) (fun e => hne b e.symm rfl))).trans h
theorem frz_grown {w w' : World} {r : Option Nat} {b o : Nat} (hg : w.grownBy w' r) (hb : b < w.heap.size) (h : w.frozen? ⟨b, o, none⟩ = false) (hne : ∀ k, r = some k → k ≠ b) : w'.frozen? ⟨b, o, none⟩ = false :=
  (World.frozen?_of_block (w := w) (hg.block b hb (fun e => hne b e.symm rfl))).trans h
theorem cell_set1 {w : World} {b o x o' : Nat} {u v : Value} (h : w.cell? ⟨b, o, none⟩ = some u) (hne : b ≠ x) : (w.setCell ⟨x, o', none⟩ v).cell? ⟨b, o, none⟩ = some u := by
  rw [World.cell?_of_block (w := w) ((grown_cellG w x o' v).block b (World.block_lt_of_cell? w _ h) (fun e => hne (by simpa using e)))]
  exact h
theorem frz_set1 {w : World} {b o x o' : Nat} {v : Value} (h : w.frozen? ⟨b, o, none⟩ = false) : (w.setCell ⟨x, o', none⟩ v).frozen? ⟨b, o, none⟩ = false := by
  simpa [go_sem] using h
theorem own_some {α : Type} {K : Kd α} {t : TypeId} {w : World} {B n c : Nat} {a : Option Addr} {ps : List α} (h : OwnG K t w B (.slice a n c) ps) (hn : 0 < n) : ∃ g, a = some ⟨g, 0, none⟩ := by
  rcases h.2 with ⟨hv, _⟩ | ⟨g, cap', cur, hv, _⟩
  · simp at hv; omega
  · simp at hv; exact ⟨g, hv.1⟩
theorem ob_len (a : Option Addr) (n c n' c' : Nat) : (Value.slice a n c).ownBlock = (Value.slice a n' c').ownBlock := by cases a <;> rfl
theorem grown_drew7 (w : World) (r : Option Nat) : w.grownBy w.drew r := ⟨rfl, rfl, rfl, Nat.le_refl _, fun _ _ _ => rfl⟩
def Stp (p : Prop) : Prop := p
theorem stp {p : Prop} (h : Stp p) : p := h
/-- Behind an append the row's block is none that is newer than it and older than the append. -/
theorem app_ne {a a9 : Option Addr} {n c n9 c9 x L H : Nat} (ht : a9 = a ∨ a9 = some ⟨H, 0, none⟩) (h1 : ∀ k, (Value.slice a n c).ownBlock = some k → k < L) (h2 : L ≤ x) (h3 : x < H) : ∀ k, (Value.slice a9 n9 c9).ownBlock = some k → k ≠ x := by
  intro k hk e
  rcases ht with h | h
  · rw [h] at hk
    have := h1 k ((ob_len a n c n9 c9).trans hk)
    omega
  · rw [h, ob_some, Option.some.injEq] at hk
    omega
theorem dk_next {ls : List Ss} {N : Int} (h : dkB ls N = true) : (ls.length : Int) ≤ 12 ∧ 1 ≤ N ∧ N ≤ 1000000 ∧ sesF N 0 ls = true := by
  unfold dkB at h
  simp only [Bool.and_eq_true, decide_eq_true_eq] at h
  exact ⟨h.1.1, h.1.2.1, h.1.2.2, h.2⟩

end Go.Proofs.Ytjenbmiiikeenaa
