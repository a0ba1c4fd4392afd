/-
  The program's Release.
-/
import Derived.Test.YtafbekjpmjjlpaaGreatDoorV6Hld
import Derived.Test.YtafbekjpmjjlpaaGreatDoorV6Code
import Derived.Test.YtafbekjpmjjlpaaGreatDoorV6Own
import Derived.Test.YtafbekjpmjjlpaaGreatDoorV6Del
namespace Go.Proofs.YtafbekjpmjjlpaaGreatDoor
open Go.RowKit

theorem cell_set1 {w : World} {b o x o' : Nat} {u v : Value} (h : w.cell? ⟨b, o, none⟩ = some u) (hne : b ≠ x) : (w.setCell ⟨x, o', none⟩ v).cell? ⟨b, o, none⟩ = some u := by
  rw [World.cell?_of_block (w := w) ((grown_cellG w x o' v).block b (World.block_lt_of_cell? w _ h) (fun e => hne (by simpa using e)))]
  exact h
theorem frz_set1 {w : World} {b o x o' : Nat} {v : Value} (h : w.frozen? ⟨b, o, none⟩ = false) : (w.setCell ⟨x, o', none⟩ v).frozen? ⟨b, o, none⟩ = false := by
  simpa [go_sem] using h
theorem own_some {α : Type} {K : Kd α} {t : TypeId} {w : World} {B n c : Nat} {a : Option Addr} {ps : List α} (h : OwnG K t w B (.slice a n c) ps) (hn : 0 < n) : ∃ g, a = some ⟨g, 0, none⟩ := by
  rcases h.2 with ⟨hv, _⟩ | ⟨g, cap', cur, hv, _⟩
  · simp at hv; omega
  · simp at hv; exact ⟨g, hv.1⟩
theorem cell_grown {w w' : World} {r : Option Nat} {b o : Nat} {u : Value} (hg : w.grownBy w' r) (h : w.cell? ⟨b, o, none⟩ = some u) (hne : ∀ k, r = some k → k ≠ b) : w'.cell? ⟨b, o, none⟩ = some u :=
  (World.cell?_of_block (w := w) (hg.block b (World.block_lt_of_cell? w _ h) (fun e => hne b e.symm rfl))).trans h
end Go.Proofs.YtafbekjpmjjlpaaGreatDoor
