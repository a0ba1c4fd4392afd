/-
  What the rows out of a byte are, for every byte; small rules on a region's worlds.
-/
import Derived.Test.YtamaanbnlnpjcaaV12L
import Derived.Test.YtamaanbnlnpjcaaV12P
import Derived.Test.YtamaanbnlnpjcaaCEq
namespace Go.Proofs.Ytamaanbnlnpjcaa
open Go.ChangeShapes Go.WideShapes Go.ChangeAt Go.RowKit Go.Joins Go.Deep

theorem get_small : ∀ z : Fin 128, ofB 8 z.val 1 = lsB 7 z.val 1 ∧ idsB 0 (lsB 7 z.val 1) = true ∧ byI 0 (lsB 7 z.val 1) = (z.val : Int) ∧ decide (0 < (lsB 7 z.val 1).length) = decide (0 < z.val) := of_decide_eq_true (by kernel_rfl)
theorem get_big : ∀ z : Fin 128, idsB 0 (ofB 8 (128 + z.val) 1) = false ∧ idsB 0 (lsB 7 (128 + z.val) 1) = true ∧ byI 0 (lsB 7 (128 + z.val) 1) = (z.val : Int) := of_decide_eq_true (by kernel_rfl)
theorem ls_len : ∀ z : Fin 256, (ofB 8 z.val 1).length ≤ 8 ∧ (lsB 7 z.val 1).length ≤ 8 := of_decide_eq_true (by kernel_rfl)
theorem drew_cell (w : World) (a : Addr) : w.drew.cell? a = w.cell? a := rfl
theorem drew_frozen (w : World) (a : Addr) : w.drew.frozen? a = w.frozen? a := rfl
theorem drew_size_lt {w : World} {n : Nat} (h : n < w.heap.size) : n < w.drew.heap.size := h
theorem OwnG.put2 {α : Type} {K : Kd α} {t : TypeId} {w : World} {B x : Nat} {v u u' : Value} {ps : List α} (h : OwnG K t w B v ps) (hx : ∀ k, v.ownBlock = some k → k ≠ x) : OwnG K t ((w.setCell ⟨x, 0, none⟩ u).setCell ⟨x, 1, none⟩ u') B v ps :=
  OwnG.grown (OwnG.grown h (grown_cellG w x 0 u) (fun k hk e => hx k hk (by simpa using e.symm))) (grown_cellG _ x 1 u') (fun k hk e => hx k hk (by simpa using e.symm))
theorem boxZ2 (w : World) (t : TypeId) : (w.alloc (.cells #[.slice none 0 0, .slice none 0 0] t)).cell? ⟨w.heap.size, 0, none⟩ = some (.slice none 0 0) ∧ (w.alloc (.cells #[.slice none 0 0, .slice none 0 0] t)).cell? ⟨w.heap.size, 1, none⟩ = some (.slice none 0 0) := box2D w t _ _
theorem frzZ2 (w : World) (t : TypeId) (o : Nat) : (w.alloc (.cells #[.slice none 0 0, .slice none 0 0] t)).frozen? ⟨w.heap.size, o, none⟩ = false := frz2 w t _ _ o
/-- Whether two bytes are a group. -/
def gotB (x y : Nat) : Bool := decide (0 < x) && (decide (x < 128) && decide (y < 128))
theorem got_i (x y : Nat) (hx : x < 256) (hy : y < 256) : grB (ofB 8 x 1) (ofB 8 y 1) = gotB x y := by
  unfold grB gotB
  by_cases h1 : x < 128
  · obtain ⟨a1, a2, _, a4⟩ := get_small ⟨x, h1⟩
    simp only at a1 a2 a4
    rw [a1, a2, a4, decide_eq_true h1]
    by_cases h2 : y < 128
    · obtain ⟨b1, b2, _, _⟩ := get_small ⟨y, h2⟩
      simp only at b1 b2
      rw [b1, b2, decide_eq_true h2]; simp
    · obtain ⟨b1, _, _⟩ := get_big ⟨y - 128, by omega⟩
      rw [show 128 + (⟨y - 128, by omega⟩ : Fin 128).val = y by simp; omega] at b1
      rw [b1, decide_eq_false h2]; simp
  · obtain ⟨a1, _, _⟩ := get_big ⟨x - 128, by omega⟩
    rw [show 128 + (⟨x - 128, by omega⟩ : Fin 128).val = x by simp; omega] at a1
    rw [a1, decide_eq_false h1]; simp
theorem got_s (x y : Nat) (hx : x < 256) (hy : y < 256) : (grB (lsB 7 x 1) (lsB 7 y 1) && decide ([byI 0 (lsB 7 x 1), byI 0 (lsB 7 y 1)] = [(x : Int), (y : Int)])) = gotB x y := by
  unfold grB gotB
  by_cases h1 : x < 128
  · obtain ⟨_, a2, a3, a4⟩ := get_small ⟨x, h1⟩
    simp only at a2 a3 a4
    rw [a2, a3, a4, decide_eq_true h1]
    by_cases h2 : y < 128
    · obtain ⟨_, b2, b3, _⟩ := get_small ⟨y, h2⟩
      simp only at b2 b3
      rw [b2, b3, decide_eq_true h2]; simp
    · obtain ⟨_, b2, b3⟩ := get_big ⟨y - 128, by omega⟩
      rw [show 128 + (⟨y - 128, by omega⟩ : Fin 128).val = y by simp; omega] at b2 b3
      have hne : ¬ ([(x : Int), ((y - 128 : Nat) : Int)] = [(x : Int), (y : Int)]) := by simp; omega
      rw [b2, b3, decide_eq_false h2, decide_eq_false hne]; simp
  · obtain ⟨_, a2, a3⟩ := get_big ⟨x - 128, by omega⟩
    rw [show 128 + (⟨x - 128, by omega⟩ : Fin 128).val = x by simp; omega] at a2 a3
    have hne : ¬ ([((x - 128 : Nat) : Int), byI 0 (lsB 7 y 1)] = [(x : Int), (y : Int)]) := by simp; omega
    rw [a3, decide_eq_false h1, decide_eq_false hne]; simp
theorem got_same (x y : Nat) (h : gotB x y = true) : ofB 8 x 1 = lsB 7 x 1 ∧ ofB 8 y 1 = lsB 7 y 1 := by
  unfold gotB at h
  simp only [Bool.and_eq_true, decide_eq_true_eq] at h
  exact ⟨(get_small ⟨x, h.2.1⟩).1, (get_small ⟨y, h.2.2⟩).1⟩

end Go.Proofs.Ytamaanbnlnpjcaa
