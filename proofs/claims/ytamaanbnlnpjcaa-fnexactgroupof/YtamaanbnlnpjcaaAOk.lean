/-
  The small functions that the exact laws of chapter 1 call (toAddr, both AddrOk) return what their plain twins say; nothing old in memory turns.
-/
import Derived.Test.YtamaanbnlnpjcaaRows
import Derived.WalkKit
import Derived.WalkSpells
import Derived.WalkLawsBesides
namespace Go.Proofs.Ytamaanbnlnpjcaa
open Go.RowKit

def okB (s : Bool) (h l : Int) : Bool := s || (h == 0 && (decide (0 ≤ l) && decide (l ≤ 4294967295)))

theorem okB_t (h l : Int) : okB true h l = true := by simp [okB]
theorem okB_yes (l : Int) (h0 : 0 ≤ l) (h1 : l ≤ 4294967295) : okB false 0 l = true := by simp [okB, h0, h1]
theorem okB_h (h l : Int) (hh : (h == 0) = false) : okB false h l = false := by simp [okB, hh]
theorem okB_lo (l : Int) (h0 : ¬ 0 ≤ l) : okB false 0 l = false := by simp [okB, h0]
theorem okB_hi (l : Int) (h1 : ¬ l ≤ 4294967295) : okB false 0 l = false := by simp [okB, h1]

/-- What lay below n reads as it did, behind whatever only makes memory from n on: two rules for a walk. -/
theorem olds {W w1 : World} {n : Nat} (hb : Below n W w1) :
    (∀ b o, b < n → w1.cell? ⟨b, o, none⟩ = W.cell? ⟨b, o, none⟩) ∧ (∀ b o, b < n → w1.frozen? ⟨b, o, none⟩ = W.frozen? ⟨b, o, none⟩) :=
  ⟨fun _ _ h => hb.cell h, fun _ _ h => hb.frozen h⟩

theorem olds_k {K : Prop} {W w1 : World} {B : Nat} (n : Nat) (hb : Below B W w1) (hn : n ≤ B)
    (k : (∀ b o, b < n → w1.cell? ⟨b, o, none⟩ = W.cell? ⟨b, o, none⟩) → (∀ b o, b < n → w1.frozen? ⟨b, o, none⟩ = W.frozen? ⟨b, o, none⟩) → K) : K :=
  k (olds (hb.mono hn)).1 (olds (hb.mono hn)).2

theorem ltk {K : Prop} (a b : Nat) (h : a < b) (k : a < b → K) : K := k h

/-- The three cells of a box that the call itself has laid, behind whatever only makes memory. -/
theorem box3 {w w2 : World} {a b c : Value} {T : TypeId} (hb : Below (w.heap.size + 1) (w.alloc (.cells #[a, b, c] T)) w2) :
    w2.cell? ⟨w.heap.size, 0, none⟩ = some a ∧ w2.cell? ⟨w.heap.size, 1, none⟩ = some b ∧ w2.cell? ⟨w.heap.size, 2, none⟩ = some c := by
  refine ⟨?_, ?_, ?_⟩ <;> (rw [hb.cell (by simp)]; simp [go_sem])

end Go.Proofs.Ytamaanbnlnpjcaa
