/-
  Rows of numbers: the laws' looks at them and their marks.
-/
import Derived.Test.YtjenbmiiikeenaaV7Mk
namespace Go.Proofs.Ytjenbmiiikeenaa
open Go.RowKit

def KI : Kd Int := ⟨1, fun x => [.int .i64 x], fun _ => rfl, fun x u h => by
  simp at h; subst h; rfl⟩
theorem Try.tyI : GTy KI (.int .i64 0) 8 Try.prog 40 3 := ⟨Try.underlying40, by kernel_rfl, rfl, by omega⟩
theorem rowI {w : World} {a : Option Addr} {ps : List Int} (h : RowG KI w a ps) (j : Nat) (hj : j < ps.length) : ∃ p o q, a = some ⟨p, o, none⟩ ∧ p < w.heap.size ∧ ps[j]? = some q ∧ w.cell? ⟨p, o + j, none⟩ = some (.int .i64 q) := by
  obtain ⟨p, o, q, ha, hp, hq, c⟩ := h j hj
  have := c 0 _ rfl
  rw [show KI.k = 1 from rfl, Nat.mul_one, Nat.add_zero] at this
  exact ⟨p, o, q, ha, hp, hq, this⟩
theorem rowI0 {w : World} {g n cap B : Nat} {t : TypeId} {ps : List Int} (h : OwnG KI t w B (.slice (some ⟨g, 0, none⟩) n cap) ps) (j : Nat) (hj : j < ps.length) : ∃ q, g < w.heap.size ∧ ps[j]? = some q ∧ w.cell? ⟨g, j, none⟩ = some (.int .i64 q) := by
  obtain ⟨p, o, q, ha, hp, hq, c0⟩ := rowI h.row j hj
  simp only [Option.some.injEq, Addr.mk.injEq, and_true] at ha
  obtain ⟨rfl, rfl⟩ := ha
  rw [Nat.zero_add] at c0
  exact ⟨q, hp, hq, c0⟩
theorem putI {t : TypeId} {w : World} {B g n cap : Nat} {ps : List Int} (h : OwnG KI t w B (.slice (some ⟨g, 0, none⟩) n cap) ps) (hn : n = ps.length) (j : Nat) (hj : j < n) (q : Int) :
    OwnG KI t (w.setCell ⟨g, j, none⟩ (.int .i64 q)) B (.slice (some ⟨g, 0, none⟩) n cap) (ps.set j q) := by
  have := h.put hn j hj q
  rw [show j * KI.k = j from Nat.mul_one j] at this
  exact this

def mkI (k : Int) (j : Nat) : Int := k + (j : Int)
end Go.Proofs.Ytjenbmiiikeenaa
