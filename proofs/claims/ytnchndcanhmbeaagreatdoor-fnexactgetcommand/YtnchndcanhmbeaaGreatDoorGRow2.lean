/-
  Rows of fields, read.
-/
import Derived.Test.YtnchndcanhmbeaaGreatDoorGCmI
namespace Go.Proofs.YtnchndcanhmbeaaGreatDoor
open Go.RowKit

theorem rowF {w : World} {a : Option Addr} {ps : List (ByteArray × Bool)} (h : RowG KF w a ps) (j : Nat) (hj : j < ps.length) : ∃ p o q, a = some ⟨p, o, none⟩ ∧ p < w.heap.size ∧ ps[j]? = some q ∧ w.cell? ⟨p, o + j * 2, none⟩ = some (.string q.1) ∧ w.cell? ⟨p, o + j * 2 + 1, none⟩ = some (.bool q.2) := by
  obtain ⟨p, o, q, ha, hp, hq, c⟩ := h j hj
  exact ⟨p, o, q, ha, hp, hq, c 0 _ rfl, c 1 _ rfl⟩
theorem all_snoc {fl : List (ByteArray × Bool)} {k : Nat} {z : ByteArray × Bool} (h : fl[k]? = some z) : (fl.take (k + 1)).all (fun z => z.2) = ((fl.take k).all (fun z => z.2) && z.2) := by
  rw [List.take_add_one, h, List.all_append]; simp
theorem all_not {fl : List (ByteArray × Bool)} {k : Nat} {z : ByteArray × Bool} (h : fl[k]? = some z) (hz : z.2 = false) : fl.all (fun z => z.2) = false := by
  rw [List.all_eq_false]; exact ⟨z, List.mem_of_getElem? h, by simp [hz]⟩

end Go.Proofs.YtnchndcanhmbeaaGreatDoor
