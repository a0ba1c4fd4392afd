/-
  More of carving, plainly: comparisons, cells of rows.
-/
import Derived.Test.YtdbcdichmmcnbaaGreatZK39
namespace Go.Proofs.YtdbcdichmmcnbaaGreat
open Go.RowKit Go.Maps

theorem cmp_rng (p q : Pf) : -9223372036854775808 ≤ cmpP p q ∧ cmpP p q ≤ 9223372036854775807 := by
  unfold cmpP orI cmpW
  repeat' split
  all_goals omega
theorem plan_dsj {ps : List Pl} {bs : List Bk} (h : planB ps bs = true) : Dsj ps := by
  unfold planB at h
  rw [Bool.and_eq_true, Bool.and_eq_true] at h
  rw [Bool.and_eq_true] at h
  exact (pools_dsj ps none (fun _ h => by cases h) h.2.1).1
theorem cell_five {w : World} {x b o o0 o1 o2 o3 o4 : Nat} {u0 u1 u2 u3 u4 v : Value} (h : w.cell? ⟨b, o, none⟩ = some v) (hb : b ≠ x) : (((((w.setCell ⟨x, o0, none⟩ u0).setCell ⟨x, o1, none⟩ u1).setCell ⟨x, o2, none⟩ u2).setCell ⟨x, o3, none⟩ u3).setCell ⟨x, o4, none⟩ u4).cell? ⟨b, o, none⟩ = some v :=
  cellC (cellC (cellC (cellC (cellC h hb) hb) hb) hb) hb
theorem cell_off {w : World} {b o o' : Nat} {u v : Value} (h : w.cell? ⟨b, o, none⟩ = some v) (hb : o ≠ o') : (w.setCell ⟨b, o', none⟩ u).cell? ⟨b, o, none⟩ = some v := by
  rw [World.cell?_setCell_other _ _ _ _ (by intro e; simp only [Addr.mk.injEq] at e; omega)]; exact h
theorem cell_fiveO {w : World} {b o a : Nat} {u0 u1 u2 u3 u4 v : Value} (h : w.cell? ⟨b, o, none⟩ = some v) (hb : o < a) : (((((w.setCell ⟨b, a, none⟩ u0).setCell ⟨b, a + 1, none⟩ u1).setCell ⟨b, a + 2, none⟩ u2).setCell ⟨b, a + 3, none⟩ u3).setCell ⟨b, a + 4, none⟩ u4).cell? ⟨b, o, none⟩ = some v :=
  cell_off (cell_off (cell_off (cell_off (cell_off h (by omega)) (by omega)) (by omega)) (by omega)) (by omega)

end Go.Proofs.YtdbcdichmmcnbaaGreat
