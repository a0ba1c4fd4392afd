/-
  A new reader, and the cell that bears the code of its end.
-/
import Derived.Test.YtdcbmeiopfdkeaaCNumI
import Derived.Deep.AppendLies
namespace Go.Proofs.Ytdcbmeiopfdkeaa
open Go.RowKit

/-- A new reader over bytes, behind a new cell. -/
theorem rdr_new (w : World) (a : Option Addr) (n cap : Nat) (zs : List Int) (at' : Nat) (hB : Byt w a zs) (hlen : zs.length = n) (hnc : n ≤ cap) (hcap : n ≤ 1000000000000 ∧ cap ≤ 9223372036854775807) (hle : at' ≤ n) :
    Rdr ((w.alloc (.cells #[.int .i64 3] 3)).alloc (.cells #[.slice a n cap, .int .i64 at'] 83)) (w.heap.size + 1) a n cap zs at' := by
  refine ⟨by simp [go_sem], by simp [go_sem], by simp [go_sem], hle, hlen, hnc, hcap, fun j hj => ?_⟩
  obtain ⟨p, o, z, ha, hp, hc, hz⟩ := hB j (by omega)
  exact ⟨p, o, z, ha, by omega, ((((Below.refl _ w).alloc (Nat.le_refl _) _).alloc (by simp) _).cell (p := ⟨p, o + j, none⟩) hp).trans hc, hz⟩
theorem code_cell {w w1 : World} {ob : Obj} (h : ((w.alloc (.cells #[.int .i64 3] 3)).alloc ob).grownBy w1 (some (w.heap.size + 1))) :
    w1.cell? ⟨w.heap.size, 0, none⟩ = some (.int .i64 3) ∧ w1.frozen? ⟨w.heap.size, 0, none⟩ = false ∧ Below w.heap.size w w1 := by
  refine ⟨?_, ?_, ?_⟩
  · rw [h.cell_far ⟨w.heap.size, 0, none⟩ (by simp; omega) (by simp)]
    have := (((Below.refl (w.heap.size + 1) (w.alloc (.cells #[.int .i64 3] 3))).alloc (by simp) ob).cell (p := ⟨w.heap.size, 0, none⟩) (by simp))
    rw [this]; simp [go_sem]
  · rw [h.frozen_far ⟨w.heap.size, 0, none⟩ (by simp; omega) (by simp)]
    have := (((Below.refl (w.heap.size + 1) (w.alloc (.cells #[.int .i64 3] 3))).alloc (by simp) ob).frozen (p := ⟨w.heap.size, 0, none⟩) (by simp))
    rw [this]; simp [go_sem]
  · exact ((((Below.refl _ w).alloc (Nat.le_refl _) _).alloc (by simp) ob)).grown h (by simp; omega) (fun k hk => by simp at hk; omega)

end Go.Proofs.Ytdcbmeiopfdkeaa
