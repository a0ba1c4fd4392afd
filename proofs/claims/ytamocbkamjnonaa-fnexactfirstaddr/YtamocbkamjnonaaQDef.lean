/-
  What FirstAddr leans on: the used addresses of a block as prefixes, boxes of three cells.
-/
import Derived.Test.YtamocbkamjnonaaSFAddr
import Derived.Test.YtamocbkamjnonaaBIHas
namespace Go.Proofs.Ytamocbkamjnonaa
open Go.RowKit

def hadP (p : Pf) (u : Ad) : Bool := hadB p.s p.H p.L p.b u.s u.H u.L
def Ad.pf (u : Ad) : Pf := ⟨u.s, u.H, u.L, wd u.s⟩
def takA (p : Pf) (us : List Ad) : List Pf := (us.filter (hadP p)).map Ad.pf
theorem had_snoc (p : Pf) (us : List Ad) (i : Nat) (u : Ad) (h : us[i]? = some u) : (us.take (i + 1)).filter (hadP p) = (us.take i).filter (hadP p) ++ (if hadP p u = true then [u] else []) := by
  rw [List.take_add_one, h, List.filter_append]
  cases hh : hadP p u <;> simp [hh]
theorem boxA3 (w : World) (t : TypeId) (u : Ad) : (w.alloc (.cells #[.bool u.s, .int .i64 u.H.toInt, .int .i64 u.L.toInt] t)).cell? ⟨w.heap.size, 0, none⟩ = some (.bool u.s) ∧ (w.alloc (.cells #[.bool u.s, .int .i64 u.H.toInt, .int .i64 u.L.toInt] t)).cell? ⟨w.heap.size, 1, none⟩ = some (.int .i64 u.H.toInt) ∧ (w.alloc (.cells #[.bool u.s, .int .i64 u.H.toInt, .int .i64 u.L.toInt] t)).cell? ⟨w.heap.size, 2, none⟩ = some (.int .i64 u.L.toInt) := (of3 (World.alloc_heap_new w _)).1

theorem faC {V : World} {k : Nat} {z0 z1 z2 : Value} {t : TypeId} (o : Obj) (a b c : Value) (h : V.heap[k]? = some (.cells #[z0, z1, z2] t)) : ((((V.setCell ⟨k, 0, none⟩ a).setCell ⟨k, 1, none⟩ b).setCell ⟨k, 2, none⟩ c).alloc o).cell? ⟨k, 0, none⟩ = some a ∧ ((((V.setCell ⟨k, 0, none⟩ a).setCell ⟨k, 1, none⟩ b).setCell ⟨k, 2, none⟩ c).alloc o).cell? ⟨k, 1, none⟩ = some b ∧ ((((V.setCell ⟨k, 0, none⟩ a).setCell ⟨k, 1, none⟩ b).setCell ⟨k, 2, none⟩ c).alloc o).cell? ⟨k, 2, none⟩ = some c := by
  have h3 := set3 (a' := a) (b' := b) (c' := c) h
  exact (of3 ((Below.heap_alloc _ o k (lt_heap h3)).trans h3)).1
theorem setS {V : World} {k : Nat} {z0 z1 z2 : Value} {t : TypeId} (a b c : Value) (h : V.heap[k]? = some (.cells #[z0, z1, z2] t)) : (V.setCell ⟨k, 0, none⟩ a).cell? ⟨k, 0, none⟩ = some a ∧ ((V.setCell ⟨k, 0, none⟩ a).setCell ⟨k, 1, none⟩ b).cell? ⟨k, 1, none⟩ = some b ∧ (((V.setCell ⟨k, 0, none⟩ a).setCell ⟨k, 1, none⟩ b).setCell ⟨k, 2, none⟩ c).cell? ⟨k, 2, none⟩ = some c := by
  refine ⟨?_, ?_, (of3 (set3 (a' := a) (b' := b) (c' := c) h)).1.2.2⟩
  · have e : (V.setCell ⟨k, 0, none⟩ a).heap[k]? = some (.cells #[a, z1, z2] t) := by simp [World.setCell, Array.getElem?_modify, h]
    exact (of3 e).1.1
  · have e : ((V.setCell ⟨k, 0, none⟩ a).setCell ⟨k, 1, none⟩ b).heap[k]? = some (.cells #[a, b, z2] t) := by simp [World.setCell, Array.getElem?_modify, h]
    exact (of3 e).1.2.1
theorem faK {V : World} {k K : Nat} {z0 z1 z2 : Value} {t : TypeId} (hne : k ≠ K) (p0 p1 p2 p3 a b c : Value) (h : V.heap[k]? = some (.cells #[z0, z1, z2] t)) : (((((V.setCell ⟨K, 0, none⟩ p0).setCell ⟨K, 1, none⟩ p1).setCell ⟨K, 2, none⟩ p2).setCell ⟨K, 3, none⟩ p3).setCell ⟨k, 0, none⟩ a).cell? ⟨k, 0, none⟩ = some a ∧ ((((((V.setCell ⟨K, 0, none⟩ p0).setCell ⟨K, 1, none⟩ p1).setCell ⟨K, 2, none⟩ p2).setCell ⟨K, 3, none⟩ p3).setCell ⟨k, 0, none⟩ a).setCell ⟨k, 1, none⟩ b).cell? ⟨k, 1, none⟩ = some b ∧ (((((((V.setCell ⟨K, 0, none⟩ p0).setCell ⟨K, 1, none⟩ p1).setCell ⟨K, 2, none⟩ p2).setCell ⟨K, 3, none⟩ p3).setCell ⟨k, 0, none⟩ a).setCell ⟨k, 1, none⟩ b).setCell ⟨k, 2, none⟩ c).cell? ⟨k, 2, none⟩ = some c :=
  setS a b c (setO hne (setO hne (setO hne (setO hne h))))

end Go.Proofs.Ytamocbkamjnonaa
