/-
  Rows of sessions, 4 cells each: how they lie in memory, the laws' copies of them and looks at them, their reading.
-/
import Derived.Test.YtjenbmiiikeenaaGRow
import Derived.Carry
import Derived.Deep.Slices
import Derived.Deep.RegionWith
import Derived.Deep.RegionHeld3
import Derived.ChangeMaps5
import Derived.Lib.SmallJoins
namespace Go.Proofs.Ytjenbmiiikeenaa
open Go.ChangeShapes Go.WideShapes Go.ChangeAt Go.RowKit Go.Joins Go.Deep

structure Ss where
  i : Int
  l : Int
  t : ByteArray
  u : Int
def Ss.cs (q : Ss) : List Value := [.int .i64 q.i, .int .i64 q.l, .string q.t, .int .i64 q.u]
def Ss.zero : Ss := ⟨0, 0, ⟨#[]⟩, 0⟩
def KSs : Kd Ss := ⟨4, Ss.cs, fun _ => rfl, fun x u h => by
  simp [Ss.cs] at h
  rcases h with rfl | rfl | rfl | rfl <;> rfl⟩
theorem Try.tySs : GTy KSs (.agg #[.int .i64 0, .int .i64 0, .string ⟨#[]⟩, .int .i64 0]) 40 Try.prog 24 39 := ⟨Try.underlying24, by kernel_rfl, rfl, by omega⟩

theorem rowSs {w : World} {a : Option Addr} {ps : List Ss} (h : RowG KSs w a ps) (j : Nat) (hj : j < ps.length) : ∃ p o q, a = some ⟨p, o, none⟩ ∧ p < w.heap.size ∧ ps[j]? = some q ∧
    w.cell? ⟨p, o + j * 4, none⟩ = some (.int .i64 q.i) ∧ w.cell? ⟨p, o + j * 4 + 1, none⟩ = some (.int .i64 q.l) ∧ w.cell? ⟨p, o + j * 4 + 2, none⟩ = some (.string q.t) ∧ w.cell? ⟨p, o + j * 4 + 3, none⟩ = some (.int .i64 q.u) := by
  obtain ⟨p, o, q, ha, hp, hq, c⟩ := h j hj
  exact ⟨p, o, q, ha, hp, hq, c 0 _ rfl, c 1 _ rfl, c 2 _ rfl, c 3 _ rfl⟩
theorem rowSs0 {w : World} {g n cap B : Nat} {t : TypeId} {ps : List Ss} (h : OwnG KSs t w B (.slice (some ⟨g, 0, none⟩) n cap) ps) (j : Nat) (hj : j < ps.length) : ∃ q, g < w.heap.size ∧ ps[j]? = some q ∧
    w.cell? ⟨g, j * 4, none⟩ = some (.int .i64 q.i) ∧ w.cell? ⟨g, j * 4 + 1, none⟩ = some (.int .i64 q.l) ∧ w.cell? ⟨g, j * 4 + 2, none⟩ = some (.string q.t) ∧ w.cell? ⟨g, j * 4 + 3, none⟩ = some (.int .i64 q.u) := by
  obtain ⟨p, o, q, ha, hp, hq, c0, c1, c2, c3⟩ := rowSs h.row j hj
  simp only [Option.some.injEq, Addr.mk.injEq, and_true] at ha
  obtain ⟨rfl, rfl⟩ := ha
  rw [Nat.zero_add] at c0 c1 c2 c3
  exact ⟨q, hp, hq, c0, c1, c2, c3⟩
theorem putSs {t : TypeId} {w : World} {B g n cap : Nat} {ps : List Ss} (h : OwnG KSs t w B (.slice (some ⟨g, 0, none⟩) n cap) ps) (hn : n = ps.length) (j : Nat) (hj : j < n) (q : Ss) :
    OwnG KSs t ((((w.setCell ⟨g, j * 4, none⟩ (.int .i64 q.i)).setCell ⟨g, j * 4 + 1, none⟩ (.int .i64 q.l)).setCell ⟨g, j * 4 + 2, none⟩ (.string q.t)).setCell ⟨g, j * 4 + 3, none⟩ (.int .i64 q.u)) B (.slice (some ⟨g, 0, none⟩) n cap) (ps.set j q) := h.put hn j hj q
theorem frzSs {t : TypeId} {w : World} {B g n cap : Nat} {ps : List Ss} (h : OwnG KSs t w B (.slice (some ⟨g, 0, none⟩) n cap) ps) (j : Nat) :
    w.frozen? ⟨g, j * 4, none⟩ = false ∧ w.frozen? ⟨g, j * 4 + 1, none⟩ = false ∧ w.frozen? ⟨g, j * 4 + 2, none⟩ = false ∧ w.frozen? ⟨g, j * 4 + 3, none⟩ = false := ⟨h.frozen _, h.frozen _, h.frozen _, h.frozen _⟩

theorem rowsG_of2 {α : Type} {K : Kd α} {E : α → Prop} {W : World} (a : Option Addr) : ∀ n : Nat, (∀ j, j < n → ∃ p o q, a = some ⟨p, o, none⟩ ∧ p < W.heap.size ∧ (∀ i v, (K.cs q)[i]? = some v → W.cell? ⟨p, o + j * K.k + i, none⟩ = some v) ∧ E q) → ∃ ps : List α, ps.length = n ∧ RowG K W a ps ∧ ∀ q ∈ ps, E q
  | 0, _ => ⟨[], rfl, RowG.nil _ _ _, fun _ h => by cases h⟩
  | n + 1, h => by
      obtain ⟨ps, hl, hb, he⟩ := rowsG_of2 a n (fun j hj => h j (by omega))
      obtain ⟨p, o, q, ha, hp, c, hq⟩ := h n (by omega)
      refine ⟨ps ++ [q], by simp [hl], fun j hj => ?_, fun x hx => ?_⟩
      · by_cases hjn : j < n
        · obtain ⟨p', o', z, ha', hp', hz, hc'⟩ := hb j (by omega)
          exact ⟨p', o', z, ha', hp', by rw [List.getElem?_append_left (by omega)]; exact hz, hc'⟩
        · have : j = n := by simp at hj; omega
          subst this
          exact ⟨p, o, q, ha, hp, by rw [List.getElem?_append_right (by omega), hl]; simp, c⟩
      · rcases List.mem_append.1 hx with hx | hx
        · exact he x hx
        · rw [List.mem_singleton] at hx; subst hx; exact hq

end Go.Proofs.Ytjenbmiiikeenaa
