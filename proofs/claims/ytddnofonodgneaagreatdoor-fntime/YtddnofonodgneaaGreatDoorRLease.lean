/-
  Rows of leases, 6 cells each: how they lie in memory, the laws' copies of them and looks at them, their reading.
-/
import Derived.Test.YtddnofonodgneaaGreatDoorGRow
import Derived.Test.YtddnofonodgneaaGreatDoorBEqA
import Derived.Test.YtddnofonodgneaaGreatDoorKAdr
import Derived.Carry
import Derived.Deep.Slices
import Derived.ChangeMaps5
import Derived.Lib.SmallJoins
namespace Go.Proofs.YtddnofonodgneaaGreatDoor
open Go.ChangeShapes Go.WideShapes Go.ChangeAt Go.RowKit Go.Joins Go.Deep

structure Ad where
  s : Bool
  H : BitVec 64
  L : BitVec 64
def Ad.key (a : Ad) : Nat := keyN a.s a.H a.L
def Ad.ok (a : Ad) : Bool := okB a.s a.H.toInt a.L.toInt
structure Ls where
  a : Ad
  t : ByteArray
  k : Int
  u : Int
def Ls.cs (q : Ls) : List Value := [.bool q.a.s, .int .i64 q.a.H.toInt, .int .i64 q.a.L.toInt, .string q.t, .int .i64 q.k, .int .i64 q.u]
def Ls.zero : Ls := ⟨⟨false, 0, 0⟩, ⟨#[]⟩, 0, 0⟩
def KLs : Kd Ls := ⟨6, Ls.cs, fun _ => rfl, fun x u h => by
  simp [Ls.cs] at h
  rcases h with rfl | rfl | rfl | rfl | rfl | rfl <;> rfl⟩
theorem Tryz.tyLs : GTy KLs (.agg #[.bool false, .int .i64 0, .int .i64 0, .string ⟨#[]⟩, .int .i64 0, .int .i64 0]) 56 Tryz.prog 24 35 := ⟨Tryz.underlying24, by kernel_rfl, rfl, by omega⟩

theorem rowLs {w : World} {a : Option Addr} {ps : List Ls} (h : RowG KLs w a ps) (j : Nat) (hj : j < ps.length) : ∃ p o q, a = some ⟨p, o, none⟩ ∧ p < w.heap.size ∧ ps[j]? = some q ∧
    w.cell? ⟨p, o + j * 6, none⟩ = some (.bool q.a.s) ∧ w.cell? ⟨p, o + j * 6 + 1, none⟩ = some (.int .i64 q.a.H.toInt) ∧ w.cell? ⟨p, o + j * 6 + 2, none⟩ = some (.int .i64 q.a.L.toInt) ∧ w.cell? ⟨p, o + j * 6 + 3, none⟩ = some (.string q.t) ∧ w.cell? ⟨p, o + j * 6 + 4, none⟩ = some (.int .i64 q.k) ∧ w.cell? ⟨p, o + j * 6 + 5, none⟩ = some (.int .i64 q.u) := by
  obtain ⟨p, o, q, ha, hp, hq, c⟩ := h j hj
  exact ⟨p, o, q, ha, hp, hq, c 0 _ rfl, c 1 _ rfl, c 2 _ rfl, c 3 _ rfl, c 4 _ rfl, c 5 _ rfl⟩
theorem rowLs0 {w : World} {g n cap B : Nat} {t : TypeId} {ps : List Ls} (h : OwnG KLs t w B (.slice (some ⟨g, 0, none⟩) n cap) ps) (j : Nat) (hj : j < ps.length) : ∃ q, g < w.heap.size ∧ ps[j]? = some q ∧
    w.cell? ⟨g, j * 6, none⟩ = some (.bool q.a.s) ∧ w.cell? ⟨g, j * 6 + 1, none⟩ = some (.int .i64 q.a.H.toInt) ∧ w.cell? ⟨g, j * 6 + 2, none⟩ = some (.int .i64 q.a.L.toInt) ∧ w.cell? ⟨g, j * 6 + 3, none⟩ = some (.string q.t) ∧ w.cell? ⟨g, j * 6 + 4, none⟩ = some (.int .i64 q.k) ∧ w.cell? ⟨g, j * 6 + 5, none⟩ = some (.int .i64 q.u) := by
  obtain ⟨p, o, q, ha, hp, hq, c0, c1, c2, c3, c4, c5⟩ := rowLs h.row j hj
  simp only [Option.some.injEq, Addr.mk.injEq, and_true] at ha
  obtain ⟨rfl, rfl⟩ := ha
  rw [Nat.zero_add] at c0 c1 c2 c3 c4 c5
  exact ⟨q, hp, hq, c0, c1, c2, c3, c4, c5⟩
theorem putLs {t : TypeId} {w : World} {B g n cap : Nat} {ps : List Ls} (h : OwnG KLs t w B (.slice (some ⟨g, 0, none⟩) n cap) ps) (hn : n = ps.length) (j : Nat) (hj : j < n) (q : Ls) :
    OwnG KLs t ((((((w.setCell ⟨g, j * 6, none⟩ (.bool q.a.s)).setCell ⟨g, j * 6 + 1, none⟩ (.int .i64 q.a.H.toInt)).setCell ⟨g, j * 6 + 2, none⟩ (.int .i64 q.a.L.toInt)).setCell ⟨g, j * 6 + 3, none⟩ (.string q.t)).setCell ⟨g, j * 6 + 4, none⟩ (.int .i64 q.k)).setCell ⟨g, j * 6 + 5, none⟩ (.int .i64 q.u)) B (.slice (some ⟨g, 0, none⟩) n cap) (ps.set j q) := h.put hn j hj q
theorem frzLs {t : TypeId} {w : World} {B g n cap : Nat} {ps : List Ls} (h : OwnG KLs t w B (.slice (some ⟨g, 0, none⟩) n cap) ps) (j : Nat) :
    w.frozen? ⟨g, j * 6, none⟩ = false ∧ w.frozen? ⟨g, j * 6 + 1, none⟩ = false ∧ w.frozen? ⟨g, j * 6 + 2, none⟩ = false ∧ w.frozen? ⟨g, j * 6 + 3, none⟩ = false ∧ w.frozen? ⟨g, j * 6 + 4, none⟩ = false ∧ w.frozen? ⟨g, j * 6 + 5, none⟩ = false := ⟨h.frozen _, h.frozen _, h.frozen _, h.frozen _, h.frozen _, h.frozen _⟩

theorem wfA {x : Int} (h : (Lit.int .i64 x).wf = true) : (BitVec.ofInt 64 x).toInt = x := by
  have h2 : -9223372036854775808 ≤ x ∧ x ≤ 9223372036854775807 := wf_bdC h
  rw [BitVec.toInt_ofInt]
  exact Int.bmod_eq_of_le (by omega) (by omega)
theorem rowsG_of2 {α : Type} {K : Kd α} {E : α → Prop} {W : World} (a : Option Addr) : ∀ n : Nat, (∀ j, j < n → ∃ p o q, a = some ⟨p, o, none⟩ ∧ p < W.heap.size ∧ (∀ i v, (K.cs q)[i]? = some v → W.cell? ⟨p, o + j * K.k + i, none⟩ = some v) ∧ E q) → ∃ ps : List α, ps.length = n ∧ RowG K W a ps ∧ ∀ q ∈ ps, E q
  | 0, _ => ⟨[], rfl, RowG.nil _ _ _, fun _ h => by cases h⟩
  | n + 1, h => by
      obtain ⟨ps, hl, hb, he⟩ := rowsG_of2 a n (fun j hj => h j (by omega))
      obtain ⟨p, o, q, ha, hp, c, hq⟩ := h n (by omega)
      refine ⟨ps ++ [q], by simp [hl], fun j hj => ?_, fun x hx => ?_⟩
      · by_cases hjn : j < n
        · obtain ⟨p', o', z, ha', hp', hz, hc'⟩ := hb j (by omega)
          exact ⟨p', o', z, ha', hp', by rw [List.getElem?_append_left (by omega)]; exact hz, hc'⟩
        · have : j = n := by simp at hj; omega
          subst this
          exact ⟨p, o, q, ha, hp, by rw [List.getElem?_append_right (by omega), hl]; simp, c⟩
      · rcases List.mem_append.1 hx with hx | hx
        · exact he x hx
        · rw [List.mem_singleton] at hx; subst hx; exact hq

end Go.Proofs.YtddnofonodgneaaGreatDoor
