/-
  Rows of addresses, three cells each: the laws' looks at them.
-/
import Derived.Test.YtddnofonodgneaaGreatDoorVBookS
import Derived.Deep.RegionWith
import Derived.Deep.RegionHeld3
namespace Go.Proofs.YtddnofonodgneaaGreatDoor
open Go.RowKit

def Ad.cs (q : Ad) : List Value := [.bool q.s, .int .i64 q.H.toInt, .int .i64 q.L.toInt]
def KAd : Kd Ad := ⟨3, Ad.cs, fun _ => rfl, fun x u h => by
  simp [Ad.cs] at h
  rcases h with rfl | rfl | rfl <;> rfl⟩
theorem Tryz.tyAd : GTy KAd (.agg #[.bool false, .int .i64 0, .int .i64 0]) 24 Tryz.prog 43 28 := ⟨Tryz.underlying43, by kernel_rfl, rfl, by omega⟩
theorem rowAd {w : World} {a : Option Addr} {ps : List Ad} (h : RowG KAd w a ps) (j : Nat) (hj : j < ps.length) : ∃ p o q, a = some ⟨p, o, none⟩ ∧ p < w.heap.size ∧ ps[j]? = some q ∧
    w.cell? ⟨p, o + j * 3, none⟩ = some (.bool q.s) ∧ w.cell? ⟨p, o + j * 3 + 1, none⟩ = some (.int .i64 q.H.toInt) ∧ w.cell? ⟨p, o + j * 3 + 2, none⟩ = some (.int .i64 q.L.toInt) := by
  obtain ⟨p, o, q, ha, hp, hq, c⟩ := h j hj
  exact ⟨p, o, q, ha, hp, hq, c 0 _ rfl, c 1 _ rfl, c 2 _ rfl⟩
theorem rowAd0 {w : World} {g n cap B : Nat} {t : TypeId} {ps : List Ad} (h : OwnG KAd t w B (.slice (some ⟨g, 0, none⟩) n cap) ps) (j : Nat) (hj : j < ps.length) : ∃ q, g < w.heap.size ∧ ps[j]? = some q ∧
    w.cell? ⟨g, j * 3, none⟩ = some (.bool q.s) ∧ w.cell? ⟨g, j * 3 + 1, none⟩ = some (.int .i64 q.H.toInt) ∧ w.cell? ⟨g, j * 3 + 2, none⟩ = some (.int .i64 q.L.toInt) := by
  obtain ⟨p, o, q, ha, hp, hq, c0, c1, c2⟩ := rowAd h.row j hj
  simp only [Option.some.injEq, Addr.mk.injEq, and_true] at ha
  obtain ⟨rfl, rfl⟩ := ha
  rw [Nat.zero_add] at c0 c1 c2
  exact ⟨q, hp, hq, c0, c1, c2⟩
theorem putAd {t : TypeId} {w : World} {B g n cap : Nat} {ps : List Ad} (h : OwnG KAd t w B (.slice (some ⟨g, 0, none⟩) n cap) ps) (hn : n = ps.length) (j : Nat) (hj : j < n) (q : Ad) :
    OwnG KAd t (((w.setCell ⟨g, j * 3, none⟩ (.bool q.s)).setCell ⟨g, j * 3 + 1, none⟩ (.int .i64 q.H.toInt)).setCell ⟨g, j * 3 + 2, none⟩ (.int .i64 q.L.toInt)) B (.slice (some ⟨g, 0, none⟩) n cap) (ps.set j q) := h.put hn j hj q
theorem frzAd {t : TypeId} {w : World} {B g n cap : Nat} {ps : List Ad} (h : OwnG KAd t w B (.slice (some ⟨g, 0, none⟩) n cap) ps) (j : Nat) :
    w.frozen? ⟨g, j * 3, none⟩ = false ∧ w.frozen? ⟨g, j * 3 + 1, none⟩ = false ∧ w.frozen? ⟨g, j * 3 + 2, none⟩ = false := ⟨h.frozen _, h.frozen _, h.frozen _⟩

end Go.Proofs.YtddnofonodgneaaGreatDoor
