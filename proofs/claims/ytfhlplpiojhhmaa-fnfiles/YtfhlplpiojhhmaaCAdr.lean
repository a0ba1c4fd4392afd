/-
  Both PutAddr: a mark and the words' bytes; an address that is not right has none. The row that is handed back is new, nothing old turns.
-/
import Derived.Test.YtfhlplpiojhhmaaCWord
import Derived.Test.YtfhlplpiojhhmaaCCat
import Derived.Test.YtfhlplpiojhhmaaAOk
import Derived.Deep.RegionHeld3
namespace Go.Proofs.Ytfhlplpiojhhmaa
open Go.RowKit

def adrB (s : Bool) (h l : Int) : List Int := if okB s h l = true then (if s = true then 6 :: (big h 8 ++ big l 8) else 4 :: big l 4) else []
theorem adrB_no {s : Bool} {h l : Int} (e : okB s h l = false) : adrB s h l = [] := by unfold adrB; rw [e]; rfl
theorem adrB_6 {h l : Int} : adrB true h l = ([6] ++ big h 8) ++ big l 8 := by unfold adrB; rw [okB_t]; rfl
theorem adrB_4 {h l : Int} (e : okB false h l = true) : adrB false h l = [4] ++ big l 4 := by unfold adrB; rw [e]; rfl
theorem adrB_len (s : Bool) (h l : Int) : (adrB s h l).length ≤ 17 := by
  unfold adrB; split
  · split <;> simp [big]
  · simp
theorem own_lit (w : World) (B : Nat) (z : Int) (h : B ≤ w.heap.size) : Own (w.alloc (.cells #[.int .u8 z] 5)) B (.slice (some ⟨w.heap.size, 0, none⟩) 1 1) [z] :=
  World.ownsRow_lit w #[.int .u8 z] 1 h (by unfold maxLen; omega) (by simp)
theorem own_nil (w : World) (B : Nat) (h : B ≤ w.heap.size) : Own (w.alloc (.cells #[] 5)) B (.slice (some ⟨w.heap.size, 0, none⟩) 0 0) [] :=
  World.ownsRow_lit w #[] 0 h (by unfold maxLen; omega) (by simp)

theorem own_litD (w : World) (B : Nat) (z : Int) (h : B ≤ w.heap.size) : Own (w.alloc (.cells #[.int .u8 z] 5)).drew B (.slice (some ⟨w.heap.size, 0, none⟩) 1 1) [z] := own_lit w B z h
theorem own_allocD {w : World} {B : Nat} {v : Value} {zs : List Int} (h : Own w B v zs) (o : Obj) : Own (w.alloc o).drew B v zs := h.alloc o
theorem le_allocD (w : World) (o : Obj) {B : Nat} (h : B ≤ w.heap.size) : B ≤ (w.alloc o).drew.heap.size := by simp; omega
theorem lt_allocD (w : World) (o : Obj) {B : Nat} (h : B < w.heap.size) : B < (w.alloc o).drew.heap.size := by simp; omega
theorem gt_of {B g a b : Nat} (t : g = a ∨ g = b) (h1 : B < a) (h2 : B < b) : B < g := by rcases t with rfl | rfl <;> assumption
theorem belowA {w w1 w2 : World} {o : Obj} (h : Below w.heap.size w w1) (hz : w.heap.size ≤ w1.heap.size) (b : Below (w1.alloc o).drew.heap.size (w1.alloc o).drew w2) : Below w.heap.size w w2 :=
  (h.alloc hz o).drew.trans (b.mono (le_allocD w1 o hz))
theorem belowD {w w1 w2 : World} {o : Obj} (h : Below w.heap.size w w1) (hz : w.heap.size ≤ w1.heap.size) (b : Below w1.drew.heap.size w1.drew w2) : Below w.heap.size w (w2.alloc o) :=
  (h.drew.trans (b.mono hz)).alloc (Nat.le_trans hz b.size) o
theorem le9 (h : Int) : 1 + (big h 8).length ≤ 1000000000 := by simp [big]
theorem le17 (h l : Int) : (1 + (big h 8).length) + (big l 8).length ≤ 1000000000 := by simp [big]
/-- A box's two words, behind a call, and behind what turns another row alone. -/
theorem keepB {B : Nat} {h l : Int} {W X : World} (hS : W.cell? ⟨B, 1, none⟩ = some (.int .i64 h) ∧ W.cell? ⟨B, 2, none⟩ = some (.int .i64 l) ∧ B < W.heap.size) (b : Below W.heap.size W X) :
    X.cell? ⟨B, 1, none⟩ = some (.int .i64 h) ∧ X.cell? ⟨B, 2, none⟩ = some (.int .i64 l) ∧ B < X.heap.size :=
  ⟨(b.cell (p := ⟨B, 1, none⟩) hS.2.2).trans hS.1, (b.cell (p := ⟨B, 2, none⟩) hS.2.2).trans hS.2.1, Nat.lt_of_lt_of_le hS.2.2 b.size⟩
theorem keepA {B : Nat} {h l : Int} {W : World} (hS : W.cell? ⟨B, 1, none⟩ = some (.int .i64 h) ∧ W.cell? ⟨B, 2, none⟩ = some (.int .i64 l) ∧ B < W.heap.size) (o : Obj) :
    (W.alloc o).cell? ⟨B, 1, none⟩ = some (.int .i64 h) ∧ (W.alloc o).cell? ⟨B, 2, none⟩ = some (.int .i64 l) ∧ B < (W.alloc o).heap.size := keepB hS ((Below.refl _ W).alloc (Nat.le_refl _) o)
theorem keepG {B g : Nat} {h l : Int} {W X : World} (hS : W.cell? ⟨B, 1, none⟩ = some (.int .i64 h) ∧ W.cell? ⟨B, 2, none⟩ = some (.int .i64 l) ∧ B < W.heap.size) (hne : B ≠ g) (b : W.grownBy X (some g)) :
    X.cell? ⟨B, 1, none⟩ = some (.int .i64 h) ∧ X.cell? ⟨B, 2, none⟩ = some (.int .i64 l) ∧ B < X.heap.size :=
  ⟨(b.cell_far ⟨B, 1, none⟩ hS.2.2 (by simpa using hne)).trans hS.1, (b.cell_far ⟨B, 2, none⟩ hS.2.2 (by simpa using hne)).trans hS.2.1, Nat.lt_of_lt_of_le hS.2.2 b.size⟩

theorem rws3 {W : World} {h l : Int} {b0 b1 b2 c0 c1 c2 : Nat} {a0 a1 a2 : Addr} {B0 B1 B2 : Nat} (o0 : Own W B0 (.slice (some a0) 1 c0) [6]) (o1 : Own W B1 (.slice (some a1) 8 c1) (big h 8)) (o2 : Own W B2 (.slice (some a2) 8 c2) (big l 8))
    (e0 : b0 = 1) (e1 : b1 = 8) (e2 : b2 = 8) : Rws (W.alloc (.cells #[.slice (some a0) b0 c0, .slice (some a1) b1 c1, .slice (some a2) b2 c2] 22)) W.heap.size [[6], big h 8, big l 8] := by
  subst e0 e1 e2
  intro j hj
  have hj3 : j = 0 ∨ j = 1 ∨ j = 2 := by simp at hj; omega
  rcases hj3 with rfl | rfl | rfl
  · exact ⟨some a0, c0, [6], rfl, by simp [go_sem], (o0.alloc _).bytA, by simp⟩
  · exact ⟨some a1, c1, big h 8, rfl, by simp [go_sem, big], (o1.alloc _).bytA, by simp⟩
  · exact ⟨some a2, c2, big l 8, rfl, by simp [go_sem, big], (o2.alloc _).bytA, by simp⟩
theorem rws3q {W : World} {h l : Int} {q c0 c1 c2 : Nat} {a0 a1 a2 : Addr} {B0 B1 B2 : Nat} (o0 : Own W B0 (.slice (some a0) 1 c0) [6]) (o1 : Own W B1 (.slice (some a1) 8 c1) (big h 8)) (o2 : Own W B2 (.slice (some a2) 8 c2) (big l 8))
    (hq : q = W.heap.size) : Rws (W.alloc (.cells #[.slice (some a0) 1 c0, .slice (some a1) 8 c1, .slice (some a2) 8 c2] 22)) q [[6], big h 8, big l 8] := by
  subst hq; exact rws3 o0 o1 o2 rfl rfl rfl
theorem rws2 {W : World} {l : Int} {c0 c1 : Nat} {a0 a1 : Addr} {B0 B1 : Nat} (o0 : Own W B0 (.slice (some a0) 1 c0) [4]) (o1 : Own W B1 (.slice (some a1) 4 c1) (big l 4)) :
    Rws (W.alloc (.cells #[.slice (some a0) 1 c0, .slice (some a1) 4 c1] 22)) W.heap.size [[4], big l 4] := by
  intro j hj
  have hj3 : j = 0 ∨ j = 1 := by simp at hj; omega
  rcases hj3 with rfl | rfl
  · exact ⟨some a0, c0, [4], rfl, by simp [go_sem], (o0.alloc _).bytA, by simp⟩
  · exact ⟨some a1, c1, big l 4, rfl, by simp [go_sem, big], (o1.alloc _).bytA, by simp⟩
theorem fin_below {w cur wC : World} {o : Obj} (h : Below w.heap.size w cur) (b : Below (cur.alloc o).heap.size (cur.alloc o) wC) : Below w.heap.size w wC :=
  (h.alloc h.size o).trans (b.mono (by have := h.size; simp; omega))
theorem fin_own {w cur wC : World} {o : Obj} {v : Value} {zs : List Int} (h : Below w.heap.size w cur) (b : Own wC (cur.alloc o).heap.size v zs) : Own wC w.heap.size v zs :=
  b.mono (by have := h.size; simp; omega)
theorem fl3 (h l : Int) : [[6], big h 8, big l 8].flatten = adrB true h l := by rw [adrB_6]; simp
theorem fl2 {h l : Int} (e : okB false h l = true) : [[4], big l 4].flatten = adrB false h l := by rw [adrB_4 e]; simp
theorem adrB_len6 (h l : Int) : (adrB true h l).length = (big h 8).length + (big l 8).length + 1 := by rw [adrB_6]; simp only [List.length_append, List.length_cons, List.length_nil]; omega
theorem fl3_len (h l : Int) : ([[6], big h 8, big l 8].flatten).length = 17 := by simp [big]
theorem fl2_len (l : Int) : ([[4], big l 4].flatten).length = 5 := by simp [big]
theorem lt_alloc (w : World) (o : Obj) : w.heap.size < (w.alloc o).heap.size := by simp

end Go.Proofs.Ytfhlplpiojhhmaa
