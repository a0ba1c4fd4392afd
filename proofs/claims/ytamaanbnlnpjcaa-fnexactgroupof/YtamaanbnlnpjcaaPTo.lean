/-
  The laws' copy of a row of prefixes: a row of the call's own with the same prefixes; nothing old in memory turns.
-/
import Derived.Test.YtamaanbnlnpjcaaPRow
import Derived.Test.YtamaanbnlnpjcaaBTo
namespace Go.Proofs.Ytamaanbnlnpjcaa
open Go.RowKit

def Pf.zero : Pf := ⟨false, 0, 0, 0⟩

theorem made_four : ∀ n : Nat, (madeCells (Value.agg #[.bool false, .int .i64 0, .int .i64 0, .int .i64 0]).cells (n * 4)).toList = flat (List.replicate n Pf.zero) := fun n => by
  apply List.ext_getElem?
  intro j
  by_cases hj : j < n * 4
  · have hq : (List.replicate n Pf.zero)[j / 4]? = some Pf.zero := by rw [List.getElem?_replicate, if_pos (by omega)]
    obtain ⟨f0, f1, f2, f3⟩ := flat_at _ (j / 4) _ hq
    have e : (madeCells (Value.agg #[.bool false, .int .i64 0, .int .i64 0, .int .i64 0]).cells (n * 4)).toList[j]? = some ((#[.bool false, .int .i64 0, .int .i64 0, .int .i64 0] : Array Value)[j % 4]!) := by
      rw [Array.getElem?_toList]
      unfold madeCells
      rw [Array.getElem?_map, Array.getElem?_range, if_pos hj]
      rfl
    rw [e]
    have hm : j % 4 = 0 ∧ j = j / 4 * 4 ∨ j % 4 = 1 ∧ j = j / 4 * 4 + 1 ∨ j % 4 = 2 ∧ j = j / 4 * 4 + 2 ∨ j % 4 = 3 ∧ j = j / 4 * 4 + 3 := by omega
    rcases hm with ⟨h1, h2⟩ | ⟨h1, h2⟩ | ⟨h1, h2⟩ | ⟨h1, h2⟩
    · rw [h1]; conv => rhs; rw [h2]
      rw [f0]; rfl
    · rw [h1]; conv => rhs; rw [h2]
      rw [f1]; rfl
    · rw [h1]; conv => rhs; rw [h2]
      rw [f2]; rfl
    · rw [h1]; conv => rhs; rw [h2]
      rw [f3]; rfl
  · rw [List.getElem?_eq_none (by rw [Array.length_toList, size_madeCells]; omega), List.getElem?_eq_none (by rw [flat_len, List.length_replicate]; omega)]

/-- One more of the row is copied. -/
theorem copy_step (ps : List Pf) (k : Nat) (q : Pf) (hk : k < ps.length) (hq : ps[k]? = some q) : (ps.take k ++ List.replicate (ps.length - k) Pf.zero).set k q = ps.take (k + 1) ++ List.replicate (ps.length - (k + 1)) Pf.zero := by
  have e : ps.length - k = ps.length - (k + 1) + 1 := by omega
  rw [e, List.replicate_succ, List.set_append_right _ _ (by rw [List.length_take]; omega)]
  have e2 : k - (ps.take k).length = 0 := by rw [List.length_take]; omega
  rw [e2, List.set_cons_zero, List.take_add_one, hq]
  simp

theorem flat_set : ∀ (ps : List Pf) (j : Nat) (q : Pf), j < ps.length → ((((flat ps).set (j * 4) (.bool q.s)).set (j * 4 + 1) (.int .i64 q.H.toInt)).set (j * 4 + 2) (.int .i64 q.L.toInt)).set (j * 4 + 3) (.int .i64 q.b) = flat (ps.set j q)
  | [], j, q, h => by simp at h
  | p :: t, 0, q, h => by simp [flat, Pf.cs]
  | p :: t, j + 1, q, h => by
      have ih := flat_set t j q (by simpa using h)
      have e : ∀ (i : Nat) (l : List Value) (v : Value), (p.cs ++ l).set ((j + 1) * 4 + i) v = p.cs ++ l.set (j * 4 + i) v := fun i l v => by
        rw [List.set_append_right _ _ (by simp [Pf.cs]; omega)]
        congr 2
        simp [Pf.cs]; omega
      have e0 := fun (l : List Value) (v : Value) => e 0 l v
      simp only [Nat.add_zero] at e0
      show ((((p.cs ++ flat t).set ((j + 1) * 4) (.bool q.s)).set ((j + 1) * 4 + 1) (.int .i64 q.H.toInt)).set ((j + 1) * 4 + 2) (.int .i64 q.L.toInt)).set ((j + 1) * 4 + 3) (.int .i64 q.b) = p.cs ++ flat (t.set j q)
      rw [e0, e 1, e 2, e 3, ih]

/-- One of a row is written. -/
theorem OwnR.put {t : TypeId} {w : World} {B g n cap : Nat} {ps : List Pf} (h : OwnR t w B (.slice (some ⟨g, 0, none⟩) n cap) ps) (hn : n = ps.length) (j : Nat) (hj : j < n) :
    (w.frozen? ⟨g, j * 4, none⟩ = false ∧ w.frozen? ⟨g, j * 4 + 1, none⟩ = false ∧ w.frozen? ⟨g, j * 4 + 2, none⟩ = false ∧ w.frozen? ⟨g, j * 4 + 3, none⟩ = false) ∧
    ∀ q : Pf, OwnR t ((((w.setCell ⟨g, j * 4, none⟩ (.bool q.s)).setCell ⟨g, j * 4 + 1, none⟩ (.int .i64 q.H.toInt)).setCell ⟨g, j * 4 + 2, none⟩ (.int .i64 q.L.toInt)).setCell ⟨g, j * 4 + 3, none⟩ (.int .i64 q.b)) B (.slice (some ⟨g, 0, none⟩) n cap) (ps.set j q) := by
  subst hn
  refine ⟨⟨World.ownsRow.frozenAt h _, World.ownsRow.frozenAt h _, World.ownsRow.frozenAt h _, World.ownsRow.frozenAt h _⟩, fun q => ?_⟩
  have h0 := (World.ownsRow.stored h (j * 4) (.bool q.s)).1
  have h1 := (World.ownsRow.stored h0 (j * 4 + 1) (.int .i64 q.H.toInt)).1
  have h2 := (World.ownsRow.stored h1 (j * 4 + 2) (.int .i64 q.L.toInt)).1
  have h3 := (World.ownsRow.stored h2 (j * 4 + 3) (.int .i64 q.b)).1
  rw [flat_set ps j q hj] at h3
  unfold OwnR
  rw [List.length_set]
  exact h3

end Go.Proofs.Ytamaanbnlnpjcaa
