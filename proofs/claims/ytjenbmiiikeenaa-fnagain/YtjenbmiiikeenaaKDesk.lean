/-
  Desks as the document has them, in plain terms: when a session is right, when a desk is, where a session stands.
-/
import Derived.Test.YtjenbmiiikeenaaVDeskS
namespace Go.Proofs.Ytjenbmiiikeenaa
open Go.RowKit

def tmB (u : Int) : Bool := decide (0 ≤ u) && decide (u ≤ 1000000000)
def emB (t : ByteArray) : Bool := t.toList.isEmpty
/-- A session but for its Id. -/
def okSs (q : Ss) : Bool := ((decide (0 ≤ q.l) && decide (q.l ≤ 1000000)) && (decide ((q.t.size : Int) ≤ 200) && (decide (0 < q.l) || emB q.t))) && tmB q.u
/-- The sessions of a desk whose Next is N, behind one whose Id is p. -/
def sesF (N : Int) (p : Int) : List Ss → Bool
  | [] => true
  | q :: t => ((decide (p < q.i) && decide (q.i < N)) && okSs q) && sesF N q.i t
/-- DeskOk. -/
def dkB (ls : List Ss) (N : Int) : Bool := (decide ((ls.length : Int) ≤ 12) && (decide (1 ≤ N) && decide (N ≤ 1000000))) && sesF N 0 ls
/-- The Id ahead of place k, 0 ahead of the first. -/
def prvS (ls : List Ss) (k : Nat) : Int := match k with
  | 0 => 0
  | k + 1 => match ls[k]? with | some q => q.i | none => 0
theorem prvS_next {ls : List Ss} {k : Nat} {q : Ss} (h : ls[k]? = some q) : prvS ls (k + 1) = q.i := by simp [prvS, h]
theorem drop_at7 {α : Type} {ls : List α} {k : Nat} {q : α} (h : ls[k]? = some q) : ls.drop k = q :: ls.drop (k + 1) := by
  obtain ⟨hk, rfl⟩ := List.getElem?_eq_some_iff.1 h
  exact List.drop_eq_getElem_cons hk
theorem ret_b7 {a b : Bool} (h : a = b) : Ending.returned (.bool a) = .returned (.bool b) := by rw [h]
/-- Where the session of this Id stands. -/
def findS (id : Int) (ls : List Ss) : Option Nat := ls.findIdx? (fun q => decide (q.i = id))

end Go.Proofs.Ytjenbmiiikeenaa
