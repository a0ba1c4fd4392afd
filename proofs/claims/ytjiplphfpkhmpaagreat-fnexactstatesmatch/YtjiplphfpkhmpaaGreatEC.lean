/-
  Who leads: what both functions answer.
-/
import Derived.Test.YtjiplphfpkhmpaaGreatEB
namespace Go.Proofs.YtjiplphfpkhmpaaGreat
open Go.RowKit

abbrev RepA : Type := (((((Unit × ((((((((((Unit × Int) × (((((((Unit × Int) × Int) × Int) × Int) × ((Unit × List Int) × List Int)) × List Int) × List (((Unit × Int) × Int) × List Int))) × Int) × Int) × Int) × List Int) × List Int) × List Int) × Int) × Int)) × ((((Unit × ((Unit × List ((Unit × ((Unit × (((Unit × Bool) × Int) × Int)) × Int)) × Int)) × List ((Unit × ((Unit × (((Unit × Bool) × Int) × Int)) × Int)) × ByteArray))) × (((Unit × List ((((Unit × (((Unit × Bool) × Int) × Int)) × ByteArray) × Int) × Int)) × Int) × Int)) × ((Unit × List ((((Unit × Int) × Int) × ByteArray) × Int)) × Int)) × Int)) × Int) × ((Unit × List Int) × Int)) × Bool)
def rUp (r : RepA) : Bool := r.2
def rRole (r : RepA) : Int := r.1.1.1.1.2.1.1.1.1.1.1.1.2
def rTerm (r : RepA) : Int := r.1.1.1.1.2.1.1.1.1.1.1.1.1.2.1.1.1.1.1.1.2
theorem at_seg {ps bs cs : List Value} {n : Nat} {v : Value} (h : ps.length = n) : (ps ++ (v :: bs ++ cs))[n]? = some v := by
  rw [List.getElem?_append_right (by omega), h, Nat.sub_self]
  rfl
theorem rep_cells {W : World} {B : Nat} {us : List Value} {r : RepA} (h : cReplica.rep W B us r) : us.length = 43 ∧ us[1]? = some (.int .i64 (rTerm r)) ∧ us[9]? = some (.int .i64 (rRole r)) ∧ us[42]? = some (.bool (rUp r)) := by
  have hl : us.length = 43 := (cReplica.len h).trans (by kernel_rfl)
  refine ⟨hl, ?_⟩
  obtain ⟨_, u4, rfl, ⟨_, u3, rfl, ⟨_, u2, rfl, ⟨_, u1, rfl, ⟨_, u0, rfl, rfl, h0⟩, h1⟩, h2⟩, h3⟩, h4⟩ := h
  have l1 : u1.length = 8 := (cState.len h1).trans (by kernel_rfl)
  have l2 : u2.length = 1 := cInt.len h2
  have l3 : u3.length = 2 := (cFile.len h3).trans (by kernel_rfl)
  have l0 : u0.length = 31 := (cServer.len h0).trans (by kernel_rfl)
  have e4 : u4 = [.bool (rUp r)] := h4
  obtain ⟨_, v9, rfl, ⟨_, v8, rfl, ⟨_, v7, rfl, ⟨_, v6, rfl, ⟨_, v5, rfl, ⟨_, v4, rfl, ⟨_, v3, rfl, ⟨_, v2, rfl, ⟨_, v1, rfl, ⟨_, v0, rfl, rfl, g0⟩, g1⟩, g2⟩, g3⟩, g4⟩, g5⟩, g6⟩, g7⟩, g8⟩, g9⟩ := h0
  have m0 : v0.length = 1 := cInt.len g0
  have m1 : v1.length = 8 := (cKeep.len g1).trans (by kernel_rfl)
  have e2 : v2 = [.int .i64 (rRole r)] := g2
  obtain ⟨_, w6, rfl, ⟨_, w5, rfl, ⟨_, w4, rfl, ⟨_, w3, rfl, ⟨_, w2, rfl, ⟨_, w1, rfl, ⟨_, w0, rfl, rfl, f0⟩, f1⟩, f2⟩, f3⟩, f4⟩, f5⟩, f6⟩ := g1
  have e0 : w0 = [.int .i64 (rTerm r)] := f0
  subst e4 e2 e0
  refine ⟨?_, ?_, ?_⟩
  · have := at_seg (ps := v0) (bs := []) (cs := w1 ++ w2 ++ w3 ++ w4 ++ w5 ++ w6 ++ ([Value.int .i64 (rRole r)] ++ v3 ++ v4 ++ v5 ++ v6 ++ v7 ++ v8 ++ v9 ++ u1 ++ u2 ++ u3 ++ [Value.bool (rUp r)])) (v := .int .i64 (rTerm r)) m0
    simpa only [List.append_assoc, List.nil_append] using this
  · have := at_seg (ps := v0 ++ ([] ++ [Value.int .i64 (rTerm r)] ++ w1 ++ w2 ++ w3 ++ w4 ++ w5 ++ w6)) (bs := []) (cs := v3 ++ v4 ++ v5 ++ v6 ++ v7 ++ v8 ++ v9 ++ u1 ++ u2 ++ u3 ++ [Value.bool (rUp r)]) (v := .int .i64 (rRole r)) (by rw [List.length_append, m0, m1])
    simpa only [List.append_assoc, List.nil_append] using this
  · rw [List.getElem?_append_right (by rw [List.length_append, List.length_append, List.length_append, l1, l2, l3, List.length_append, l0]; simp), List.length_append, List.length_append, List.length_append, l1, l2, l3, List.length_append, l0]
    rfl

theorem box_at {W : World} {p i : Nat} {us : List Value} {v : Value} (h : Box W p us) (hv : us[i]? = some v) : W.cell? ⟨p, i, none⟩ = some v := by
  obtain ⟨t, h⟩ := h
  unfold World.cell?
  rw [h]
  simpa using hv
/-- Of the first i replicas the place behind the one that leads. -/
def chF (R : List RepA) : Nat → Nat
  | 0 => 0
  | i + 1 => match R[i]? with
    | some r => if rUp r = true ∧ rRole r = 2 ∧ (chF R i = 0 ∨ ∃ q, R[chF R i - 1]? = some q ∧ rTerm r > rTerm q) then i + 1 else chF R i
    | none => chF R i
theorem chF_le (R : List RepA) : ∀ i, chF R i ≤ i
  | 0 => Nat.le_refl _
  | i + 1 => by
      have h := chF_le R i
      show (match R[i]? with | some r => if rUp r = true ∧ rRole r = 2 ∧ (chF R i = 0 ∨ ∃ q, R[chF R i - 1]? = some q ∧ rTerm r > rTerm q) then i + 1 else chF R i | none => chF R i) ≤ i + 1
      cases R[i]? with
      | none => exact Nat.le_succ_of_le h
      | some r =>
        dsimp only
        split
        · exact Nat.le_refl _
        · exact Nat.le_succ_of_le h

end Go.Proofs.YtjiplphfpkhmpaaGreat
