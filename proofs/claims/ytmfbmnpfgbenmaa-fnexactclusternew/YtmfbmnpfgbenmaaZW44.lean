/-
  How large a new cluster is.
-/
import Derived.Test.YtmfbmnpfgbenmaaZW42
import Derived.Test.YtmfbmnpfgbenmaaZW43
namespace Go.Proofs.Ytmfbmnpfgbenmaa
open Go.ChangeShapes Go.WideShapes Go.ChangeAt Go.RowKit Go.Joins Go.Deep

theorem sumT_up {α : Type} {f : α → Int} {B : Int} : ∀ xs : List α, (∀ x ∈ xs, f x ≤ B) → sumT f xs ≤ xs.length * B
  | [], _ => by show (0 : Int) ≤ ((0 : Nat) : Int) * B; simp
  | x :: t, h => by
    have h1 := sumT_up t (fun y hy => h y (List.mem_cons_of_mem _ hy))
    have h2 := h x List.mem_cons_self
    show f x + sumT f t ≤ ((t.length + 1 : Nat) : Int) * B
    rw [Int.natCast_add, Int.add_mul]
    omega
theorem psum_up {α : Type} {f : α → Nat} {B : Nat} : ∀ xs : List α, (∀ x ∈ xs, f x ≤ B) → psum f xs xs.length ≤ xs.length * B
  | [], _ => by show (0 : Nat) ≤ 0 * B; omega
  | x :: t, h => by
    have h1 := psum_up t (fun y hy => h y (List.mem_cons_of_mem _ hy))
    have h2 := h x List.mem_cons_self
    show f x + psum f t t.length ≤ (t.length + 1) * B
    rw [Nat.add_mul]
    omega
theorem sv_totN {id : Int} {ps : List Int} (h : ps.length ≤ 7) : cServer.tot (svY id (knX ps) 0) ≤ 7 := by
  have e : cServer.tot (svY id (knX ps) 0) = 0 + 0 + cKeep.tot (knX ps) + 0 + 0 + 0 + ((([] : List Int).length : Int) + 0) + 0 + 0 + 0 + 0 := rfl
  have e2 : cKeep.tot (knX ps) = 0 + 0 + 0 + 0 + 0 + (0 + ((ps.length : Int) + sumT cInt.tot ps) + ((([] : List Int).length : Int) + 0)) + ((([] : List Int).length : Int) + 0) + ((([] : List EnA).length : Int) + 0) := rfl
  rw [sumT_zero (f := cInt.tot) (fun _ => rfl)] at e2
  simp only [List.length_nil] at e e2
  omega
theorem sv_cntN {id : Int} {ps : List Int} (h : ps.length ≤ 7) : mServer.cntF (svY id (knX ps) 0) ≤ 100 := by
  have e : mServer.cntF (svY id (knX ps) 0) = 0 + 1 + mKeep.cntF (knX ps) + 1 + 1 + 1 + 0 + 8 + 8 + 1 + 1 := rfl
  have e2 : mKeep.cntF (knX ps) = 0 + 1 + 1 + 1 + 1 + (0 + psum mInt.cntF ps ps.length + 0) + 0 + 0 := rfl
  rw [psum_one (f := mInt.cntF) (fun _ => rfl)] at e2
  omega
theorem cn_small {n : Int} {ps : List Int} (h : cnB n ps = true) : ps.length ≤ 7 ∧ n.toNat ≤ 7 := by
  unfold cnB grB inB at h
  simp only [Bool.and_eq_true, decide_eq_true_eq] at h
  have := idsB_len ps 0 h.2.1.1.1 (by omega)
  refine ⟨?_, by omega⟩
  rcases this with h1 | h1
  · omega
  · subst h1; simp
theorem cn_tot (n : Int) (ps : List Int) : cCluster.tot (cnX n ps) ≤ 1048576 := by
  unfold cnX
  split
  · next h =>
    obtain ⟨h1, h2⟩ := cn_small h
    have e : cCluster.tot (clX n.toNat ps) = 0 + ((((List.range n.toNat).map fun (j : Nat) => rpX (svY ((j : Int) + 1) (knX ps) 0)).length : Int) + sumT cReplica.tot ((List.range n.toNat).map fun (j : Nat) => rpX (svY ((j : Int) + 1) (knX ps) 0))) + (0 + ((ps.length : Int) + sumT cInt.tot ps) + ((([] : List Int).length : Int) + 0)) + 0 + 0 + 0 + 0 + 0 := rfl
    have h3 := sumT_up (f := cReplica.tot) (B := 7) ((List.range n.toNat).map fun (j : Nat) => rpX (svY ((j : Int) + 1) (knX ps) 0)) (fun x hx => by
      obtain ⟨j, _, rfl⟩ := List.mem_map.1 hx
      have e : cReplica.tot (rpX (svY ((j : Int) + 1) (knX ps) 0)) = 0 + cServer.tot (svY ((j : Int) + 1) (knX ps) 0) + 0 + 0 + 0 + 0 := rfl
      have := sv_totN (id := (j : Int) + 1) h1
      omega)
    rw [sumT_zero (f := cInt.tot) (fun _ => rfl)] at e
    rw [List.length_map, List.length_range] at e h3
    simp only [List.length_nil] at e
    omega
  · decide
theorem cn_cnt (n : Int) (ps : List Int) : mCluster.cntV (cnX n ps) ≤ 4194304 := by
  unfold cnX
  split
  · next h =>
    obtain ⟨h1, h2⟩ := cn_small h
    have e : mCluster.cntV (clX n.toNat ps) = 0 + psum mReplica.cntF ((List.range n.toNat).map fun (j : Nat) => rpX (svY ((j : Int) + 1) (knX ps) 0)) ((List.range n.toNat).map fun (j : Nat) => rpX (svY ((j : Int) + 1) (knX ps) 0)).length + (0 + psum mInt.cntF ps ps.length + 0) + 0 + 0 + 0 + 0 + 0 := rfl
    have h3 := psum_up (f := mReplica.cntF) (B := 200) ((List.range n.toNat).map fun (j : Nat) => rpX (svY ((j : Int) + 1) (knX ps) 0)) (fun x hx => by
      obtain ⟨j, _, rfl⟩ := List.mem_map.1 hx
      have e : mReplica.cntF (rpX (svY ((j : Int) + 1) (knX ps) 0)) = 0 + mServer.cntF (svY ((j : Int) + 1) (knX ps) 0) + mState.cntF stX + 1 + 1 + 1 := rfl
      have e2 : mState.cntF stX ≤ 20 := by decide
      have := sv_cntN (id := (j : Int) + 1) h1
      omega)
    rw [psum_one (f := mInt.cntF) (fun _ => rfl)] at e
    rw [List.length_map, List.length_range] at e h3
    omega
  · decide

end Go.Proofs.Ytmfbmnpfgbenmaa
