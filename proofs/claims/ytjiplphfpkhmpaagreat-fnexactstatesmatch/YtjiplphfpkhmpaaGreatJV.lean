/-
  Two replicas' states; a replica's cells with its state.
-/
import Derived.Test.YtjiplphfpkhmpaaGreatJUd
namespace Go.Proofs.YtjiplphfpkhmpaaGreat
open Go.RowKit

def rState (r : RepA) : StA := r.1.1.1.2
structure RepS (W : World) (B : Nat) (us : List Value) (r : RepA) : Prop extends RepC W B us r where
  st : ∃ pre ss post, us = pre ++ (ss ++ post) ∧ pre.length = 31 ∧ ss.length = 8 ∧ cState.rep W B ss (rState r)
theorem rep_partS {W : World} {B : Nat} {us : List Value} {r : RepA} (h : cReplica.rep W B us r) : RepS W B us r := by
  refine ⟨rep_parts h, ?_⟩
  obtain ⟨_, u4, rfl, ⟨_, u3, rfl, ⟨_, u2, rfl, ⟨_, u1, rfl, ⟨_, u0, rfl, rfl, h0⟩, h1⟩, h2⟩, h3⟩, h4⟩ := h
  have l1 : u1.length = 8 := (cState.len h1).trans (by kernel_rfl)
  have l0 : u0.length = 31 := (cServer.len h0).trans (by kernel_rfl)
  exact ⟨u0, u1, u2 ++ u3 ++ u4, by simp only [List.nil_append, List.append_assoc], l0, l1, h1⟩
theorem seg_sub {W : World} {p off : Nat} {us pre ss post : List Value} (h : Seg W p off us) (e : us = pre ++ (ss ++ post)) : Seg W p (off + pre.length) ss := by
  subst e
  intro i u hu
  have hi := (List.getElem?_eq_some_iff.1 hu).1
  have := h (pre.length + i) u (by rw [List.getElem?_append_right (by omega), Nat.add_sub_cancel_left, List.getElem?_append_left hi]; exact hu)
  rw [Nat.add_assoc]
  exact this
/-- Of two replicas: where both are up and as far, their states are the same. -/
def stP (r z : RepA) : Bool := !((rUp r && rUp z) && rApplied r == rApplied z) || sameSt (rState r) (rState z)
def stF (R : List RepA) (i k : Nat) : Bool := match R[i]?, R[k]? with
  | some r, some z => stP r z
  | _, _ => true
def stG (R : List RepA) (i : Nat) : Bool := allN (stF R i) i
theorem stF_at {R : List RepA} {i k : Nat} {r z : RepA} (h : R[i]? = some r) (g : R[k]? = some z) : stF R i k = stP r z := by
  unfold stF
  rw [h, g]
theorem eqR_comm {α : Type} {f : α → α → Bool} (hf : ∀ x y, f x y = f y x) (xs ys : List α) : eqR f xs ys = eqR f ys xs := by
  by_cases h : xs.length = ys.length
  · unfold eqR
    rw [h, allN_congr (f := eqK f ys xs)]
    intro i _
    unfold eqK
    cases xs[i]? <;> cases ys[i]? <;> first | rfl | exact hf _ _
  · rw [eqR_len h, eqR_len (Ne.symm h)]
theorem beq_sw {α : Type} [BEq α] [LawfulBEq α] (a b : α) : (a == b) = (b == a) := Bool.eq_iff_iff.2 ⟨fun h => by rw [eq_of_beq h]; exact BEq.rfl, fun h => by rw [eq_of_beq h]; exact BEq.rfl⟩
theorem eqA_comm (x y : AddrA) : eqA_B x y = eqA_B y x := by unfold eqA_B; rw [beq_sw x.1.1.2, beq_sw x.1.2, beq_sw x.2]
theorem eqPool_comm (x y : PoolA) : eqPool_B x y = eqPool_B y x := by unfold eqPool_B; rw [eqA_comm, beq_sw x.1.2.2, beq_sw x.2]
theorem eqBlock_comm (x y : BlockA) : eqBlock_B x y = eqBlock_B y x := by unfold eqBlock_B; rw [eqA_comm, beq_sw x.1.2.2, beq_sw x.2.toList]
theorem eqLease_comm (x y : LeaseA) : eqLease_B x y = eqLease_B y x := by unfold eqLease_B; rw [eqA_comm, beq_sw x.1.1.2.toList, beq_sw x.1.2, beq_sw x.2]
theorem eqSess_comm (x y : SessA) : eqSess_B x y = eqSess_B y x := by unfold eqSess_B; rw [beq_sw x.1.1.1.2, beq_sw x.1.1.2, beq_sw x.1.2.toList, beq_sw x.2]
theorem sameSt_comm (s t : StA) : sameSt s t = sameSt t s := by
  unfold sameSt planE bookE deskE
  rw [eqR_comm eqPool_comm, eqR_comm eqBlock_comm, eqR_comm eqLease_comm, eqR_comm eqSess_comm, beq_sw (sTok s), beq_sw (sNow s), beq_sw (sNext s), beq_sw (sCount s)]
theorem stP_comm (r z : RepA) : stP r z = stP z r := by
  unfold stP
  rw [sameSt_comm, beq_sw (rApplied r), Bool.and_comm (rUp r)]
/-- What stands for a function. -/
def fnV (f : FuncId) : Value := Act.eval ⟨#[], []⟩ (.func f)
theorem fnV_eval {a : Act} {f : FuncId} : fnV f = a.eval (.func f) := rfl

section
variable {P : Program} {ops : Array Oper} {Q : Exit → Act → World → Prop} {S : World → Prop} {fuel : Nat} {listed : Array Bool} {a : Act} {w : World}
/-- A guarded call that alone may come. -/
theorem dg_call (i d : Nat) {f : FuncId} {xs : Array Operand} {ats : Array TypeId} {ty : TypeId} {ps : String} {af : Array Edge} {gd : Option (Nat × Bool)} {R : Ending → World → Prop} (hi : ops[i]? = some (⟨some d, .call { callee := .value (.func f), args := xs, argTypes := ats }, ty, ps, af, gd⟩ : Oper)) (hr : Region.ready .any ops listed = [i])
    (hw : Region.wanted (⟨some d, .call { callee := .value (.func f), args := xs, argTypes := ats }, ty, ps, af, gd⟩ : Oper) (yielded ops a.tmps) = true) (hf : Fn P f) (h : Calls P f (xs.map a.eval) w R)
    (k : ∀ e V, R e V → ∃ v, e = .returned v ∧ S V ∧ wpAnyH P .any ops Q S fuel (listed.setIfInBounds i true) (a.put (some d) v) V) : wpAnyH P .any ops Q S (fuel + 1) listed a w := by
  refine wpAnyH_ready hr (by simp) (AllReadyH.cons hi (fun K hK => ?_) AllReadyH.nil)
  rw [if_pos hw]
  unfold Oper.wp
  rw [execOp_call_go, show (#[] ++ xs.map a.eval ++ #[] : Array Value) = xs.map a.eval by simp, hf.run]
  show Calls P f _ w _
  refine h.mono ?_
  intro e V hr
  obtain ⟨v, rfl, hS, hk⟩ := k e V hr
  exact hK.out _ _ hS (fun _ => hk)
end

end Go.Proofs.YtjiplphfpkhmpaaGreat
