/-
  Pools, blocks, leases and sessions compared, field by field; rows of them.
-/
import Derived.Test.YtjiplphfpkhmpaaGreatJB
import Derived.ProofKit
namespace Go.Proofs.YtjiplphfpkhmpaaGreat
open Go.RowKit

theorem eqA9998 (a : Bool) (b c : Int) (d : Bool) (e f : Int) (w : World) : (Op.equalIn 9998 113 (.agg #[.bool a, .int .i64 b, .int .i64 c]) (.agg #[.bool d, .int .i64 e, .int .i64 f])).run Tryz.prog w = .ok (a == d && (b == e && c == f)) w := by
  have u1 := Tryz.underlying3
  have a1 := Tryz.isAgg3
  have z1 := Tryz.sizeOf3
  have u2 := Tryz.underlying4
  have a2 := Tryz.isAgg4
  have z2 := Tryz.sizeOf4
  have hS : Tryz.prog.underlying 113 = some (.struct (Tryz.prog.fieldsOf 113)) := by kernel_rfl
  have hp : Tryz.prog.stoodInHeld 113 = false := by kernel_rfl
  rw [show (9998 : Nat) = 9997 + 1 from rfl, run_equalIn_agg w 9997 113 _ _ hS hp]
  simp only [Program.fieldsOf, Tryz.underlying113]
  go_simp
  by_cases h1 : a = d <;> by_cases h2 : b = e <;> by_cases h3 : c = f <;> simp [h1, h2, h3]
theorem eqA9999 (a : Bool) (b c : Int) (d : Bool) (e f : Int) (w : World) : (Op.equalIn 9999 113 (.agg #[.bool a, .int .i64 b, .int .i64 c]) (.agg #[.bool d, .int .i64 e, .int .i64 f])).run Tryz.prog w = .ok (a == d && (b == e && c == f)) w := by
  have u1 := Tryz.underlying3
  have a1 := Tryz.isAgg3
  have z1 := Tryz.sizeOf3
  have u2 := Tryz.underlying4
  have a2 := Tryz.isAgg4
  have z2 := Tryz.sizeOf4
  have hS : Tryz.prog.underlying 113 = some (.struct (Tryz.prog.fieldsOf 113)) := by kernel_rfl
  have hp : Tryz.prog.stoodInHeld 113 = false := by kernel_rfl
  rw [show (9999 : Nat) = 9998 + 1 from rfl, run_equalIn_agg w 9998 113 _ _ hS hp]
  simp only [Program.fieldsOf, Tryz.underlying113]
  go_simp
  by_cases h1 : a = d <;> by_cases h2 : b = e <;> by_cases h3 : c = f <;> simp [h1, h2, h3]
set_option maxHeartbeats 1000000 in
theorem eqP9999 (a : Bool) (b c x : Int) (d : Bool) (e f y : Int) (w : World) : (Op.equalIn 9999 115 (.agg #[.bool a, .int .i64 b, .int .i64 c, .int .i64 x]) (.agg #[.bool d, .int .i64 e, .int .i64 f, .int .i64 y])).run Tryz.prog w = .ok ((a == d && (b == e && c == f)) && x == y) w := by
  have u1 := Tryz.underlying3
  have a1 := Tryz.isAgg3
  have z1 := Tryz.sizeOf3
  have u2 := Tryz.underlying113
  have a2 := Tryz.isAgg113
  have z2 := Tryz.sizeOf113
  have h9 := eqA9998 a b c d e f
  generalize (a == d && (b == e && c == f)) = r at *
  have hS : Tryz.prog.underlying 115 = some (.struct (Tryz.prog.fieldsOf 115)) := by kernel_rfl
  have hp : Tryz.prog.stoodInHeld 115 = false := by kernel_rfl
  rw [show (9999 : Nat) = 9998 + 1 from rfl, run_equalIn_agg w 9998 115 _ _ hS hp]
  simp only [Program.fieldsOf, Tryz.underlying115]
  cases r <;> by_cases h4 : x = y
  all_goals
    go_simp
    try simp [h4]
set_option maxHeartbeats 1000000 in
theorem eqPl_run (s : Bool) (h l b n : Int) (s' : Bool) (h' l' b' n' : Int) (w : World) : (Op.equalIn 10000 117 (.agg #[.bool s, .int .i64 h, .int .i64 l, .int .i64 b, .int .i64 n]) (.agg #[.bool s', .int .i64 h', .int .i64 l', .int .i64 b', .int .i64 n'])).run Tryz.prog w = .ok (((s == s' && (h == h' && l == l')) && b == b') && n == n') w := by
  have u1 := Tryz.underlying3
  have a1 := Tryz.isAgg3
  have z1 := Tryz.sizeOf3
  have u2 := Tryz.underlying115
  have a2 := Tryz.isAgg115
  have z2 := Tryz.sizeOf115
  have h9 := eqP9999 s h l b s' h' l' b'
  generalize ((s == s' && (h == h' && l == l')) && b == b') = r at *
  have hS : Tryz.prog.underlying 117 = some (.struct (Tryz.prog.fieldsOf 117)) := by kernel_rfl
  have hp : Tryz.prog.stoodInHeld 117 = false := by kernel_rfl
  rw [show (10000 : Nat) = 9999 + 1 from rfl, run_equalIn_agg w 9999 117 _ _ hS hp]
  simp only [Program.fieldsOf, Tryz.underlying117]
  cases r <;> by_cases h4 : n = n'
  all_goals
    go_simp
    try simp [h4]
set_option maxHeartbeats 1000000 in
theorem eqBk_run (s : Bool) (h l b : Int) (t : ByteArray) (s' : Bool) (h' l' b' : Int) (t' : ByteArray) (w : World) : (Op.equalIn 10000 119 (.agg #[.bool s, .int .i64 h, .int .i64 l, .int .i64 b, .string t]) (.agg #[.bool s', .int .i64 h', .int .i64 l', .int .i64 b', .string t'])).run Tryz.prog w = .ok (((s == s' && (h == h' && l == l')) && b == b') && t.toList == t'.toList) w := by
  have u1 := Tryz.underlying3
  have a1 := Tryz.isAgg3
  have z1 := Tryz.sizeOf3
  have u2 := Tryz.underlying115
  have a2 := Tryz.isAgg115
  have z2 := Tryz.sizeOf115
  have h9 := eqP9999 s h l b s' h' l' b'
  have u3 := Tryz.underlying9
  have a3 := Tryz.isAgg9
  have z3 := Tryz.sizeOf9
  generalize ((s == s' && (h == h' && l == l')) && b == b') = r at *
  have hS : Tryz.prog.underlying 119 = some (.struct (Tryz.prog.fieldsOf 119)) := by kernel_rfl
  have hp : Tryz.prog.stoodInHeld 119 = false := by kernel_rfl
  rw [show (10000 : Nat) = 9999 + 1 from rfl, run_equalIn_agg w 9999 119 _ _ hS hp]
  simp only [Program.fieldsOf, Tryz.underlying119]
  cases r <;> by_cases h4 : t.toList = t'.toList
  all_goals
    go_simp
    try simp [h4]
set_option maxHeartbeats 1000000 in
theorem eqLs_run (s : Bool) (h l : Int) (t : ByteArray) (k u : Int) (s' : Bool) (h' l' : Int) (t' : ByteArray) (k' u' : Int) (w : World) : (Op.equalIn 10000 121 (.agg #[.bool s, .int .i64 h, .int .i64 l, .string t, .int .i64 k, .int .i64 u]) (.agg #[.bool s', .int .i64 h', .int .i64 l', .string t', .int .i64 k', .int .i64 u'])).run Tryz.prog w = .ok ((s == s' && (h == h' && l == l')) && (t.toList == t'.toList && (k == k' && u == u'))) w := by
  have u1 := Tryz.underlying3
  have a1 := Tryz.isAgg3
  have z1 := Tryz.sizeOf3
  have u2 := Tryz.underlying113
  have a2 := Tryz.isAgg113
  have z2 := Tryz.sizeOf113
  have h9 := eqA9999 s h l s' h' l'
  have u3 := Tryz.underlying9
  have a3 := Tryz.isAgg9
  have z3 := Tryz.sizeOf9
  generalize (s == s' && (h == h' && l == l')) = r at *
  have hS : Tryz.prog.underlying 121 = some (.struct (Tryz.prog.fieldsOf 121)) := by kernel_rfl
  have hp : Tryz.prog.stoodInHeld 121 = false := by kernel_rfl
  rw [show (10000 : Nat) = 9999 + 1 from rfl, run_equalIn_agg w 9999 121 _ _ hS hp]
  simp only [Program.fieldsOf, Tryz.underlying121]
  cases r <;> by_cases h4 : t.toList = t'.toList <;> by_cases h5 : k = k' <;> by_cases h6 : u = u'
  all_goals
    go_simp
    try simp [h4, h5, h6]
set_option maxHeartbeats 1000000 in
theorem eqSs_run (i l : Int) (t : ByteArray) (u : Int) (i' l' : Int) (t' : ByteArray) (u' : Int) (w : World) : (Op.equalIn 10000 123 (.agg #[.int .i64 i, .int .i64 l, .string t, .int .i64 u]) (.agg #[.int .i64 i', .int .i64 l', .string t', .int .i64 u'])).run Tryz.prog w = .ok (i == i' && (l == l' && (t.toList == t'.toList && u == u'))) w := by
  have u1 := Tryz.underlying3
  have a1 := Tryz.isAgg3
  have z1 := Tryz.sizeOf3
  have u3 := Tryz.underlying9
  have a3 := Tryz.isAgg9
  have z3 := Tryz.sizeOf9
  have hS : Tryz.prog.underlying 123 = some (.struct (Tryz.prog.fieldsOf 123)) := by kernel_rfl
  have hp : Tryz.prog.stoodInHeld 123 = false := by kernel_rfl
  rw [show (10000 : Nat) = 9999 + 1 from rfl, run_equalIn_agg w 9999 123 _ _ hS hp]
  simp only [Program.fieldsOf, Tryz.underlying123]
  by_cases h4 : i = i' <;> by_cases h5 : l = l' <;> by_cases h6 : t.toList = t'.toList <;> by_cases h7 : u = u'
  all_goals
    go_simp
    try simp [h4, h5, h6, h7]

abbrev AddrA : Type := ((Unit × Bool) × Int) × Int
abbrev PfxA : Type := (Unit × AddrA) × Int
abbrev PoolA : Type := (Unit × PfxA) × Int
abbrev BlockA : Type := (Unit × PfxA) × ByteArray
abbrev LeaseA : Type := (((Unit × AddrA) × ByteArray) × Int) × Int
abbrev SessA : Type := (((Unit × Int) × Int) × ByteArray) × Int
def eqA_B (x y : AddrA) : Bool := x.1.1.2 == y.1.1.2 && (x.1.2 == y.1.2 && x.2 == y.2)
def eqPool_B (x y : PoolA) : Bool := (eqA_B x.1.2.1.2 y.1.2.1.2 && x.1.2.2 == y.1.2.2) && x.2 == y.2
def eqBlock_B (x y : BlockA) : Bool := (eqA_B x.1.2.1.2 y.1.2.1.2 && x.1.2.2 == y.1.2.2) && x.2.toList == y.2.toList
def eqLease_B (x y : LeaseA) : Bool := eqA_B x.1.1.1.2 y.1.1.1.2 && (x.1.1.2.toList == y.1.1.2.toList && (x.1.2 == y.1.2 && x.2 == y.2))
def eqSess_B (x y : SessA) : Bool := x.1.1.1.2 == y.1.1.1.2 && (x.1.1.2 == y.1.1.2 && (x.1.2.toList == y.1.2.toList && x.2 == y.2))
theorem addr_cells {W : World} {B : Nat} {us : List Value} {x : AddrA} (h : cAddr.rep W B us x) : us = [.bool x.1.1.2, .int .i64 x.1.2, .int .i64 x.2] := by
  obtain ⟨_, _, rfl, ⟨_, _, rfl, ⟨_, _, rfl, rfl, rfl⟩, rfl⟩, rfl⟩ := h
  rfl
theorem pfx_cells {W : World} {B : Nat} {us : List Value} {x : PfxA} (h : cPrefix.rep W B us x) : us = [.bool x.1.2.1.1.2, .int .i64 x.1.2.1.2, .int .i64 x.1.2.2, .int .i64 x.2] := by
  obtain ⟨_, _, rfl, ⟨_, _, rfl, rfl, h1⟩, rfl⟩ := h
  rw [addr_cells h1]
  rfl
theorem pool_cells {W : World} {B : Nat} {us : List Value} {x : PoolA} (h : cPool.rep W B us x) : us = [.bool x.1.2.1.2.1.1.2, .int .i64 x.1.2.1.2.1.2, .int .i64 x.1.2.1.2.2, .int .i64 x.1.2.2, .int .i64 x.2] := by
  obtain ⟨_, _, rfl, ⟨_, _, rfl, rfl, h1⟩, rfl⟩ := h
  rw [pfx_cells h1]
  rfl
theorem block_cells {W : World} {B : Nat} {us : List Value} {x : BlockA} (h : cBlock.rep W B us x) : us = [.bool x.1.2.1.2.1.1.2, .int .i64 x.1.2.1.2.1.2, .int .i64 x.1.2.1.2.2, .int .i64 x.1.2.2, .string x.2] := by
  obtain ⟨_, _, rfl, ⟨_, _, rfl, rfl, h1⟩, ⟨rfl, _⟩⟩ := h
  rw [pfx_cells h1]
  rfl
theorem lease_cells {W : World} {B : Nat} {us : List Value} {x : LeaseA} (h : cLease.rep W B us x) : us = [.bool x.1.1.1.2.1.1.2, .int .i64 x.1.1.1.2.1.2, .int .i64 x.1.1.1.2.2, .string x.1.1.2, .int .i64 x.1.2, .int .i64 x.2] := by
  obtain ⟨_, _, rfl, ⟨_, _, rfl, ⟨_, _, rfl, ⟨_, _, rfl, rfl, h1⟩, ⟨rfl, _⟩⟩, rfl⟩, rfl⟩ := h
  rw [addr_cells h1]
  rfl
theorem sess_cells {W : World} {B : Nat} {us : List Value} {x : SessA} (h : cSession.rep W B us x) : us = [.int .i64 x.1.1.1.2, .int .i64 x.1.1.2, .string x.1.2, .int .i64 x.2] := by
  obtain ⟨_, _, rfl, ⟨_, _, rfl, ⟨_, _, rfl, ⟨_, _, rfl, rfl, rfl⟩, rfl⟩, ⟨rfl, _⟩⟩, rfl⟩ := h
  rfl
/-- Two of a kind are held against each other. -/
def NqC {α : Type} (T : Cd α) (tx : TypeId) (f : α → α → Bool) : Prop := ∀ (us vs : List Value) (x y : α) (W U : World) (B C : Nat), T.rep W B us x → T.rep U C vs y → ∀ (X Z : Operand) (V : World), (do eqGuard .neq tx X Z (.agg us.toArray) (.agg vs.toArray); binOp .neq tx (.agg us.toArray) (.agg vs.toArray) : Sem Value).run Tryz.prog V = .ok (.bool (!f x y)) V
theorem nq_of {tx : TypeId} {A B : Array Value} {b : Bool} {V : World} {X Z : Operand} (hT : Tryz.prog.eqGuardType Tryz.prog.depth tx = false) (h : (Op.equalIn 10000 tx (.agg A) (.agg B)).run Tryz.prog V = .ok b V) : (do eqGuard .neq tx X Z (.agg A) (.agg B); binOp .neq tx (.agg A) (.agg B) : Sem Value).run Tryz.prog V = .ok (.bool (!b)) V := by
  have h1 : (Op.equalIn Op.maxDepth tx (.agg A) (.agg B)).run Tryz.prog V = .ok b V := h
  simp [eqGuard, binOp, Op.equal, h1, hT]
theorem nqPool : NqC cPool 117 eqPool_B := fun us vs x y W U B C h g X Z V => by
  rw [pool_cells h, pool_cells g]
  exact nq_of (by kernel_rfl) (eqPl_run _ _ _ _ _ _ _ _ _ _ V)
theorem nqBlock : NqC cBlock 119 eqBlock_B := fun us vs x y W U B C h g X Z V => by
  rw [block_cells h, block_cells g]
  exact nq_of (by kernel_rfl) (eqBk_run _ _ _ _ _ _ _ _ _ _ V)
theorem nqLease : NqC cLease 121 eqLease_B := fun us vs x y W U B C h g X Z V => by
  rw [lease_cells h, lease_cells g]
  exact nq_of (by kernel_rfl) (eqLs_run _ _ _ _ _ _ _ _ _ _ _ _ V)
theorem nqSess : NqC cSession 123 eqSess_B := fun us vs x y W U B C h g X Z V => by
  rw [sess_cells h, sess_cells g]
  exact nq_of (by kernel_rfl) (eqSs_run _ _ _ _ _ _ _ _ V)
/-- Two rows, one by one. -/
def eqK {α : Type} (f : α → α → Bool) (xs ys : List α) (j : Nat) : Bool := match xs[j]?, ys[j]? with
  | some x, some y => f x y
  | _, _ => true
def eqR {α : Type} (f : α → α → Bool) (xs ys : List α) : Bool := xs.length == ys.length && allN (eqK f xs ys) xs.length
theorem eqK_at {α : Type} {f : α → α → Bool} {xs ys : List α} {j : Nat} {x y : α} (h : xs[j]? = some x) (g : ys[j]? = some y) : eqK f xs ys j = f x y := by
  unfold eqK
  rw [h, g]
theorem eqR_len {α : Type} {f : α → α → Bool} {xs ys : List α} (h : xs.length ≠ ys.length) : eqR f xs ys = false := by
  unfold eqR
  rw [beq_false_of_ne h, Bool.false_and]
theorem eqR_bad {α : Type} {f : α → α → Bool} {xs ys : List α} {j : Nat} (h : eqK f xs ys j = false) (hj : j < xs.length) : eqR f xs ys = false := by
  unfold eqR
  rw [allN_bad h hj, Bool.and_false]
theorem eqR_good {α : Type} {f : α → α → Bool} {xs ys : List α} (h : xs.length = ys.length) (g : allN (eqK f xs ys) xs.length = true) : eqR f xs ys = true := by
  unfold eqR
  rw [g, h]
  simp
theorem At.out2 {α : Type} {T : Cd α} {W : World} {B p q j : Nat} {y : α} (h : At T W B (some ⟨p, q, none⟩) j y) : ∃ us, p < W.heap.size ∧ Seg W p (q + j * T.k) us ∧ T.rep W B us y := by
  obtain ⟨p', q', us, e, _, hp, hs, hr⟩ := h
  simp only [Option.some.injEq, Addr.mk.injEq, and_true] at e
  obtain ⟨rfl, rfl⟩ := e
  exact ⟨us, hp, hs, hr⟩

section
variable {P : Program} {ops : Array Oper} {rest : List Oper} {a : Act} {w : World} {Q : Exit → Act → World → Prop} {d : Option Tmp} {ty : TypeId} {ps : String} {af : Array Edge} {gd : Option (Nat × Bool)}
theorem wg_call {f : FuncId} {xs : Array Operand} {ats : Array TypeId} {R : Ending → World → Prop} (hw : Region.wanted (⟨d, .call { callee := .value (.func f), args := xs, argTypes := ats }, ty, ps, af, gd⟩ : Oper) (yielded ops a.tmps) = true) (hf : Fn P f) (h : Calls P f (xs.map a.eval) w R) (k : ∀ e V, R e V → ∃ v, e = .returned v ∧ wpList P ops Q rest (a.put d v) V) :
    wpList P ops Q (⟨d, .call { callee := .value (.func f), args := xs, argTypes := ats }, ty, ps, af, gd⟩ :: rest) a w := by
  unfold wpList
  rw [if_pos hw]
  left
  unfold Oper.wp
  rw [execOp_call_go, show (#[] ++ xs.map a.eval ++ #[] : Array Value) = xs.map a.eval by simp, hf.run]
  show Calls P f _ w _
  refine h.mono ?_
  intro e V hr
  obtain ⟨v, rfl, hk⟩ := k e V hr
  exact hk
/-- A call by a value that is a function, alone in a drawn region. -/
theorem dr_callV {S : World → Prop} {fuel : Nat} {listed : Array Bool} (i d : Nat) {x : Operand} {f : FuncId} {xs : Array Operand} {ats : Array TypeId} {ty : TypeId} {ps : String} {af : Array Edge} {R : Ending → World → Prop} (hi : ops[i]? = some (⟨some d, .call { callee := .value x, args := xs, argTypes := ats }, ty, ps, af, none⟩ : Oper)) (hr : Region.ready .any ops listed = [i]) (hx : a.eval x = a.eval (.func f)) (hf : Fn P f) (h : Calls P f (xs.map a.eval) w R)
    (k : ∀ e V, R e V → ∃ v, e = .returned v ∧ S V ∧ wpAnyH P .any ops Q S fuel (listed.setIfInBounds i true) (a.put (some d) v) V) : wpAnyH P .any ops Q S (fuel + 1) listed a w := by
  refine wpAnyH_ready hr (by simp) (AllReadyH.cons hi (fun K hK => ?_) AllReadyH.nil)
  rw [if_pos (by simp [Region.wanted])]
  unfold Oper.wp
  have e1 : execOp a.eval (⟨some d, .call { callee := .value x, args := xs, argTypes := ats }, ty, ps, af, none⟩ : Oper) = execOp a.eval (⟨some d, .call { callee := .value (.func f), args := xs, argTypes := ats }, ty, ps, af, none⟩ : Oper) := by
    simp only [execOp, resolve, hx]
  rw [e1, execOp_call_go, show (#[] ++ xs.map a.eval ++ #[] : Array Value) = xs.map a.eval by simp, hf.run]
  show Calls P f _ w _
  refine h.mono ?_
  intro e V hr
  obtain ⟨v, rfl, hS, hk⟩ := k e V hr
  exact hK.out _ _ hS (fun _ => hk)
end

end Go.Proofs.YtjiplphfpkhmpaaGreat
