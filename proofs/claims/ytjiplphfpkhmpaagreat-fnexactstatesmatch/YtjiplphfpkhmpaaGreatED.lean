/-
  Operations that a test guards.
-/
import Derived.Test.YtjiplphfpkhmpaaGreatEC
namespace Go.Proofs.YtjiplphfpkhmpaaGreat
open Go.RowKit

section
variable {P : Program} {ops : Array Oper} {rest : List Oper} {a : Act} {w w' : World} {Q : Exit → Act → World → Prop} {d : Option Tmp} {ty : TypeId} {ps : String} {af : Array Edge} {gd : Option (Nat × Bool)}

theorem wan_yes {j t : Nat} {b : Bool} {op : Op} (hj : (ops[j]?).bind (·.dst) = some t) (he : a.eval (.tmp t) = .bool b) (ht : t < a.tmps.size) : Region.wanted (⟨d, op, ty, ps, af, some (j, b)⟩ : Oper) (yielded ops a.tmps) = true := by
  have e : a.tmps[t]? = some (.bool b) := by
    have : a.tmps.getD t undef = .bool b := he
    rw [Array.getD_eq_getD_getElem?, Array.getElem?_eq_getElem ht, Option.getD_some] at this
    rw [Array.getElem?_eq_getElem ht, this]
  show (yielded ops a.tmps j == some b) = true
  unfold yielded
  rw [hj]
  simp [e]
theorem wan_no {j t : Nat} {b c : Bool} {op : Op} (hj : (ops[j]?).bind (·.dst) = some t) (he : a.eval (.tmp t) = .bool c) (hne : c ≠ b) : Region.wanted (⟨d, op, ty, ps, af, some (j, b)⟩ : Oper) (yielded ops a.tmps) = false := by
  show (yielded ops a.tmps j == some b) = false
  unfold yielded
  rw [hj]
  have : a.tmps.getD t undef = .bool c := he
  rw [Array.getD_eq_getD_getElem?] at this
  show ((match a.tmps[t]? with | some (.bool b) => some b | _ => none) == some b) = false
  cases hq : a.tmps[t]? with
  | none => rfl
  | some v =>
    rw [hq, Option.getD_some] at this
    subst this
    simp [hne]
theorem wan_un {j t : Nat} {b : Bool} {op : Op} (hj : (ops[j]?).bind (·.dst) = some t) (he : a.eval (.tmp t) = undef) : Region.wanted (⟨d, op, ty, ps, af, some (j, b)⟩ : Oper) (yielded ops a.tmps) = false := by
  show (yielded ops a.tmps j == some b) = false
  unfold yielded
  rw [hj]
  have : a.tmps.getD t undef = undef := he
  rw [Array.getD_eq_getD_getElem?] at this
  show ((match a.tmps[t]? with | some (.bool b) => some b | _ => none) == some b) = false
  cases hq : a.tmps[t]? with
  | none => rfl
  | some v =>
    rw [hq, Option.getD_some] at this
    subst this
    rfl
theorem wg_val {op : Op} {v : Value} (hw : Region.wanted (⟨d, op, ty, ps, af, gd⟩ : Oper) (yielded ops a.tmps) = true) (h : (execOp a.eval (⟨d, op, ty, ps, af, gd⟩ : Oper)).run P w = .ok (.value v) w') (k : wpList P ops Q rest (a.put d v) w') : wpList P ops Q (⟨d, op, ty, ps, af, gd⟩ :: rest) a w := by
  unfold wpList
  rw [if_pos hw]
  left
  unfold Oper.wp
  rw [h]
  exact k
theorem wg_skip {op : Op} (hw : Region.wanted (⟨d, op, ty, ps, af, gd⟩ : Oper) (yielded ops a.tmps) = false) (k : wpList P ops Q rest (a.put d undef) w) : wpList P ops Q (⟨d, op, ty, ps, af, gd⟩ :: rest) a w := wpList_skip hw k
theorem wg_no {j t : Nat} {b c : Bool} {op : Op} (hj : (ops[j]?).bind (·.dst) = some t) (he : a.eval (.tmp t) = .bool c) (hne : c ≠ b) (k : wpList P ops Q rest (a.put d undef) w) : wpList P ops Q (⟨d, op, ty, ps, af, some (j, b)⟩ :: rest) a w := wg_skip (wan_no hj he hne) k
theorem wg_yes {j t : Nat} {b : Bool} {op : Op} {v : Value} (hj : (ops[j]?).bind (·.dst) = some t) (he : a.eval (.tmp t) = .bool b) (ht : t < a.tmps.size) (h : (execOp a.eval (⟨d, op, ty, ps, af, some (j, b)⟩ : Oper)).run P w = .ok (.value v) w) (k : wpList P ops Q rest (a.put d v) w) : wpList P ops Q (⟨d, op, ty, ps, af, some (j, b)⟩ :: rest) a w := wg_val (wan_yes hj he ht) h k
variable {S : World → Prop} {fuel : Nat} {listed : Array Bool}
theorem dg_val (i d : Nat) {op : Op} {ty : TypeId} {ps : String} {af : Array Edge} {gd : Option (Nat × Bool)} {v : Value} (hi : ops[i]? = some (⟨some d, op, ty, ps, af, gd⟩ : Oper)) (hb : (Region.noSelect ops && (Region.free .any ops listed i && (Region.ready .any ops listed).contains i)) = true) (hQ : ∀ c a d v w, Q (.panic c) (a.put d v) w → Q (.panic c) a w)
    (hw : Region.wanted (⟨some d, op, ty, ps, af, gd⟩ : Oper) (yielded ops a.tmps) = true) (hy : ∀ w, S w → (execOp a.eval (⟨some d, op, ty, ps, af, gd⟩ : Oper)).run P w = .ok (.value v) w) (hS : S w)
    (h : wpAnyH P .any ops Q S fuel (listed.setIfInBounds i true) (a.put (some d) v) w) : wpAnyH P .any ops Q S (fuel + 1) listed a w := by
  rw [Bool.and_eq_true, Bool.and_eq_true] at hb
  exact wpAnyH_take hi hb.1 hb.2.1 hb.2.2 (fun c a w hq => hQ c a _ v w hq) (Or.inl ⟨hw, hy⟩) hS h
theorem dg_skip (i d : Nat) {op : Op} {ty : TypeId} {ps : String} {af : Array Edge} {gd : Option (Nat × Bool)} (hi : ops[i]? = some (⟨some d, op, ty, ps, af, gd⟩ : Oper)) (hb : (Region.noSelect ops && (Region.free .any ops listed i && (Region.ready .any ops listed).contains i)) = true) (hQ : ∀ c a d v w, Q (.panic c) (a.put d v) w → Q (.panic c) a w)
    (hw : Region.wanted (⟨some d, op, ty, ps, af, gd⟩ : Oper) (yielded ops a.tmps) = false) (hS : S w)
    (h : wpAnyH P .any ops Q S fuel (listed.setIfInBounds i true) (a.put (some d) undef) w) : wpAnyH P .any ops Q S (fuel + 1) listed a w := by
  rw [Bool.and_eq_true, Bool.and_eq_true] at hb
  exact wpAnyH_take hi hb.1 hb.2.1 hb.2.2 (fun c a w hq => hQ c a _ _ w hq) (Or.inr ⟨hw, rfl⟩) hS h
-- what single operations give
theorem ex_move {x : Operand} {v : Value} (hx : a.eval x = v) (V : World) : (execOp a.eval (⟨d, .move x, ty, ps, af, gd⟩ : Oper)).run P V = .ok (.value v) V := by rw [← hx]; rfl
theorem ex_assign {x : Operand} {v : Value} (hx : a.eval x = v) (V : World) : (execOp a.eval (⟨d, .assign x, ty, ps, af, gd⟩ : Oper)).run P V = .ok (.value v) V := by rw [← hx]; rfl
theorem ex_pickT {c x y : Operand} {v : Value} (hc : a.eval c = .bool true) (hx : a.eval x = v) (V : World) : (execOp a.eval (⟨d, .pick c x y, ty, ps, af, gd⟩ : Oper)).run P V = .ok (.value v) V := by
  subst hx
  simp [execOp, hc, asBool]
theorem ex_pickF {c x y : Operand} {v : Value} (hc : a.eval c = .bool false) (hx : a.eval y = v) (V : World) : (execOp a.eval (⟨d, .pick c x y, ty, ps, af, gd⟩ : Oper)).run P V = .ok (.value v) V := by
  subst hx
  simp [execOp, hc, asBool]
theorem ex_field {t : TypeId} {x : Operand} {i off p o : Nat} (hx : a.eval x = .pointer (some ⟨p, o, none⟩)) (h : fldB P t i off = true) (V : World) : (execOp a.eval (⟨d, .fieldAddr t x i, ty, ps, af, gd⟩ : Oper)).run P V = .ok (.value (.pointer (some ⟨p, o + off, none⟩))) V := by
  unfold fldB at h
  cases hu : P.underlying t with
  | none => rw [hu] at h; cases h
  | some e =>
    rw [hu] at h
    cases e with
    | struct fs =>
      dsimp only at h
      cases hf : fs[i]? with
      | none => rw [hf] at h; cases h
      | some f =>
        rw [hf] at h
        dsimp only at h
        cases hj : P.info? f.type with
        | none => rw [hj] at h; simp at h
        | some j =>
          rw [hj] at h
          simp at h
          obtain ⟨h1, h2⟩ := h
          simp [execOp, hx, Instr.fieldAt, Sem.run_bind, run_underlying hu, hf, Instr.sureAddr, fieldPlace, sizeOf, typeInfo, hj, h2, h1, add_E]
    | _ => cases h
theorem ex_load {tx : TypeId} {x : Operand} {p o : Nat} {v : Value} (hx : a.eval x = .pointer (some ⟨p, o, none⟩)) (ht : Sca P tx) (V : World) (hv : V.cell? ⟨p, o, none⟩ = some v) : (execOp a.eval (⟨d, .load tx x, ty, ps, af, gd⟩ : Oper)).run P V = .ok (.value v) V := by
  simp only [execOp, hx, Instr.loadAt, Instr.sureAddr, Sem.run_bind, Sem.run_pure, Result.andThen_ok, run_loadS V ht hv]
theorem ex_bin {x z : Operand} {t t' : TypeId} {op : BinOp} {u v r : Value} (hx : a.eval x = u) (hz : a.eval z = v) (V : World) (h : (do eqGuard op t x z u v; binOp op t u v : Sem Value).run P V = .ok r V) : (execOp a.eval (⟨d, .binOp op t x z t', ty, ps, af, gd⟩ : Oper)).run P V = .ok (.value r) V := by
  show (do pure (.value (← (do eqGuard op t x z _ _; binOp op t _ _ : Sem Value))) : Sem Next).run P V = _
  rw [hx, hz, Sem.run_bind, h]
  rfl
theorem ex_index {x z : Operand} {t e : TypeId} {p o n c i k : Nat} (ht : P.underlying t = some (.slice e)) (hk : (P.info? e).map (·.size) = some k) (hx : a.eval x = .slice (some ⟨p, o, none⟩) n c) (hz : a.eval z = .int .i64 i) (hi : i < n) (V : World) :
    (execOp a.eval (⟨d, .indexAddr t x z, ty, ps, af, gd⟩ : Oper)).run P V = .ok (.value (.pointer (some ⟨p, o + i * k, none⟩))) V := by
  cases hq : P.info? e with
  | none => simp [hq] at hk
  | some j =>
    have hz' : j.size = k := by simpa [hq] using hk
    simp [execOp, Instr.indexAt, asIntOf, Sem.run_bind, run_underlying ht, hx, hz, sizeOf, typeInfo, hq, hz', add_E, hi]
theorem run_eqi {ti : TypeId} {x y : Operand} {m n : Int} (w : World) : (do eqGuard .eql ti x y (.int .i64 m) (.int .i64 n); binOp .eql ti (.int .i64 m) (.int .i64 n) : Sem Value).run P w = .ok (.bool (m == n)) w := by
  simp [eqGuard, binOp, Op.intCmp]
theorem run_gtr {ti : TypeId} {x y : Operand} {m n : Int} (w : World) : (do eqGuard .gtr ti x y (.int .i64 m) (.int .i64 n); binOp .gtr ti (.int .i64 m) (.int .i64 n) : Sem Value).run P w = .ok (.bool (decide (m > n))) w := by
  simp [eqGuard, binOp, Op.intCmp]
end

end Go.Proofs.YtjiplphfpkhmpaaGreat
