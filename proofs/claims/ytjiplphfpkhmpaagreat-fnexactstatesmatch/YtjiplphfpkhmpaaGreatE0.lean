/-
  Things of any kind in memory: what their cells hold, and the laws of the operations that read, write and make them as a whole.
-/
import Derived.Laws.Rows
import Derived.Laws.CopyRow
import Derived.Deep.AppendSrc
import Derived.OwnWalk
import Derived.RowKit
import Derived.Below
namespace Go.Proofs.YtjiplphfpkhmpaaGreat
open Go.RowKit

def HidE (p : Prop) : Prop := p
theorem hidE {p : Prop} (h : p) : HidE p := h
theorem HidE.out {p : Prop} (h : HidE p) : p := h

/-- Cells behind one another. -/
def Seg (W : World) (p off : Nat) (us : List Value) : Prop := ∀ i u, us[i]? = some u → W.cell? ⟨p, off + i, none⟩ = some u
/-- Each is one cell. -/
def One (us : List Value) : Prop := ∀ u ∈ us, u.oneCell' = true
/-- A block of one's own, whole. -/
def Box (W : World) (p : Nat) (us : List Value) : Prop := ∃ t, W.heap[p]? = some (.cells us.toArray t (0, 0))
/-- From B on nothing has changed. -/
structure Fr (B : Nat) (W V : World) : Prop where
  size : W.heap.size ≤ V.heap.size
  block : ∀ q, B ≤ q → q < W.heap.size → V.heap[q]? = W.heap[q]?
theorem Fr.of {B : Nat} {W V : World} (h : Below W.heap.size W V) : Fr B W V := ⟨h.size, fun q _ hq => h.block q hq⟩
theorem Fr.row {B p : Nat} {W V : World} (h : W.grownBy V (some p)) (hp : p < B) : Fr B W V := ⟨h.size, fun q hb hq => h.block q hq (fun e => by have := Option.some.inj e; omega)⟩
theorem Fr.trans {B : Nat} {W V U : World} (h : Fr B W V) (g : Fr B V U) : Fr B W U := ⟨Nat.le_trans h.size g.size, fun q hb hq => (g.block q hb (Nat.lt_of_lt_of_le hq h.size)).trans (h.block q hb hq)⟩

theorem cell_block {W V : World} {p o : Nat} (h : V.heap[p]? = W.heap[p]?) : V.cell? ⟨p, o, none⟩ = W.cell? ⟨p, o, none⟩ := by
  unfold World.cell?
  rw [h]
theorem Seg.frm {B : Nat} {W V : World} {p off : Nat} {us : List Value} (h : Seg W p off us) (f : Fr B W V) (hb : B ≤ p) (hp : p < W.heap.size) : Seg V p off us :=
  fun i u hu => (cell_block (f.block p hb hp)).trans (h i u hu)
theorem Box.lt {W : World} {p : Nat} {us : List Value} (h : Box W p us) : p < W.heap.size := by
  obtain ⟨t, h⟩ := h
  exact (Array.getElem?_eq_some_iff.1 h).1
theorem Box.frm {B : Nat} {W V : World} {p : Nat} {us : List Value} (h : Box W p us) (f : Fr B W V) (hb : B ≤ p) : Box V p us := by
  have hl := h.lt
  obtain ⟨t, h⟩ := h
  exact ⟨t, (f.block p hb hl).trans h⟩
theorem Box.later {W V : World} {p : Nat} {us : List Value} (h : Box W p us) (f : Below W.heap.size W V) : Box V p us := h.frm (Fr.of (B := 0) f) (Nat.zero_le _)
theorem Box.other {W V : World} {p q : Nat} {us : List Value} (h : Box W p us) (f : W.grownBy V (some q)) (hn : p ≠ q) : Box V p us := by
  have hl := h.lt
  obtain ⟨t, h⟩ := h
  exact ⟨t, (f.block p hl (fun e => hn (Option.some.inj e).symm.symm)).trans h⟩
theorem Box.seg {W : World} {p off : Nat} {us vs ts : List Value} (h : Box W p (us ++ (vs ++ ts))) (ho : us.length = off) : Seg W p off vs := by
  obtain ⟨t, h⟩ := h
  subst ho
  intro i u hu
  have hi : i < vs.length := (List.getElem?_eq_some_iff.1 hu).1
  unfold World.cell?
  rw [h]
  simp only [Option.isSome_none, Bool.false_eq_true, if_false, List.getElem?_toArray]
  rw [List.getElem?_append_right (by omega), Nat.add_sub_cancel_left, List.getElem?_append_left hi]
  exact hu
theorem Seg.one {W : World} {p off : Nat} {v : Value} (h : Seg W p off [v]) : W.cell? ⟨p, off, none⟩ = some v := h 0 v rfl

section
variable {P : Program}

theorem add_E (p o j : Nat) : (⟨p, o, none⟩ : Addr).add j = ⟨p, o + j, none⟩ := by unfold Addr.add; split <;> simp_all
/-- A struct or an array. -/
def Agg (P : Program) (ty : TypeId) (n : Nat) : Prop := (match P.underlying ty with | some (.struct _) => true | some (.array _ _) => true | _ => false) = true ∧ (P.info? ty).map (·.size) = some n
/-- Of one cell. -/
def Sca (P : Program) (ty : TypeId) : Prop := (match P.underlying ty with | some (.struct _) => false | some (.array _ _) => false | some _ => true | none => false) = true ∧ (P.info? ty).map (·.size) = some 1
theorem run_aggE {ty : TypeId} {n : Nat} (h : Agg P ty n) (w : World) : (isAgg ty).run P w = .ok true w := by
  obtain ⟨h, _⟩ := h
  cases hu : P.underlying ty with
  | none => rw [hu] at h; cases h
  | some d =>
    rw [hu] at h
    unfold isAgg
    rw [Sem.run_bind, run_underlying hu w]
    cases d <;> simp_all
theorem run_scaE {ty : TypeId} (h : Sca P ty) (w : World) : (isAgg ty).run P w = .ok false w := by
  obtain ⟨h, _⟩ := h
  cases hu : P.underlying ty with
  | none => rw [hu] at h; cases h
  | some d =>
    rw [hu] at h
    unfold isAgg
    rw [Sem.run_bind, run_underlying hu w]
    cases d <;> simp_all
theorem run_loadE {ty : TypeId} {p off : Nat} {us : List Value} (w : World) (h : Agg P ty us.length) (hs : Seg w p off us) : (loadVar ty ⟨p, off, none⟩).run P w = .ok (.agg us.toArray) w := by
  have hl : (loadCells ⟨p, off, none⟩ us.length).run P w = .ok us.toArray w := run_loadCells_list (P := P) w ⟨p, off, none⟩ us (fun j v hv => by rw [add_E]; exact hs j v hv)
  have ha := run_aggE h w
  cases hq : P.info? ty with
  | none => have := h.2; simp [hq] at this
  | some i =>
    have hz : i.size = us.length := by have := h.2; simpa [hq] using this
    simp [loadVar, Sem.run_bind, ha, sizeOf, typeInfo, hq, hz, hl]
theorem run_loadS {ty : TypeId} {p off : Nat} {v : Value} (w : World) (h : Sca P ty) (hs : w.cell? ⟨p, off, none⟩ = some v) : (loadVar ty ⟨p, off, none⟩).run P w = .ok v w := by
  have ha := run_scaE h w
  simp [loadVar, Sem.run_bind, ha, load, Sem.run, hs]

variable {ops : Array Oper} {rest : List Oper} {o : Oper} {a : Act} {w : World} {Q : Exit → Act → World → Prop}

/-- A struct is read. -/
theorem wpl_load (hgd : o.guard = none) (ty : TypeId) (x : Operand) (ho : o.op = .load ty x) {p off : Nat} (hx : a.eval x = .pointer (some ⟨p, off, none⟩)) (us : List Value) {n : Nat} (ht : Agg P ty n) (hn : us.length = n) (hs : Seg w p off us)
    (h : wpList P ops Q rest (a.put o.dst (.agg us.toArray)) w) : wpList P ops Q (o :: rest) a w := by
  subst hn
  refine wpList_plain hgd fun _ hK => ?_
  unfold Oper.wp execOp
  simp only [ho, hx, Instr.loadAt, Instr.sureAddr, Sem.run_bind, Sem.run_pure, Result.andThen_ok, run_loadE w ht hs]
  exact hK _ _ h
/-- One cell is read. -/
theorem wpl_loadS (hgd : o.guard = none) (ty : TypeId) (x : Operand) (ho : o.op = .load ty x) {p off : Nat} (hx : a.eval x = .pointer (some ⟨p, off, none⟩)) (v : Value) (ht : Sca P ty) (hs : w.cell? ⟨p, off, none⟩ = some v)
    (h : wpList P ops Q rest (a.put o.dst v) w) : wpList P ops Q (o :: rest) a w := by
  refine wpList_plain hgd fun _ hK => ?_
  unfold Oper.wp execOp
  simp only [ho, hx, Instr.loadAt, Instr.sureAddr, Sem.run_bind, Sem.run_pure, Result.andThen_ok, run_loadS w ht hs]
  exact hK _ _ h
/-- Cells are written into a block of one's own. -/
theorem wpl_store (hgd : o.guard = none) (ty : TypeId) (x y : Operand) (ho : o.op = .store ty x y) {p off : Nat} (hx : a.eval x = .pointer (some ⟨p, off, none⟩)) {v : Value} (hy : a.eval y = v) (vs az bs cs : List Value) {n : Nat} (hv : v.cells = vs.toArray) (h1 : One vs)
    (ht : (P.info? ty).map (·.size) = some n) (hn : vs.length = n) (hb : Box w p (az ++ (bs ++ cs))) (ha : az.length = off) (hl : bs.length = n)
    (h : ∀ V, Box V p (az ++ (vs ++ cs)) → w.grownBy V (some p) → V.heap.size = w.heap.size → wpList P ops Q rest (a.put o.dst undef) V) : wpList P ops Q (o :: rest) a w := by
  refine wpList_plain hgd fun _ hK => ?_
  obtain ⟨t, hg⟩ := hb
  have hst : (storeVar ty ⟨p, off, none⟩ v).run P w = .ok () (w.setRow p (az ++ (vs ++ cs)).toArray) := by
    have hst := run_storeCells_at (P := P) p off t vs 0 _ w hg (by simp; omega) h1
    have e : (az ++ (bs ++ cs)).toArray.toList.take (off + 0) ++ vs ++ (az ++ (bs ++ cs)).toArray.toList.drop (off + 0 + vs.length) = az ++ (vs ++ cs) := by
      subst ha
      rw [Nat.add_zero, List.take_left, hn, ← hl, ← List.append_assoc az bs cs, ← List.length_append, List.drop_left, List.append_assoc]
    rw [e] at hst
    cases hq : P.info? ty with
    | none => simp [hq] at ht
    | some i =>
      have hz : vs.length = i.size := by simp [hq] at ht; omega
      simp [storeVar, sizeOf, typeInfo, hq, hv, hz, hst]
  unfold Oper.wp execOp
  simp only [ho, hx, hy, Instr.storeAt, Instr.sureAddr, Sem.run_bind, Sem.run_pure, Result.andThen_ok, hst]
  refine hK _ _ (h _ ⟨t, setRow_heap w p _ _ t (0, 0) hg⟩ ?_ ?_)
  · refine ⟨rfl, rfl, rfl, by simp [World.setRow], fun k _ hk => ?_⟩
    show (w.heap.modify p _)[k]? = _
    rw [Array.getElem?_modify, if_neg (fun e => hk (congrArg some e.symm))]
  · simp [World.setRow]
theorem box_new (w : World) (us : List Value) (t : TypeId) : Box (w.alloc (.cells us.toArray t)) w.heap.size us := ⟨t, heap_alloc_new w _⟩
theorem below_new (w : World) (x : Obj) : Below w.heap.size w (w.alloc x) := (Below.refl _ w).alloc (Nat.le_refl _) x
end

end Go.Proofs.YtjiplphfpkhmpaaGreat
