/-
  slices.Delete of one at a row of one's own.
-/
import Derived.Test.YtddnofonodgneaaGreatDoorV6Own
namespace Go.Proofs.YtddnofonodgneaaGreatDoor
open Go.RowKit

theorem gflat_take {α : Type} (K : Kd α) : ∀ (ps : List α) (i : Nat), gflat K (ps.take i) = (gflat K ps).take (i * K.k)
  | [], i => by simp [gflat]
  | p :: t, 0 => by simp [gflat]
  | p :: t, i + 1 => by
      show K.cs p ++ gflat K (t.take i) = (K.cs p ++ gflat K t).take ((i + 1) * K.k)
      have e1 : (K.cs p).take ((i + 1) * K.k) = K.cs p := List.take_of_length_le (by rw [K.len, Nat.add_mul]; omega)
      have e2 : (i + 1) * K.k - (K.cs p).length = i * K.k := by rw [K.len, Nat.add_mul]; omega
      rw [gflat_take K t i, List.take_append, e1, e2]
theorem OwnG.cut {α : Type} {K : Kd α} {t : TypeId} {w : World} {B g n cap : Nat} {ps : List α} (h : OwnG K t w B (.slice (some ⟨g, 0, none⟩) n cap) ps) (i : Nat) (hi : i ≤ n) : OwnG K t w B (.slice (some ⟨g, 0, none⟩) i cap) (ps.take i) := by
  have hn := h.caps.1
  have hlt : (ps.take i).length = i := by rw [List.length_take]; omega
  rcases h.2 with ⟨hv, _⟩ | ⟨g', c', cur, hv, hb, hg, h1, h2, h3, h4⟩
  · simp at hv
  · simp at hv
    obtain ⟨e1, _, e2⟩ := hv
    subst e1 e2
    refine ⟨gflat_len K _, Or.inr ⟨g, cap, cur, by rw [hlt], hb, hg, by omega, h2, h3, ?_⟩⟩
    rw [hlt, gflat_take, ← h4, List.take_take]
    congr 1
    exact (Nat.min_eq_left (Nat.mul_le_mul_right _ (by omega))).symm
theorem OwnG.rowFrom {α : Type} {K : Kd α} {t : TypeId} {w : World} {B g n cap : Nat} {ps : List α} (h : OwnG K t w B (.slice (some ⟨g, 0, none⟩) n cap) ps) (j : Nat) : RowG K w (some ⟨g, j * K.k, none⟩) (ps.drop j) := fun i hi => by
  rw [List.length_drop] at hi
  obtain ⟨p, o, q, ha, hp, hq, c⟩ := h.row (j + i) (by omega)
  simp only [Option.some.injEq, Addr.mk.injEq, and_true] at ha
  obtain ⟨rfl, rfl⟩ := ha
  refine ⟨_, _, q, rfl, hp, by rw [List.getElem?_drop]; exact hq, fun x v hv => ?_⟩
  have := c x v hv
  rw [Nat.zero_add, Nat.add_mul] at this
  exact this

/-- An append to a row of one's own that has room for it. -/
theorem app_roomG {α : Type} {K : Kd α} {z : Value} {bytes : Nat} {P : Program} {t e : TypeId} (h4 : GTy K z bytes P t e) (w : World) (B : Nat) (tx ty : TypeId) (g n cap m : Nat) (ps qs : List α) (x : Value) (hn : n = ps.length) (hm : m = qs.length)
    (hown : OwnG K e w B (.slice (some ⟨g, 0, none⟩) n cap) ps) (hs : Src P K.k tx x m (gflat K qs) w) (hroom : n + m ≤ cap) :
    ∃ w', (Builtin.append_ #[t, tx] ty #[.slice (some ⟨g, 0, none⟩) n cap, x]).run P w = .ok (.slice (some ⟨g, 0, none⟩) (n + m) cap) w' ∧ OwnG K e w' B (.slice (some ⟨g, 0, none⟩) (n + m) cap) (ps ++ qs) ∧ w.grownBy w' (some g) ∧ w'.heap.size = w.heap.size := by
  obtain ⟨ht, h4, h5, h6⟩ := h4
  obtain ⟨i, hi, hz0, hz1, hz2⟩ := info_parts h4
  subst hn
  subst hm
  have hxl := hown.1
  have hnl := hs.newsLen
  rcases hown.2 with ⟨hv, hn0⟩ | ⟨g', cap', cur, hv, hbg, hg, hnc, hcm, hcs, htake⟩
  · simp at hv
  · simp at hv
    obtain ⟨rfl, rfl⟩ := hv
    have hmul : (ps.length + qs.length) * K.k ≤ cap * K.k := Nat.mul_le_mul_right _ hroom
    have hst := run_storeCells_at P g (ps.length * K.k) e (gflat K qs) 0 cur w hg (by rw [hcs, hnl, Nat.add_zero, ← Nat.add_mul]; exact hmul) hs.one
    simp only [Nat.add_zero] at hst
    have hr : (Builtin.append_ #[t, tx] ty #[.slice (some ⟨g, 0, none⟩) ps.length cap, x]).run P w = .ok (.slice (some ⟨g, 0, none⟩) (ps.length + qs.length) cap) (w.setRow g (cur.toList.take (ps.length * K.k) ++ gflat K qs ++ cur.toList.drop (ps.length * K.k + (gflat K qs).length)).toArray) := by
      rcases hs.kind with ⟨e', hk⟩ | hk <;> simp [Builtin.append_, run_underlying ht, run_underlying hk, sizeOf, typeInfo, hi, hz1, hs.len, hroom, hs.cells, Addr.add_lit, hst]
    refine ⟨_, hr, ⟨by rw [gflat_len], .inr ⟨g, cap, _, by rw [List.length_append], hbg, setRow_heap w g cur _ e _ hg, by rw [List.length_append]; exact hroom, hcm, ?_, ?_⟩⟩, ⟨rfl, rfl, rfl, by simp, fun k _ hk => setRow_other w g k _ (fun e => hk (by rw [e]))⟩, by simp⟩
    · simp only [List.size_toArray, List.length_append, List.length_take, List.length_drop, Array.length_toList, hcs, hnl]
      rw [Nat.add_mul] at hmul
      omega
    · rw [htake, gflat_app, List.length_append, show (ps.length + qs.length) * K.k = (gflat K ps ++ gflat K qs).length by rw [List.length_append, hxl, hnl, Nat.add_mul]]
      exact List.take_left
theorem step_roomG {α : Type} {K : Kd α} {z : Value} {bytes : Nat} {P : Program} {t e : TypeId} (h4 : GTy K z bytes P t e) {ops : Array Oper} {o : Oper} {a : Act} {Kx : Act → World → Prop} {Q : Exit → Act → World → Prop} {E : Prop} (w : World) (hgd : o.guard = none) (s x : Operand) (tx : TypeId)
    (ho : o.op = .call { callee := .builtin .append, args := #[s, x], argTypes := #[t, tx] })
    (B : Nat) (g n cap m : Nat) (ps qs : List α) (xv : Value) (hsv : a.eval s = .slice (some ⟨g, 0, none⟩) n cap) (hn : n = ps.length) (hm : m = qs.length) (hown : OwnG K e w B (.slice (some ⟨g, 0, none⟩) n cap) ps)
    (hx : a.eval x = xv) (hs : Src P K.k tx xv m (gflat K qs) w) (hroom : n + m ≤ cap)
    (h : ∀ w', OwnG K e w' B (.slice (some ⟨g, 0, none⟩) (n + m) cap) (ps ++ qs) → w.grownBy w' (some g) → w'.heap.size = w.heap.size → Kx (a.put o.dst (.slice (some ⟨g, 0, none⟩) (n + m) cap)) w') :
    if Region.wanted o (yielded ops a.tmps) = true then Oper.wp P o a w Kx Q else E := by
  have hw : Region.wanted o (yielded ops a.tmps) = true := by simp [Region.wanted, hgd]
  rw [if_pos hw]
  obtain ⟨w', hr, h2, h3, h5⟩ := app_roomG h4 w B tx o.type g n cap m ps qs xv hn hm hown hs hroom
  unfold Oper.wp execOp
  simp only [ho, resolve, invoke, builtin, Sem.run_bind, Sem.run_pure, Result.andThen_ok, List.map_toArray, List.map_cons, List.map_nil, hsv, hx, hr]
  exact h w' h2 h3 h5

theorem setCells_puts (b : Nat) : ∀ (vs : List Value) (w : World) (o : Nat), w.setCells b o vs = puts w b o vs
  | [], _, _ => rfl
  | v :: vs, w, o => setCells_puts b vs (w.setCell ⟨b, o, none⟩ v) (o + 1)
theorem sets_past : ∀ (vs l : List Value) (o : Nat), l.length ≤ o → sets l o vs = l
  | [], _, _, _ => rfl
  | v :: vs, l, o, h => by
      show sets (l.set o v) (o + 1) vs = l
      rw [List.set_eq_of_length_le h]
      exact sets_past vs l (o + 1) (by omega)
/-- One is cleared behind a row's end. -/
theorem run_clear1 {P : Program} (w : World) (t e ty : TypeId) (z : Value) (ht : P.underlying t = some (.slice e)) (hv : ∀ w, (zeroValue e).run P w = .ok z w) (h1 : ∀ v ∈ z.cells.toList, v.oneCell' = true) (b o c : Nat)
    (hc : ∀ j, j < z.cells.toList.length → (w.cell? ⟨b, o + j, none⟩).isSome = true) (hf : ∀ j, j < z.cells.toList.length → w.frozen? ⟨b, o + j, none⟩ = false) :
    (Builtin.clear_ #[t] ty #[.slice (some ⟨b, o, none⟩) 1 c]).run P w = .ok (.tuple #[]) (puts w b o z.cells.toList) := by
  have hzc : (Builtin.zeroCells z.cells 1).toList = z.cells.toList := by
    simp [Builtin.zeroCells]
    apply List.ext_getElem
    · simp
    · intro i h1 h2
      simp at h1 h2
      simp [Nat.mod_eq_of_lt h2, getElem!_pos, h2]
  have hst := run_storeCells_cells (P := P) b o z.cells.toList 0 w (by simpa using hc) (by simpa using hf) h1
  simp only [Nat.add_zero] at hst
  rw [setCells_puts] at hst
  simp [Builtin.clear_, run_underlying ht, hv, hzc, hst]

theorem wpList_clear1 {P : Program} {ops : Array Oper} {rest : List Oper} {o : Oper} {a : Act} {Q : Exit → Act → World → Prop} (w : World) (hgd : o.guard = none) (s : Operand) (t e : TypeId) (ho : o.op = .call { callee := .builtin .clear, args := #[s], argTypes := #[t] })
    (z : Value) (ht : P.underlying t = some (.slice e)) (hv : ∀ w, (zeroValue e).run P w = .ok z w) (h1 : ∀ v ∈ z.cells.toList, v.oneCell' = true) (b off c : Nat) (hsv : a.eval s = .slice (some ⟨b, off, none⟩) 1 c)
    (hc : ∀ j, j < z.cells.toList.length → (w.cell? ⟨b, off + j, none⟩).isSome = true) (hf : ∀ j, j < z.cells.toList.length → w.frozen? ⟨b, off + j, none⟩ = false)
    (h : wpList P ops Q rest (a.put o.dst (.tuple #[])) (puts w b off z.cells.toList)) : wpList P ops Q (o :: rest) a w :=
  wpList_plain hgd fun _ hK => by
    unfold Oper.wp execOp
    have hr := run_clear1 (P := P) w t e o.type z ht hv h1 b off c hc hf
    simp only [ho, resolve, invoke, builtin, Sem.run_bind, Sem.run_pure, Result.andThen_ok, List.map_toArray, List.map_cons, List.map_nil, hsv, hr]
    exact hK _ _ h
theorem OwnG.cellIn {α : Type} {K : Kd α} {t : TypeId} {w : World} {B g n cap : Nat} {ps : List α} (h : OwnG K t w B (.slice (some ⟨g, 0, none⟩) n cap) ps) (j : Nat) (hj : j < cap * K.k) : (w.cell? ⟨g, j, none⟩).isSome = true := by
  rcases h.2 with ⟨hv, _⟩ | ⟨g', c', cur, hv, hb, hg, h1, h2, h3, h4⟩
  · simp at hv
  · simp at hv
    obtain ⟨e1, _, e2⟩ := hv
    subst e1 e2
    simp [World.cell?, hg, h3, hj]
theorem grown_of' {w w' : World} (h : Below w.heap.size w w') (r : Option Nat) : w.grownBy w' r := ⟨h.os, h.tape, h.output, h.size, fun k hk _ => h.block k hk⟩

end Go.Proofs.YtddnofonodgneaaGreatDoor
