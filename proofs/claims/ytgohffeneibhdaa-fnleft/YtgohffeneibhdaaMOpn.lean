/-
  A struct whose first field is a struct of three words and whose second is one word, by value: opened and shut. General: it names no program.
-/
import Derived.ProofKit
import Derived.Lib.SmallJoins
import Derived.Test.YtgohffeneibhdaaPRow
import Derived.Carry
import Derived.Deep.Slices
import Derived.ChangeMaps5
namespace Go.Proofs.Ytgohffeneibhdaa
open Go.ChangeShapes Go.WideShapes Go.ChangeAt Go.RowKit Go.Joins Go.Deep

variable {H : Type} {enc : TypeId × Value → H} {P : Program} {w : World} {base : Nat} {spare : Nat → Bool} {held : Bool}

theorem open_pfx {r : Reach} {b0 : Nat} {t : TypeId} {f0 f1 g0 g1 g2 : Field} {v : Value} {d : DataW H} {p : List MemPlace} (hs : P.underlying t = some (.struct #[f0, f1])) (hg : P.underlying f0.type = some (.struct #[g0, g1, g2]))
    (hone : oneCellFields P #[g0, g1, g2] = true) (o0 : f0.offset = 0) (k0 : P.cellsOf f0.type = 3) (o1 : f1.offset = 3) (k1 : P.cellsOf f1.type = 1) (hC : P.cellsOf t = 4)
    (hv : Value.okWide P w r b0 t v) (h : DataW.Trod enc P w base spare held t v d p) :
    ∃ (v0 v1 v2 v3 : Value) (y0 y1 y2 y3 : DataW H × List MemPlace) (n : Nat), v = .agg #[v0, v1, v2, v3] ∧ d = .agg [.agg [y0.1, y1.1, y2.1], y3.1] ∧ p = (y0.2 ++ (y1.2 ++ y2.2)) ++ y3.2 ∧
      DataW.trod enc P w base spare held n g0.type [v0] = some y0 ∧ DataW.trod enc P w base spare held n g1.type [v1] = some y1 ∧ DataW.trod enc P w base spare held n g2.type [v2] = some y2 ∧ DataW.trod enc P w base spare held n f1.type [v3] = some y3 := by
  obtain ⟨cs, rfl, hsz⟩ := okWide_struct hs hv
  obtain ⟨c0, c1, c2, c3, rfl⟩ := array4 (hsz.trans hC)
  obtain ⟨fuel, hf⟩ := h
  obtain ⟨z0, z1, n, hx, _, h0, h1⟩ := trod_struct2 hs hf
  rw [o0, k0] at h0
  rw [o1, k1] at h1
  simp [Value.cells] at h0 h1
  obtain ⟨y0, y1, y2, m, hy, _, j0, j1, j2⟩ := trod_struct3 hg h0
  obtain ⟨p0, q0⟩ := hone_of hone 0 g0 rfl
  obtain ⟨p1, q1⟩ := hone_of hone 1 g1 rfl
  obtain ⟨p2, q2⟩ := hone_of hone 2 g2 rfl
  simp only [Prod.mk.injEq] at hx
  subst hy
  refine ⟨c0, c1, c2, c3, y0, y1, y2, z1, n + m, rfl, hx.1, hx.2, DataW.trod_le (show m ≤ n + m by omega) (by simpa [p0, q0] using j0), DataW.trod_le (show m ≤ n + m by omega) (by simpa [p1, q1] using j1), DataW.trod_le (show m ≤ n + m by omega) (by simpa [p2, q2] using j2), DataW.trod_le (by omega) h1⟩

theorem shut_pfx {t : TypeId} {f0 f1 g0 g1 g2 : Field} {v0 v1 v2 v3 : Value} {y0 y1 y2 y3 : DataW H × List MemPlace} (hs : P.underlying t = some (.struct #[f0, f1])) (hg : P.underlying f0.type = some (.struct #[g0, g1, g2]))
    (hone : oneCellFields P #[g0, g1, g2] = true) (o0 : f0.offset = 0) (k0 : P.cellsOf f0.type = 3) (o1 : f1.offset = 3) (k1 : P.cellsOf f1.type = 1) (hC : P.cellsOf t = 4)
    (t0 : ∃ n, DataW.trod enc P w base spare held n g0.type [v0] = some y0) (t1 : ∃ n, DataW.trod enc P w base spare held n g1.type [v1] = some y1) (t2 : ∃ n, DataW.trod enc P w base spare held n g2.type [v2] = some y2) (t3 : ∃ n, DataW.trod enc P w base spare held n f1.type [v3] = some y3) :
    DataW.Trod enc P w base spare held t (.agg #[v0, v1, v2, v3]) (.agg [.agg [y0.1, y1.1, y2.1], y3.1]) ((y0.2 ++ (y1.2 ++ y2.2)) ++ y3.2) := by
  obtain ⟨n, ha⟩ := shut_agg3 (w := w) (base := base) (spare := spare) (held := held) hg hone k0 t0 t1 t2
  obtain ⟨n3, t3⟩ := t3
  have ts := trod_struct2_mk (enc := enc) (w := w) (base := base) (spare := spare) (held := held) (n := n + n3) (cs := [v0, v1, v2, v3]) (y0 := (.agg [y0.1, y1.1, y2.1], y0.2 ++ (y1.2 ++ y2.2))) (y1 := y3) hs (by simp [hC])
    (by rw [o0, k0]; simpa [Value.cells] using DataW.trod_le (show n ≤ n + n3 by omega) ha) (by rw [o1, k1]; simpa using DataW.trod_le (show n3 ≤ n + n3 by omega) t3)
  exact ⟨_, by simpa [Value.cells] using ts⟩

end Go.Proofs.Ytgohffeneibhdaa

namespace Go.Proofs.Ytgohffeneibhdaa
open Go.ChangeShapes Go.WideShapes Go.ChangeAt Go.RowKit Go.Joins Go.Deep

theorem Try.ownP : ownKnob Try.prog.godebug = none := by kernel_rfl
theorem Try.laidOutP : laidOutB Try.prog = true := by kernel_rfl
theorem Try.cellsPP : Try.prog.cellsOf 80 = 4 := by kernel_rfl
theorem Try.cellsPA : Try.prog.cellsOf 78 = 3 := by kernel_rfl

theorem wfP {x : Int} (h : (Lit.int .i64 x).wf = true) : (BitVec.ofInt 64 x).toInt = x := by
  have : -9223372036854775808 ≤ x ∧ x ≤ 9223372036854775807 := by simpa [Lit.wf, IntKind.min, IntKind.max, IntKind.signed, IntKind.bits] using h
  rw [BitVec.toInt_ofInt, Int.bmod_def]
  split <;> omega

/-- One prefix out of its four cells. -/
theorem pf_of {H : Type} {enc : TypeId × Value → H} {W : World} {fuel : Nat} {cs : List Value} {x : DataW H × List MemPlace} (hl : cs.length = 4)
    (h : DataW.trod enc Try.prog W 0 (fun _ => true) true fuel 80 cs = some x) : ∃ q : Pf, cs = q.cs := by
  match cs, hl with
  | [c0, c1, c2, c3], _ =>
    obtain ⟨z0, z1, n, hx, _, h0, h1⟩ := trod_struct2 Try.underlying80 h
    obtain ⟨y0, y1, y2, m, hy, _, j0, j1, j2⟩ := trod_struct3 Try.underlying78 h0
    have k0 : Try.prog.cellsOf 78 = 3 := by kernel_rfl
    have ki : Try.prog.cellsOf 3 = 1 := by kernel_rfl
    have kb : Try.prog.cellsOf 4 = 1 := by kernel_rfl
    simp [k0, ki, kb] at h1 j0 j1 j2
    obtain ⟨s, e0, _⟩ := DataW.trod_bool Try.underlying4 j0
    obtain ⟨a, e1, _, wa⟩ := DataW.trod_int Try.underlying3 j1
    obtain ⟨b, e2, _, wb⟩ := DataW.trod_int Try.underlying3 j2
    obtain ⟨c, e3, _, wc⟩ := DataW.trod_int Try.underlying3 h1
    simp at e0 e1 e2 e3
    subst e0 e1 e2 e3
    refine ⟨⟨s, BitVec.ofInt 64 a, BitVec.ofInt 64 b, c⟩, ?_⟩
    unfold Pf.cs
    rw [wfP wa, wfP wb]

theorem rows_of {W : World} (a : Option Addr) : ∀ n : Nat, (∀ j, j < n → ∃ p o q, a = some ⟨p, o, none⟩ ∧ p < W.heap.size ∧ W.cell? ⟨p, o + j * 4, none⟩ = some (.bool (Pf.s q)) ∧ W.cell? ⟨p, o + j * 4 + 1, none⟩ = some (.int .i64 q.H.toInt) ∧ W.cell? ⟨p, o + j * 4 + 2, none⟩ = some (.int .i64 q.L.toInt) ∧ W.cell? ⟨p, o + j * 4 + 3, none⟩ = some (.int .i64 q.b)) → ∃ ps : List Pf, ps.length = n ∧ Row W a ps
  | 0, _ => ⟨[], rfl, Row.nil _ _⟩
  | n + 1, h => by
      obtain ⟨ps, hl, hb⟩ := rows_of a n (fun j hj => h j (by omega))
      obtain ⟨p, o, q, ha, hp, c0, c1, c2, c3⟩ := h n (by omega)
      refine ⟨ps ++ [q], by simp [hl], fun j hj => ?_⟩
      by_cases hjn : j < n
      · obtain ⟨p', o', z, ha', hp', hz, hc'⟩ := hb j (by omega)
        exact ⟨p', o', z, ha', hp', by rw [List.getElem?_append_left (by omega)]; exact hz, hc'⟩
      · have : j = n := by simp at hj; omega
        subst this
        exact ⟨p, o, q, ha, hp, by rw [List.getElem?_append_right (by omega), hl]; simp, c0, c1, c2, c3⟩

set_option maxRecDepth 100000 in
/-- The prefixes out of the reading of a row of them. -/
theorem row_open {H : Type} {enc : TypeId × Value → H} {W : World} {a : Option Addr} {len cap : Nat} {d : DataW H} {p : List MemPlace}
    (h : DataW.Trod enc Try.prog W 0 (fun _ => true) true 37 (.slice a len cap) d p) : ∃ ps : List Pf, ps.length = len ∧ len ≤ 9223372036854775807 ∧ Row W a ps := by
  obtain ⟨fuel, hf⟩ := h
  rcases open_slice Try.underlying37 hf with ⟨hcs, _⟩ | ⟨a', len', cap', m, n, D, Pl, hcs, _, hl, hmx, hm, _, hV⟩
  · simp [Value.cells] at hcs
    obtain ⟨rfl, rfl, rfl⟩ := hcs
    exact ⟨[], rfl, by omega, Row.nil _ _⟩
  · simp [Value.cells] at hcs
    obtain ⟨rfl, rfl, rfl⟩ := hcs
    suffices h9 : ∃ ps : List Pf, ps.length = len ∧ Row W (some a') ps by
      obtain ⟨ps, h1, h2⟩ := h9
      exact ⟨ps, h1, by unfold maxLen at hmx; omega, h2⟩
    refine rows_of _ _ fun j hj => ?_
    simp at hm
    obtain ⟨cs', h1, h2⟩ := hV j (by omega)
    rw [Try.cellsPP] at h1
    obtain ⟨_, hlen, hcell⟩ := World.cells?_some h1
    obtain ⟨q, rfl⟩ := pf_of hlen h2
    obtain ⟨p', o', sp⟩ := a'
    cases sp with
    | some r =>
      exfalso
      obtain ⟨cs0, g1, g2⟩ := hV 0 (by omega)
      rw [Try.cellsPP] at g1
      obtain ⟨_, glen, gcell⟩ := World.cells?_some g1
      obtain ⟨q0, rfl⟩ := pf_of glen g2
      have h0 := gcell 0 (by omega)
      rw [Nat.zero_mul, show Addr.add (Addr.add ⟨p', o', some r⟩ 0) 0 = ⟨p', o', some r⟩ from rfl] at h0
      unfold World.cell? at h0
      split at h0
      · simp [Pf.cs] at h0
      · cases h0
    | none =>
      have e0 := hcell 0 (by omega)
      have e1 := hcell 1 (by omega)
      have e2 := hcell 2 (by omega)
      have e3 := hcell 3 (by omega)
      have ea : ∀ i k : Nat, Addr.add (Addr.add ⟨p', o', none⟩ i) k = ⟨p', o' + i + k, none⟩ := fun i k => by
        have ea1 : ∀ (o k : Nat), Addr.add ⟨p', o, none⟩ k = ⟨p', o + k, none⟩ := fun o k => by unfold Addr.add; split <;> simp_all
        rw [ea1, ea1]
      rw [ea] at e0 e1 e2 e3
      rw [Nat.add_zero] at e0
      have hc0 : W.cell? ⟨p', o' + j * 4, none⟩ = some (.bool q.s) := e0
      exact ⟨p', o', q, rfl, World.block_lt_of_cell? W _ hc0, hc0, e1, e2, e3⟩

end Go.Proofs.Ytgohffeneibhdaa
