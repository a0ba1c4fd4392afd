/-
  The prefixes of a row that came in, out of its reading.
-/
import Derived.Test.YtmbmekcppmbokaaGreatPRow
import Derived.Test.YtmbmekcppmbokaaGreatBOpen
import Derived.Carry
import Derived.Deep.Slices
import Derived.ChangeMaps5
namespace Go.Proofs.YtmbmekcppmbokaaGreat
open Go.ChangeShapes Go.WideShapes Go.ChangeAt Go.RowKit Go.Joins Go.Deep

theorem Tryz.ownP : ownKnob Tryz.prog.godebug = none := by kernel_rfl
theorem Tryz.laidOutP : laidOutB Tryz.prog = true := by kernel_rfl
theorem Tryz.cellsPP : Tryz.prog.cellsOf 29 = 4 := by kernel_rfl
theorem Tryz.cellsPA : Tryz.prog.cellsOf 27 = 3 := by kernel_rfl

theorem wfP {x : Int} (h : (Lit.int .i64 x).wf = true) : (BitVec.ofInt 64 x).toInt = x := by
  have : -9223372036854775808 ≤ x ∧ x ≤ 9223372036854775807 := by simpa [Lit.wf, IntKind.min, IntKind.max, IntKind.signed, IntKind.bits] using h
  rw [BitVec.toInt_ofInt, Int.bmod_def]
  split <;> omega

/-- One prefix out of its four cells. -/
theorem pf_of {H : Type} {enc : TypeId × Value → H} {W : World} {fuel : Nat} {cs : List Value} {x : DataW H × List MemPlace} (hl : cs.length = 4)
    (h : DataW.trod enc Tryz.prog W 0 (fun _ => true) true fuel 29 cs = some x) : ∃ q : Pf, cs = q.cs := by
  match cs, hl with
  | [c0, c1, c2, c3], _ =>
    obtain ⟨z0, z1, n, hx, _, h0, h1⟩ := trod_struct2 Tryz.underlying29 h
    obtain ⟨y0, y1, y2, m, hy, _, j0, j1, j2⟩ := trod_struct3 Tryz.underlying27 h0
    have k0 : Tryz.prog.cellsOf 27 = 3 := by kernel_rfl
    have ki : Tryz.prog.cellsOf 3 = 1 := by kernel_rfl
    have kb : Tryz.prog.cellsOf 4 = 1 := by kernel_rfl
    simp [k0, ki, kb] at h1 j0 j1 j2
    obtain ⟨s, e0, _⟩ := DataW.trod_bool Tryz.underlying4 j0
    obtain ⟨a, e1, _, wa⟩ := DataW.trod_int Tryz.underlying3 j1
    obtain ⟨b, e2, _, wb⟩ := DataW.trod_int Tryz.underlying3 j2
    obtain ⟨c, e3, _, wc⟩ := DataW.trod_int Tryz.underlying3 h1
    simp at e0 e1 e2 e3
    subst e0 e1 e2 e3
    refine ⟨⟨s, BitVec.ofInt 64 a, BitVec.ofInt 64 b, c⟩, ?_⟩
    unfold Pf.cs
    rw [wfP wa, wfP wb]

theorem rows_of {W : World} (a : Option Addr) : ∀ n : Nat, (∀ j, j < n → ∃ p o q, a = some ⟨p, o, none⟩ ∧ p < W.heap.size ∧ W.cell? ⟨p, o + j * 4, none⟩ = some (.bool (Pf.s q)) ∧ W.cell? ⟨p, o + j * 4 + 1, none⟩ = some (.int .i64 q.H.toInt) ∧ W.cell? ⟨p, o + j * 4 + 2, none⟩ = some (.int .i64 q.L.toInt) ∧ W.cell? ⟨p, o + j * 4 + 3, none⟩ = some (.int .i64 q.b)) → ∃ ps : List Pf, ps.length = n ∧ Row W a ps
  | 0, _ => ⟨[], rfl, Row.nil _ _⟩
  | n + 1, h => by
      obtain ⟨ps, hl, hb⟩ := rows_of a n (fun j hj => h j (by omega))
      obtain ⟨p, o, q, ha, hp, c0, c1, c2, c3⟩ := h n (by omega)
      refine ⟨ps ++ [q], by simp [hl], fun j hj => ?_⟩
      by_cases hjn : j < n
      · obtain ⟨p', o', z, ha', hp', hz, hc'⟩ := hb j (by omega)
        exact ⟨p', o', z, ha', hp', by rw [List.getElem?_append_left (by omega)]; exact hz, hc'⟩
      · have : j = n := by simp at hj; omega
        subst this
        exact ⟨p, o, q, ha, hp, by rw [List.getElem?_append_right (by omega), hl]; simp, c0, c1, c2, c3⟩

end Go.Proofs.YtmbmekcppmbokaaGreat
