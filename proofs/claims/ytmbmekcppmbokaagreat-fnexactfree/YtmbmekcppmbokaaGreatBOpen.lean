/-
  A struct whose first field is a struct of three words and whose second is one word, by value: opened and shut. General: it names no program.
-/
import Derived.ProofKit
import Derived.Lib.SmallJoins
namespace Go.Proofs.YtmbmekcppmbokaaGreat
open Go.ChangeShapes Go.WideShapes Go.ChangeAt Go.RowKit Go.Joins Go.Deep

variable {H : Type} {enc : TypeId × Value → H} {P : Program} {w : World} {base : Nat} {spare : Nat → Bool} {held : Bool}

theorem open_pfx {r : Reach} {b0 : Nat} {t : TypeId} {f0 f1 g0 g1 g2 : Field} {v : Value} {d : DataW H} {p : List MemPlace} (hs : P.underlying t = some (.struct #[f0, f1])) (hg : P.underlying f0.type = some (.struct #[g0, g1, g2]))
    (hone : oneCellFields P #[g0, g1, g2] = true) (o0 : f0.offset = 0) (k0 : P.cellsOf f0.type = 3) (o1 : f1.offset = 3) (k1 : P.cellsOf f1.type = 1) (hC : P.cellsOf t = 4)
    (hv : Value.okWide P w r b0 t v) (h : DataW.Trod enc P w base spare held t v d p) :
    ∃ (v0 v1 v2 v3 : Value) (y0 y1 y2 y3 : DataW H × List MemPlace) (n : Nat), v = .agg #[v0, v1, v2, v3] ∧ d = .agg [.agg [y0.1, y1.1, y2.1], y3.1] ∧ p = (y0.2 ++ (y1.2 ++ y2.2)) ++ y3.2 ∧
      DataW.trod enc P w base spare held n g0.type [v0] = some y0 ∧ DataW.trod enc P w base spare held n g1.type [v1] = some y1 ∧ DataW.trod enc P w base spare held n g2.type [v2] = some y2 ∧ DataW.trod enc P w base spare held n f1.type [v3] = some y3 := by
  obtain ⟨cs, rfl, hsz⟩ := okWide_struct hs hv
  obtain ⟨c0, c1, c2, c3, rfl⟩ := array4 (hsz.trans hC)
  obtain ⟨fuel, hf⟩ := h
  obtain ⟨z0, z1, n, hx, _, h0, h1⟩ := trod_struct2 hs hf
  rw [o0, k0] at h0
  rw [o1, k1] at h1
  simp [Value.cells] at h0 h1
  obtain ⟨y0, y1, y2, m, hy, _, j0, j1, j2⟩ := trod_struct3 hg h0
  obtain ⟨p0, q0⟩ := hone_of hone 0 g0 rfl
  obtain ⟨p1, q1⟩ := hone_of hone 1 g1 rfl
  obtain ⟨p2, q2⟩ := hone_of hone 2 g2 rfl
  simp only [Prod.mk.injEq] at hx
  subst hy
  refine ⟨c0, c1, c2, c3, y0, y1, y2, z1, n + m, rfl, hx.1, hx.2, DataW.trod_le (show m ≤ n + m by omega) (by simpa [p0, q0] using j0), DataW.trod_le (show m ≤ n + m by omega) (by simpa [p1, q1] using j1), DataW.trod_le (show m ≤ n + m by omega) (by simpa [p2, q2] using j2), DataW.trod_le (by omega) h1⟩

theorem shut_pfx {t : TypeId} {f0 f1 g0 g1 g2 : Field} {v0 v1 v2 v3 : Value} {y0 y1 y2 y3 : DataW H × List MemPlace} (hs : P.underlying t = some (.struct #[f0, f1])) (hg : P.underlying f0.type = some (.struct #[g0, g1, g2]))
    (hone : oneCellFields P #[g0, g1, g2] = true) (o0 : f0.offset = 0) (k0 : P.cellsOf f0.type = 3) (o1 : f1.offset = 3) (k1 : P.cellsOf f1.type = 1) (hC : P.cellsOf t = 4)
    (t0 : ∃ n, DataW.trod enc P w base spare held n g0.type [v0] = some y0) (t1 : ∃ n, DataW.trod enc P w base spare held n g1.type [v1] = some y1) (t2 : ∃ n, DataW.trod enc P w base spare held n g2.type [v2] = some y2) (t3 : ∃ n, DataW.trod enc P w base spare held n f1.type [v3] = some y3) :
    DataW.Trod enc P w base spare held t (.agg #[v0, v1, v2, v3]) (.agg [.agg [y0.1, y1.1, y2.1], y3.1]) ((y0.2 ++ (y1.2 ++ y2.2)) ++ y3.2) := by
  obtain ⟨n, ha⟩ := shut_agg3 (w := w) (base := base) (spare := spare) (held := held) hg hone k0 t0 t1 t2
  obtain ⟨n3, t3⟩ := t3
  have ts := trod_struct2_mk (enc := enc) (w := w) (base := base) (spare := spare) (held := held) (n := n + n3) (cs := [v0, v1, v2, v3]) (y0 := (.agg [y0.1, y1.1, y2.1], y0.2 ++ (y1.2 ++ y2.2))) (y1 := y3) hs (by simp [hC])
    (by rw [o0, k0]; simpa [Value.cells] using DataW.trod_le (show n ≤ n + n3 by omega) ha) (by rw [o1, k1]; simpa using DataW.trod_le (show n3 ≤ n + n3 by omega) t3)
  exact ⟨_, by simpa [Value.cells] using ts⟩

end Go.Proofs.YtmbmekcppmbokaaGreat
