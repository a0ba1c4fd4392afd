/-
  What both LastEntry and both TermAt answer of a Keep that lies elsewhere.
-/
import Derived.Test.YtamaanbnlnpjcaaV15B
import Derived.Test.YtamaanbnlnpjcaaV15Z
namespace Go.Proofs.Ytamaanbnlnpjcaa
open Go.ChangeShapes Go.WideShapes Go.ChangeAt Go.RowKit Go.Joins Go.Deep

theorem kv_key {m k : Kv} (h : KvE m k) : kvB k = kvB m := by
  have h1 := ris_key m.E h.es
  unfold kvB baB loB
  rw [h.T, h.V, h.B, h.E, h.sn, h.ln, h.ps, h.bs, h1.1, h1.2]
theorem tm_key {m k : Kv} (h : KvE m k) (i : Nat) : tmE k i = tmE m i := by
  cases i with
  | zero => exact h.E
  | succ j =>
    show ((k.es[j]?).map En.T).getD 0 = ((m.es[j]?).map En.T).getD 0
    have := congrArg (fun l => (l[j]?).map (fun x : Int × Int × Nat × List Int => x.1)) h.es
    simp only [List.getElem?_map, Option.map_map] at this
    exact congrArg (fun o => o.getD 0) this
theorem wf_le {x : Int} (h : (Lit.int .i64 x).wf = true) : x ≤ 9223372036854775807 := by
  have hb : -9223372036854775808 ≤ x ∧ x ≤ 9223372036854775807 := by simpa [Lit.wf, IntKind.min, IntKind.max, IntKind.signed, IntKind.bits] using h
  exact hb.2
theorem le_key {m k : Kv} (h : KvE m k) : leI k = leI m ∧ leT k = leT m := by
  unfold leI leT
  rw [kv_key h, h.B, h.ln, tm_key h]
  exact ⟨rfl, rfl⟩
theorem ta_key {m k : Kv} (h : KvE m k) (x : Int) : tqT k x = tqT m x ∧ tqO k x = tqO m x := by
  have h1 : taO k x = taO m x := by unfold taO; rw [h.B, h.ln]
  have h2 : taT k x = taT m x := by unfold taT; rw [h1, h.B, tm_key h]
  unfold tqT tqO
  rw [kv_key h, h1, h2]
  exact ⟨rfl, rfl⟩

end Go.Proofs.Ytamaanbnlnpjcaa
