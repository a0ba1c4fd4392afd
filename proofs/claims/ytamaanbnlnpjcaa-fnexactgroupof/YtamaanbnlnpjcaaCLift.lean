/-
  From the reading of a row of bytes that came in to what memory holds.
-/
import Derived.Test.YtamaanbnlnpjcaaCByt
import Derived.ProofKit
import Derived.Lib.SmallJoins
import Derived.Carry
import Derived.Deep.Slices
import Derived.ChangeMaps5
namespace Go.Proofs.Ytamaanbnlnpjcaa
open Go.ChangeShapes Go.WideShapes Go.ChangeAt Go.RowKit Go.Joins Go.Deep

theorem Try.ownC : ownKnob Try.prog.godebug = none := by kernel_rfl
theorem Try.laidOutC : laidOutB Try.prog = true := by kernel_rfl
theorem Try.cellsByteC : Try.prog.cellsOf 5 = 1 := by kernel_rfl

/-- The bytes that are there, one by one. -/
theorem bytes_of {W : World} (a : Option Addr) : ∀ n : Nat, (∀ j, j < n → ∃ p o v, a = some ⟨p, o, none⟩ ∧ p < W.heap.size ∧ W.cell? ⟨p, o + j, none⟩ = some (.int .u8 v) ∧ 0 ≤ v ∧ v ≤ 255) → ∃ zs : List Int, zs.length = n ∧ Oct zs ∧ Byt W a zs
  | 0, _ => ⟨[], rfl, (fun z hz => by cases hz), Byt.nil _ _⟩
  | n + 1, h => by
      obtain ⟨zs, hl, ho, hb⟩ := bytes_of a n (fun j hj => h j (by omega))
      obtain ⟨p, o, v, ha, hp, hc, v0, v1⟩ := h n (by omega)
      refine ⟨zs ++ [v], by simp [hl], fun z hz => ?_, fun j hj => ?_⟩
      · rcases List.mem_append.1 hz with hz | hz
        · exact ho z hz
        · rw [List.mem_singleton] at hz; subst hz; exact ⟨v0, v1⟩
      · by_cases hjn : j < n
        · obtain ⟨p', o', z, ha', hp', hc', hz⟩ := hb j (by omega)
          exact ⟨p', o', z, ha', hp', hc', by rw [List.getElem?_append_left (by omega)]; exact hz⟩
        · have : j = n := by simp at hj; omega
          subst this
          exact ⟨p, o, v, ha, hp, hc, by rw [List.getElem?_append_right (by omega), hl]; simp⟩

/-- The bytes out of the reading of a row of bytes. -/
theorem byt_open {H : Type} {enc : TypeId × Value → H} {W : World} {a : Option Addr} {len cap : Nat} {d : DataW H} {p : List MemPlace}
    (h : DataW.Trod enc Try.prog W 0 (fun _ => true) true 22 (.slice a len cap) d p) : ∃ zs : List Int, zs.length = len ∧ Oct zs ∧ Byt W a zs := by
  obtain ⟨fuel, hf⟩ := h
  rcases open_slice1 Try.underlying22 Try.cellsByteC hf with ⟨hcs, _⟩ | ⟨a', len', cap', m, n, V, D, Pl, hcs, _, hl, _, hm, _, hV⟩
  · simp [Value.cells] at hcs
    obtain ⟨rfl, rfl, rfl⟩ := hcs
    exact ⟨[], rfl, (fun z hz => by cases hz), Byt.nil _ _⟩
  · simp [Value.cells] at hcs
    obtain ⟨rfl, rfl, rfl⟩ := hcs
    refine bytes_of _ _ fun j hj => ?_
    simp at hm
    obtain ⟨hc, ht⟩ := hV j (by omega)
    obtain ⟨v, e, _, wv⟩ := DataW.trod_int Try.underlying5 ht
    simp at e
    rw [e] at hc
    have hb : 0 ≤ v ∧ v ≤ 255 := by simpa [Lit.wf, IntKind.min, IntKind.max, IntKind.signed, IntKind.bits] using wv
    obtain ⟨p', o', sp⟩ := a'
    cases sp with
    | some q =>
      exfalso
      have h0 := (hV 0 (by omega)).1
      rw [show Addr.add ⟨p', o', some q⟩ 0 = ⟨p', o', some q⟩ from rfl] at h0
      unfold World.cell? at h0
      split at h0
      · simp at h0
      · cases h0
    | none =>
      have hc' : W.cell? ⟨p', o' + j, none⟩ = some (.int .u8 v) := by
        cases j with
        | zero => simpa [Addr.add] using hc
        | succ i => simpa [Addr.add] using hc
      exact ⟨p', o', v, rfl, World.block_lt_of_cell? W _ hc', hc', hb.1, hb.2⟩

end Go.Proofs.Ytamaanbnlnpjcaa
