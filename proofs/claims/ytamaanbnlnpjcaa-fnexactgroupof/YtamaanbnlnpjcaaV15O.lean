/-
  A Keep that came in, opened.
-/
import Derived.Test.YtamaanbnlnpjcaaV15Z
import Derived.ProofKit
import Derived.OpenShut
import Derived.Lib.SmallJoins
import Derived.Carry
import Derived.Deep.Slices
import Derived.ChangeMaps5
import Derived.ChangeSame
namespace Go.Proofs.Ytamaanbnlnpjcaa
open Go.ChangeShapes Go.WideShapes Go.ChangeAt Go.RowKit Go.Joins Go.Deep

theorem array8 {α : Type} {cs : Array α} (h : cs.size = 8) : ∃ c0 c1 c2 c3 c4 c5 c6 c7, cs = #[c0, c1, c2, c3, c4, c5, c6, c7] := by
  obtain ⟨l⟩ := cs
  match l, h with
  | [c0, c1, c2, c3, c4, c5, c6, c7], _ => exact ⟨c0, c1, c2, c3, c4, c5, c6, c7, rfl⟩
theorem rowsG_of14 {α : Type} {K : Kd α} {E : α → Prop} {W : World} (a : Option Addr) : ∀ n : Nat, (∀ j, j < n → ∃ p o q, a = some ⟨p, o, none⟩ ∧ p < W.heap.size ∧ (∀ i v, (K.cs q)[i]? = some v → W.cell? ⟨p, o + j * K.k + i, none⟩ = some v) ∧ E q) → ∃ ps : List α, ps.length = n ∧ RowG K W a ps ∧ ∀ q ∈ ps, E q
  | 0, _ => ⟨[], rfl, RowG.nil _ _ _, fun _ h => by cases h⟩
  | n + 1, h => by
      obtain ⟨ps, hl, hb, he⟩ := rowsG_of14 a n (fun j hj => h j (by omega))
      obtain ⟨p, o, q, ha, hp, c, hq⟩ := h n (by omega)
      refine ⟨ps ++ [q], by simp [hl], fun j hj => ?_, fun x hx => ?_⟩
      · by_cases hjn : j < n
        · obtain ⟨p', o', z, ha', hp', hz, hc'⟩ := hb j (by omega)
          exact ⟨p', o', z, ha', hp', by rw [List.getElem?_append_left (by omega)]; exact hz, hc'⟩
        · have : j = n := by simp at hj; omega
          subst this
          exact ⟨p, o, q, ha, hp, by rw [List.getElem?_append_right (by omega), hl]; simp, c⟩
      · rcases List.mem_append.1 hx with hx | hx
        · exact he x hx
        · rw [List.mem_singleton] at hx; subst hx; exact hq
/-- One out of its cells. -/
theorem ofEn {H : Type} {enc : TypeId × Value → H} {W : World} {fuel : Nat} {cs : List Value} {x : DataW H × List MemPlace} (hl : cs.length = 3)
    (h : DataW.trod enc Try.prog W 0 (fun _ => true) true fuel 105 cs = some x) : ∃ q : En, cs = KEn.cs q ∧ DatR W q ∧ q.n ≤ 9223372036854775807 := by
  match cs, hl with
  | [c0, c1, c2], _ =>
    obtain ⟨z0, z1, z2, n, hx, _, h0, h1, h2⟩ := trod_struct3 Try.underlying105 h
    have ki : Try.prog.cellsOf 3 = 1 := by kernel_rfl
    have kb : Try.prog.cellsOf 22 = 1 := by kernel_rfl
    simp [ki, kb] at h0 h1 h2
    obtain ⟨a, n', c, rfl⟩ := slice_of Try.underlying22 h2
    obtain ⟨zs, e1, o1, r1, l1⟩ := byt_open9 (enc := enc) (W := W) (a := a) (len := n') (cap := c) (d := z2.1) (p := z2.2) ⟨n, by simpa [Value.cells] using h2⟩
    obtain ⟨T, eT, _, wT⟩ := DataW.trod_int Try.underlying3 h0
    obtain ⟨N, eN, _, wN⟩ := DataW.trod_int Try.underlying3 h1
    simp at eN eT
    subst eN eT
    exact ⟨⟨T, N, a, n', c, zs⟩, rfl, ⟨e1, o1, r1⟩, l1⟩
set_option maxRecDepth 100000 in
/-- The entries out of the reading of a row of them. -/
theorem openEn {H : Type} {enc : TypeId × Value → H} {W : World} {a : Option Addr} {len cap : Nat} {d : DataW H} {p : List MemPlace}
    (h : DataW.Trod enc Try.prog W 0 (fun _ => true) true 40 (.slice a len cap) d p) : ∃ ps : List En, ps.length = len ∧ len ≤ 9223372036854775807 ∧ RowG KEn W a ps ∧ ∀ q ∈ ps, DatR W q ∧ q.n ≤ 9223372036854775807 := by
  obtain ⟨fuel, hf⟩ := h
  rcases open_slice Try.underlying40 hf with ⟨hcs, _⟩ | ⟨a', len', cap', m, n, D, Plc, hcs, _, hl, hmx, hm, _, hV⟩
  · simp [Value.cells] at hcs
    obtain ⟨rfl, rfl, rfl⟩ := hcs
    exact ⟨[], rfl, by omega, RowG.nil _ _ _, fun _ h => by cases h⟩
  · simp [Value.cells] at hcs
    obtain ⟨rfl, rfl, rfl⟩ := hcs
    suffices h9 : ∃ ps : List En, ps.length = len ∧ RowG KEn W (some a') ps ∧ ∀ q ∈ ps, DatR W q ∧ q.n ≤ 9223372036854775807 by
      obtain ⟨ps, h1, h2⟩ := h9
      exact ⟨ps, h1, by unfold maxLen at hmx; omega, h2⟩
    refine rowsG_of14 (E := fun q : En => DatR W q ∧ q.n ≤ 9223372036854775807) _ _ fun j hj => ?_
    simp at hm
    obtain ⟨cs', h1, h2⟩ := hV j (by omega)
    rw [Try.cellsEntry] at h1
    obtain ⟨_, hlen, hcell⟩ := World.cells?_some h1
    obtain ⟨q, rfl, hq9⟩ := ofEn hlen h2
    obtain ⟨p', o', sp⟩ := a'
    cases sp with
    | some r =>
      exfalso
      obtain ⟨cs0, g1, g2⟩ := hV 0 (by omega)
      rw [Try.cellsEntry] at g1
      obtain ⟨_, glen, gcell⟩ := World.cells?_some g1
      obtain ⟨q0, rfl, _⟩ := ofEn glen g2
      have h0 := gcell 0 (by omega)
      rw [Nat.zero_mul, show Addr.add (Addr.add ⟨p', o', some r⟩ 0) 0 = ⟨p', o', some r⟩ from rfl] at h0
      unfold World.cell? at h0
      split at h0
      · simp [KEn] at h0
      · cases h0
    | none =>
      have ea : ∀ i k : Nat, Addr.add (Addr.add ⟨p', o', none⟩ i) k = ⟨p', o' + i + k, none⟩ := fun i k => by
        have ea1 : ∀ (o k : Nat), Addr.add ⟨p', o, none⟩ k = ⟨p', o + k, none⟩ := fun o k => by unfold Addr.add; split <;> simp_all
        rw [ea1, ea1]
      have hall : ∀ i v, (KEn.cs q)[i]? = some v → W.cell? ⟨p', o' + j * KEn.k + i, none⟩ = some v := fun i v hv => by
        have hi : i < 3 := by
          rcases Nat.lt_or_ge i (KEn.cs q).length with h1 | h1
          · exact h1
          · rw [List.getElem?_eq_none h1] at hv; cases hv
        have e0 := hcell i hi
        rw [ea] at e0
        exact e0.trans hv
      exact ⟨p', o', q, rfl, World.block_lt_of_cell? W _ (hall 0 _ rfl), hall, hq9⟩
set_option maxRecDepth 100000 in
set_option maxHeartbeats 2000000 in
theorem openKeep {H : Type} {enc : TypeId × Value → H} {W : World} {r : Reach} {b0 : Nat} {v : Value} {d : DataW H} {p : List MemPlace} (hv : Value.okWide Try.prog W r b0 42 v)
    (h : DataW.Trod enc Try.prog W 0 (fun _ => true) true 42 v d p) : ∃ (k : Kv) (ss : List Int), v = k.v ∧ KvF W k ss ∧ KvL k := by
  obtain ⟨cs, rfl, hsz⟩ := okWide_struct Try.underlying42 hv
  have hC : Try.prog.cellsOf 42 = 8 := by kernel_rfl
  obtain ⟨c0, c1, c2, c3, c4, c5, c6, c7, rfl⟩ := array8 (hsz.trans hC)
  obtain ⟨fuel, hf⟩ := h
  obtain ⟨xs, n, _, _, _, hlen, hx⟩ := DataW.trod_struct Try.underlying42 hf
  have kG : Try.prog.cellsOf 39 = 2 := by kernel_rfl
  have ki : Try.prog.cellsOf 3 = 1 := by kernel_rfl
  have k8 : Try.prog.cellsOf 22 = 1 := by kernel_rfl
  have kI : Try.prog.cellsOf 24 = 1 := by kernel_rfl
  have kE : Try.prog.cellsOf 40 = 1 := by kernel_rfl
  match xs, hlen with
  | [y0, y1, y2, y3, y4, y5, y6], _ =>
    have f0 := hx 0 _ rfl; have f1 := hx 1 _ rfl; have f2 := hx 2 _ rfl; have f3 := hx 3 _ rfl; have f4 := hx 4 _ rfl; have f5 := hx 5 _ rfl; have f6 := hx 6 _ rfl
    simp [Value.cells, kG, ki, k8, kE] at f0 f1 f2 f3 f4 f5 f6
    obtain ⟨z0, z1, m, _, _, g0, g1⟩ := trod_struct2 Try.underlying39 f4
    simp [kI] at g0 g1
    obtain ⟨ga, gn, gc, rfl⟩ := slice_of Try.underlying24 g0
    obtain ⟨ha, hn, hc, rfl⟩ := slice_of Try.underlying24 g1
    obtain ⟨sa, sn, sc, rfl⟩ := slice_of Try.underlying22 f5
    obtain ⟨la, ln, lc, rfl⟩ := slice_of Try.underlying40 f6
    obtain ⟨es, e1, e2, e3, e4⟩ := openEn (enc := enc) (W := W) (a := la) (len := ln) (cap := lc) (d := y6.1) (p := y6.2) ⟨n, by simpa [Value.cells] using f6⟩
    obtain ⟨ss, d1, d2, d3, d4⟩ := byt_open9 (enc := enc) (W := W) (a := sa) (len := sn) (cap := sc) (d := y5.1) (p := y5.2) ⟨n, by simpa [Value.cells] using f5⟩
    obtain ⟨ps, p1, p2, p3⟩ := openI (enc := enc) (W := W) (a := ga) (len := gn) (cap := gc) (d := z0.1) (p := z0.2) ⟨m, by simpa [Value.cells] using g0⟩
    obtain ⟨bs, b1, b2, b3⟩ := openI (enc := enc) (W := W) (a := ha) (len := hn) (cap := hc) (d := z1.1) (p := z1.2) ⟨m, by simpa [Value.cells] using g1⟩
    obtain ⟨T, i0, _, _⟩ := DataW.trod_int Try.underlying3 f0
    obtain ⟨V, i1, _, _⟩ := DataW.trod_int Try.underlying3 f1
    obtain ⟨B, i2, _, _⟩ := DataW.trod_int Try.underlying3 f2
    obtain ⟨E, i3, _, _⟩ := DataW.trod_int Try.underlying3 f3
    simp at i0 i1 i2 i3
    subst i0 i1 i2 i3
    exact ⟨⟨T, V, B, E, ga, gn, gc, ha, hn, hc, sa, sn, sc, la, ln, lc, ps, bs, es⟩, ss, rfl, ⟨⟨p1.symm, b1.symm, e1.symm, p3, b3, e3, fun e he => (e4 e he).1⟩, d1, d2, d3⟩, p2, b2, d4, e2, fun e he => (e4 e he).2⟩

end Go.Proofs.Ytamaanbnlnpjcaa
