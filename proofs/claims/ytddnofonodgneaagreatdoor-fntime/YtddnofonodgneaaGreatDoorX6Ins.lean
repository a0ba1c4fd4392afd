/-
  slices.Insert of one: what its copies make of a row of one's own.
-/
import Derived.Test.YtddnofonodgneaaGreatDoorX6Del
import Derived.Shelf.Spec.SlicesInsert
import Derived.Lib.AppendZerosOnto
import Derived.Laws.NewBlocks
namespace Go.Proofs.YtddnofonodgneaaGreatDoor
open Go.RowKit

/-- copy, where a thing has k cells. -/
theorem run_copyG {P : Program} (w : World) (dT sT ty e : TypeId) (k m : Nat) (b o dLen dCap : Nat) (a : Addr) (sLen sCap : Nat) (cs : List Value)
    (hu : P.underlying dT = some (.slice e)) (hs : (P.info? e).map (·.size) = some k) (hm : Nat.min sLen dLen = m) (hn : cs.length = m * k)
    (hsrc : ∀ j v, cs[j]? = some v → w.cell? (a.add j) = some v) (hc : ∀ j, j < cs.length → (w.cell? ⟨b, o + j, none⟩).isSome = true) (hf : ∀ j, j < cs.length → w.frozen? ⟨b, o + j, none⟩ = false) (h1 : ∀ v ∈ cs, v.oneCell' = true) :
    (Builtin.copy_ #[dT, sT] ty #[.slice (some ⟨b, o, none⟩) dLen dCap, .slice (some a) sLen sCap]).run P w = .ok (goInt m) (w.setCells b o cs) := by
  have hl := run_firstCells_some (P := P) w k m a sLen sCap cs hn hsrc
  have hst := run_storeCells_cells (P := P) b o cs 0 w (by simpa using hc) (by simpa using hf) h1
  cases hq : P.info? e with
  | none => simp [hq] at hs
  | some i =>
    have hi : i.size = k := by simpa [hq] using hs
    simp [Builtin.copy_, run_underlying hu, Builtin.lenOf, sizeOf, typeInfo, hq, hi, hm, hl, hst]

theorem sets_two (A Y Z V D : List Value) (h1 : Y.length = V.length) (h2 : Z.length = D.length) : sets (sets (A ++ (Y ++ Z)) A.length V) (A.length + V.length) D = A ++ (V ++ D) := by
  have e1 := sets_right A (Y ++ Z) V 0
  rw [Nat.add_zero, sets_all V Y Z h1] at e1
  have e2 := sets_right A (V ++ Z) D V.length
  have e3 := sets_right V Z D 0
  have e4 := sets_all D Z [] h2
  rw [List.append_nil, List.append_nil] at e4
  rw [Nat.add_zero, e4] at e3
  rw [e1, e2, e3]
theorem sets_two' (A Y Z V D : List Value) (h1 : Y.length = V.length) (h2 : Z.length = D.length) : sets (sets (A ++ (Y ++ Z)) (A.length + V.length) D) A.length V = A ++ (V ++ D) := by
  have e2 := sets_right A (Y ++ Z) D V.length
  have e3 := sets_right Y Z D 0
  have e4 := sets_all D Z [] h2
  rw [List.append_nil, List.append_nil] at e4
  rw [Nat.add_zero, e4, h1] at e3
  have e1 := sets_right A (Y ++ D) V 0
  rw [Nat.add_zero, sets_all V Y D h1] at e1
  rw [e2, e3, e1]
theorem gflat_ins {α : Type} (K : Kd α) (ps : List α) (i : Nat) (q : α) : gflat K (ps.take i ++ [q] ++ ps.drop i) = gflat K (ps.take i) ++ (K.cs q ++ gflat K (ps.drop i)) := by
  rw [gflat_app, gflat_app, List.append_assoc]
  congr 2
  show K.cs q ++ [] = K.cs q
  rw [List.append_nil]
theorem ins_len {α : Type} (ps : List α) (i : Nat) (q : α) (hi : i ≤ ps.length) : (ps.take i ++ [q] ++ ps.drop i).length = ps.length + 1 := by
  simp only [List.length_append, List.length_take, List.length_singleton, List.length_drop]; omega
theorem ins_cut {α : Type} (K : Kd α) (ps : List α) (i : Nat) (q : α) (R : List Value) (hi : i ≤ ps.length) (hl : R.length = (ps.length + 1) * K.k) (hR : R.take (i * K.k) = gflat K (ps.take i)) :
    ∃ Y Z, R = gflat K (ps.take i) ++ (Y ++ Z) ∧ Y.length = (K.cs q).length ∧ Z.length = (gflat K (ps.drop i)).length ∧ (gflat K (ps.take i)).length = i * K.k ∧ (K.cs q).length = K.k := by
  have hm : (i + 1) * K.k ≤ (ps.length + 1) * K.k := Nat.mul_le_mul_right _ (by omega)
  have hd : (ps.length - i) * K.k = ps.length * K.k - i * K.k := Nat.sub_mul _ _ _
  rw [Nat.add_mul] at hm
  refine ⟨(R.drop (i * K.k)).take K.k, (R.drop (i * K.k)).drop K.k, ?_, ?_, ?_, ?_, K.len q⟩
  · rw [← hR, List.take_append_drop, List.take_append_drop]
  · rw [K.len, List.length_take, List.length_drop, hl]; omega
  · rw [gflat_len, List.length_drop, List.length_drop, List.length_drop, hl, hd, Nat.add_mul]; omega
  · rw [gflat_len, List.length_take, Nat.min_eq_left hi]
/-- A row of n + 1 whose first i are right: what is behind is laid, then the new one. -/
theorem ins_rawA {α : Type} {K : Kd α} {t : TypeId} {w : World} {B g cap i : Nat} {ps : List α} {R : List Value} (raw : w.ownsRow B t K.k (.slice (some ⟨g, 0, none⟩) (ps.length + 1) cap) (ps.length + 1) R) (hi : i ≤ ps.length) (hR : R.take (i * K.k) = gflat K (ps.take i)) (q : α) :
    OwnG K t ((w.setCells g ((i + 1) * K.k) (gflat K (ps.drop i))).setCells g (i * K.k) (K.cs q)) B (.slice (some ⟨g, 0, none⟩) (ps.length + 1) cap) (ps.take i ++ [q] ++ ps.drop i) := by
  obtain ⟨Y, Z, e, h1, h2, h3, h4⟩ := ins_cut K ps i q R hi raw.1 hR
  have p1 := puts_own (gflat K (ps.drop i)) w R ((i + 1) * K.k) raw
  have p2 := puts_own (K.cs q) _ _ (i * K.k) p1
  unfold OwnG
  rw [setCells_puts, setCells_puts, ins_len ps i q hi, gflat_ins]
  rw [e, show (i + 1) * K.k = (gflat K (ps.take i)).length + (K.cs q).length by rw [h3, h4, Nat.add_mul, Nat.one_mul], show i * K.k = (gflat K (ps.take i)).length from h3.symm, sets_two' _ Y Z _ _ h1 h2] at p2
  rw [show (i + 1) * K.k = (gflat K (ps.take i)).length + (K.cs q).length by rw [h3, h4, Nat.add_mul, Nat.one_mul], show i * K.k = (gflat K (ps.take i)).length from h3.symm]
  exact p2
/-- .. and the other way round. -/
theorem ins_rawB {α : Type} {K : Kd α} {t : TypeId} {w : World} {B g cap i : Nat} {ps : List α} {R : List Value} (raw : w.ownsRow B t K.k (.slice (some ⟨g, 0, none⟩) (ps.length + 1) cap) (ps.length + 1) R) (hi : i ≤ ps.length) (hR : R.take (i * K.k) = gflat K (ps.take i)) (q : α) :
    OwnG K t ((w.setCells g (i * K.k) (K.cs q)).setCells g ((i + 1) * K.k) (gflat K (ps.drop i))) B (.slice (some ⟨g, 0, none⟩) (ps.length + 1) cap) (ps.take i ++ [q] ++ ps.drop i) := by
  obtain ⟨Y, Z, e, h1, h2, h3, h4⟩ := ins_cut K ps i q R hi raw.1 hR
  have p1 := puts_own (K.cs q) w R (i * K.k) raw
  have p2 := puts_own (gflat K (ps.drop i)) _ _ ((i + 1) * K.k) p1
  unfold OwnG
  rw [setCells_puts, setCells_puts, ins_len ps i q hi, gflat_ins]
  rw [e, show (i + 1) * K.k = (gflat K (ps.take i)).length + (K.cs q).length by rw [h3, h4, Nat.add_mul, Nat.one_mul], show i * K.k = (gflat K (ps.take i)).length from h3.symm, sets_two _ Y Z _ _ h1 h2] at p2
  rw [show (i + 1) * K.k = (gflat K (ps.take i)).length + (K.cs q).length by rw [h3, h4, Nat.add_mul, Nat.one_mul], show i * K.k = (gflat K (ps.take i)).length from h3.symm]
  exact p2
theorem OwnG.rawMore {α : Type} {K : Kd α} {t : TypeId} {w : World} {B g n cap i : Nat} {ps : List α} (h : OwnG K t w B (.slice (some ⟨g, 0, none⟩) n cap) ps) (hi : i ≤ n) (hroom : n + 1 ≤ cap) :
    ∃ R, w.ownsRow B t K.k (.slice (some ⟨g, 0, none⟩) (ps.length + 1) cap) (ps.length + 1) R ∧ R.take (i * K.k) = gflat K (ps.take i) := by
  have hn := h.caps.1
  subst hn
  rcases h.2 with ⟨hv, _⟩ | ⟨g', c', cur, hv, hb, hg, h1, h2, h3, h4⟩
  · simp at hv
  · simp at hv
    obtain ⟨e1, e2⟩ := hv
    subst e1 e2
    have hm : (ps.length + 1) * K.k ≤ cap * K.k := Nat.mul_le_mul_right _ hroom
    have hm2 : i * K.k ≤ ps.length * K.k := Nat.mul_le_mul_right _ hi
    refine ⟨cur.toList.take ((ps.length + 1) * K.k), ⟨?_, Or.inr ⟨g, cap, cur, rfl, hb, hg, hroom, h2, h3, rfl⟩⟩, ?_⟩
    · have hx : cur.toList.length = cap * K.k := by rw [Array.length_toList, h3]
      rw [List.length_take, hx]; omega
    · rw [gflat_take, ← h4, List.take_take, List.take_take]
      congr 1
      rw [Nat.add_mul]; omega
theorem setCells_grown {w0 : World} {g : Nat} (vs : List Value) (w : World) (off : Nat) (h : w0.grownBy w (some g)) : w0.grownBy (w.setCells g off vs) (some g) := by
  rw [setCells_puts]; exact puts_grown vs w off h

end Go.Proofs.YtddnofonodgneaaGreatDoor
