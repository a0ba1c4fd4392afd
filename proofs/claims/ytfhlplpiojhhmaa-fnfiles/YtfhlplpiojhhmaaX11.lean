/-
  Small rules on cells and rows along a walk; beginnings of rows.
-/
import Derived.Test.YtfhlplpiojhhmaaVFileK
namespace Go.Proofs.Ytfhlplpiojhhmaa
open Go.RowKit

theorem cell_grown {w w' : World} {r : Option Nat} {b o : Nat} {u : Value} (hg : w.grownBy w' r) (h : w.cell? ⟨b, o, none⟩ = some u) (hne : ∀ k, r = some k → k ≠ b) : w'.cell? ⟨b, o, none⟩ = some u :=
  (World.cell?_of_block (w := w) (hg.block b (World.block_lt_of_cell? w _ h) (fun e => hne b e.symm rfl))).trans h
theorem frz_grown {w w' : World} {r : Option Nat} {b o : Nat} (hg : w.grownBy w' r) (hb : b < w.heap.size) (h : w.frozen? ⟨b, o, none⟩ = false) (hne : ∀ k, r = some k → k ≠ b) : w'.frozen? ⟨b, o, none⟩ = false :=
  (World.frozen?_of_block (w := w) (hg.block b hb (fun e => hne b e.symm rfl))).trans h
theorem cell_set1 {w : World} {b o x o' : Nat} {u v : Value} (h : w.cell? ⟨b, o, none⟩ = some u) (hne : b ≠ x) : (w.setCell ⟨x, o', none⟩ v).cell? ⟨b, o, none⟩ = some u := by
  rw [World.cell?_of_block (w := w) ((grown_cellG w x o' v).block b (World.block_lt_of_cell? w _ h) (fun e => hne (by simpa using e)))]
  exact h
theorem frz_set1 {w : World} {b o x o' : Nat} {v : Value} (h : w.frozen? ⟨b, o, none⟩ = false) : (w.setCell ⟨x, o', none⟩ v).frozen? ⟨b, o, none⟩ = false := by
  simpa [go_sem] using h
theorem own_some {α : Type} {K : Kd α} {t : TypeId} {w : World} {B n c : Nat} {a : Option Addr} {ps : List α} (h : OwnG K t w B (.slice a n c) ps) (hn : 0 < n) : ∃ g, a = some ⟨g, 0, none⟩ := by
  rcases h.2 with ⟨hv, _⟩ | ⟨g, cap', cur, hv, _⟩
  · simp at hv; omega
  · simp at hv; exact ⟨g, hv.1⟩
theorem ob_len (a : Option Addr) (n c n' c' : Nat) : (Value.slice a n c).ownBlock = (Value.slice a n' c').ownBlock := by cases a <;> rfl
theorem app_ne {a a9 : Option Addr} {n c n9 c9 x L H : Nat} (ht : a9 = a ∨ a9 = some ⟨H, 0, none⟩) (h1 : ∀ k, (Value.slice a n c).ownBlock = some k → k < L) (h2 : L ≤ x) (h3 : x < H) : ∀ k, (Value.slice a9 n9 c9).ownBlock = some k → k ≠ x := by
  intro k hk e
  rcases ht with h | h
  · rw [h] at hk
    have := h1 k ((ob_len a n c n9 c9).trans hk)
    omega
  · rw [h, ob_some, Option.some.injEq] at hk
    omega
def Stp (p : Prop) : Prop := p
theorem stp {p : Prop} (h : Stp p) : p := h
theorem gflat_take {α : Type} (K : Kd α) : ∀ (ps : List α) (L : Nat), gflat K (ps.take L) = (gflat K ps).take (L * K.k)
  | [], L => by simp [gflat]
  | p :: t, 0 => by simp [gflat]
  | p :: t, L + 1 => by
      show K.cs p ++ gflat K (t.take L) = (K.cs p ++ gflat K t).take ((L + 1) * K.k)
      have e : (L + 1) * K.k = (K.cs p).length + L * K.k := by rw [K.len, Nat.add_mul]; omega
      rw [gflat_take K t L, e, List.take_length_add_append]
theorem RowG.take {α : Type} {K : Kd α} {w : World} {a : Option Addr} {ps : List α} (h : RowG K w a ps) (L : Nat) : RowG K w a (ps.take L) := fun j hj => by
  rw [List.length_take] at hj
  obtain ⟨p, o, q, ha, hp, hq, c⟩ := h j (by omega)
  exact ⟨p, o, q, ha, hp, by rw [List.getElem?_take_of_lt (by omega)]; exact hq, c⟩
theorem OwnG.take {α : Type} {K : Kd α} {t : TypeId} {w : World} {B n c : Nat} {a : Option Addr} {ps : List α} (h : OwnG K t w B (.slice a n c) ps) {L : Nat} (hL : L ≤ n) : OwnG K t w B (.slice a L c) (ps.take L) := by
  have hn := h.caps.1
  have hlen : (ps.take L).length = L := by rw [List.length_take]; omega
  unfold OwnG at h ⊢
  rw [hlen, gflat_take]
  refine ⟨by rw [List.length_take, gflat_len]; have : L * K.k ≤ ps.length * K.k := Nat.mul_le_mul_right _ (by omega); omega, ?_⟩
  rcases h.2 with ⟨hv, h0⟩ | ⟨g, c', cur, hv, h1, h2, h3, h4, h5, h6⟩
  · simp at hv
    have : L = 0 := by omega
    subst this
    exact Or.inl ⟨by rw [hv.1, hv.2.2], rfl⟩
  · simp at hv
    refine Or.inr ⟨g, c', cur, by rw [hv.1, hv.2.2], h1, h2, by omega, h4, h5, ?_⟩
    rw [← h6, List.take_take]
    congr 1
    have : L * K.k ≤ ps.length * K.k := Nat.mul_le_mul_right _ (by omega)
    omega

end Go.Proofs.Ytfhlplpiojhhmaa
