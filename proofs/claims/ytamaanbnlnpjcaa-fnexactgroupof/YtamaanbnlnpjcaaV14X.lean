/-
  Boxes of cells, and what lies in blocks from a bound on.
-/
import Derived.Test.YtamaanbnlnpjcaaV14S
import Derived.Test.YtamaanbnlnpjcaaRSep
namespace Go.Proofs.Ytamaanbnlnpjcaa
open Go.ChangeShapes Go.WideShapes Go.ChangeAt Go.RowKit Go.Joins Go.Deep

theorem own_kpt {α : Type} {K : Kd α} {t : TypeId} {w w' : World} {M : Nat → Prop} {B : Nat} {v : Value} {ps : List α} (h : OwnG K t w B v ps) (hk : Kpt M w w') (hm : ∀ k, B ≤ k → M k) : OwnG K t w' B v ps := by
  refine ⟨h.1, ?_⟩
  rcases h.2 with h1 | ⟨g, cap, cur, hv, hg, hr, hr'⟩
  · exact Or.inl h1
  · refine Or.inr ⟨g, cap, cur, hv, hg, (hk.block g ?_ (hm g hg)).trans hr, hr'⟩
    rcases Nat.lt_or_ge g w.heap.size with hlt | hge
    · exact hlt
    · rw [Array.getElem?_eq_none hge] at hr; cases hr
theorem EnO.kpt {w w' : World} {M : Nat → Prop} {B G : Nat} {e : En} (h : EnO w B G e) (hk : Kpt M w w') (hm : ∀ k, B ≤ k → M k) : EnO w' B G e := ⟨h.hn, h.ho, own_kpt h.own hk hm, h.ne⟩
theorem kpt_setN {B : Nat} {A V : World} (h : Kpt (fun k => B ≤ k) A V) {b i : Nat} (hb : b < B) (u : Value) : Kpt (fun k => B ≤ k) A (V.setCell ⟨b, i, none⟩ u) :=
  h.trans ⟨rfl, rfl, rfl, by simp [World.setCell], fun k _ hk => Below.heap_setCell V ⟨b, i, none⟩ u k (by show k ≠ b; omega)⟩
theorem kpt_bel {M : Nat → Prop} {A X Y : World} (h : Kpt M A X) (hb : Below X.heap.size X Y) : Kpt M A Y := h.trans (Kpt.ofBelow M hb)
theorem kpt_drew {M : Nat → Prop} {A X : World} (h : Kpt M A X) : Kpt M A X.drew := kpt_bel h (Below.refl _ X).drew

end Go.Proofs.Ytamaanbnlnpjcaa
