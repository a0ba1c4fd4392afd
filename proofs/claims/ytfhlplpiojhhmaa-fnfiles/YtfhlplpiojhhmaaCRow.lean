/-
  Rows of bytes: what an append beside them leaves as it was, what a region's order leaves as it was.
-/
import Derived.Test.YtfhlplpiojhhmaaCAdr
namespace Go.Proofs.Ytfhlplpiojhhmaa
open Go.RowKit

theorem Own.caps {w : World} {B n c : Nat} {a : Option Addr} {zs : List Int} (h : Own w B (.slice a n c) zs) : zs.length ≤ c ∧ c ≤ 9223372036854775807 := by
  rcases h.2 with ⟨hv, h0⟩ | ⟨g, cap, cur, hv, hb, hg, h1, h2, h3, h4⟩
  · simp at hv
    exact ⟨by omega, by omega⟩
  · simp at hv
    unfold maxLen at h2
    obtain ⟨_, _, rfl⟩ := hv
    exact ⟨by omega, by omega⟩

theorem Byt.far {w w' : World} {g o k : Nat} {zs : List Int} (h : Byt w (some ⟨g, o, none⟩) zs) (hg : w.grownBy w' (some k)) (hne : g ≠ k) : Byt w' (some ⟨g, o, none⟩) zs := fun j hj => by
  obtain ⟨p, o', z, ha, hp, hc, hz⟩ := h j hj
  cases ha
  exact ⟨g, o, z, rfl, Nat.lt_of_lt_of_le hp hg.size, (hg.cell_far ⟨g, o + j, none⟩ hp (by simpa using hne)).trans hc, hz⟩
theorem Byt.more {w : World} {a : Option Addr} {zs : List Int} (h : Byt w a zs) (x : Obj) : Byt (w.alloc x) a zs := h.later ((Below.refl _ w).alloc (Nat.le_refl _) x)
theorem oct_app {xs ys : List Int} (h : Oct xs) (k : Oct ys) : Oct (xs ++ ys) := fun z hz => (List.mem_append.1 hz).elim (h z) (k z)
theorem oct_one {z : Int} (h : 0 ≤ z ∧ z ≤ 255) : Oct [z] := fun x hx => by rw [List.mem_singleton] at hx; subst hx; exact h

theorem own_drewI {w : World} {B : Nat} {v : Value} {zs : List Int} (h : Own w B v zs) : Own w.drew B v zs := h
theorem byt_drew {w : World} {a : Option Addr} {zs : List Int} (h : Byt w a zs) : Byt w.drew a zs := h.later (Below.refl _ w).drew
theorem own_nilE (w : World) (B : Nat) {q : Nat} (h : B ≤ w.heap.size) (hq : q = w.heap.size) : Own (w.alloc (.cells #[] 5)) B (.slice (some ⟨q, 0, none⟩) 0 0) [] := by subst hq; exact own_nil w B h
theorem byt_two (w : World) (x y : Int) {q : Nat} (hq : q = w.heap.size) : Byt (w.alloc (.cells #[.int .u8 x, .int .u8 y] 5)) (some ⟨q, 0, none⟩) [x, y] := fun j hj => by
  subst hq
  match j, hj with
  | 0, _ => exact ⟨_, _, x, rfl, by simp, by simp [go_sem], rfl⟩
  | 1, _ => exact ⟨_, _, y, rfl, by simp, by simp [go_sem], rfl⟩
theorem src_cut {w5 W : World} {g m cb : Nat} {l : Int} {hs : List Int} (h : Byt w5 (some ⟨g, 0, none⟩) (hs ++ [l])) (hm : m = hs.length) (hS : W.cell? ⟨g, m, none⟩ = some (.int .u8 l) ∧ Below w5.heap.size w5 W) :
    Src Try.prog 1 22 (.slice (some ⟨g, 0, none⟩) m cb) hs.length (hs.map (Value.int .u8)) W := by
  subst hm
  refine src_byt (zs := hs) cb (fun j hj => ?_) (by simp)
  obtain ⟨p, o, z, ha, hp, hc, hz⟩ := (h.later hS.2) j (by simp; omega)
  refine ⟨p, o, z, ha, hp, hc, ?_⟩
  rw [List.getElem?_append_left hj] at hz; exact hz
theorem byt_init {w : World} {a : Option Addr} {hs : List Int} {l : Int} (h : Byt w a (hs ++ [l])) : Byt w a hs := fun j hj => by
  obtain ⟨p, o, z, ha, hp, hc, hz⟩ := h j (by simp; omega)
  refine ⟨p, o, z, ha, hp, hc, ?_⟩
  rw [List.getElem?_append_left hj] at hz; exact hz
theorem keepC {w5 W : World} {g m : Nat} {l : Int} (cl : w5.cell? ⟨g, m, none⟩ = some (.int .u8 l)) (g5 : g < w5.heap.size) (b : Below w5.heap.size w5 W) : W.cell? ⟨g, m, none⟩ = some (.int .u8 l) ∧ Below w5.heap.size w5 W :=
  ⟨(b.cell (p := ⟨g, m, none⟩) g5).trans cl, b⟩
theorem keepCA {w5 W : World} {g m : Nat} {l : Int} (cl : w5.cell? ⟨g, m, none⟩ = some (.int .u8 l)) (g5 : g < w5.heap.size) (h : W.cell? ⟨g, m, none⟩ = some (.int .u8 l) ∧ Below w5.heap.size w5 W) (o : Obj) : (W.alloc o).cell? ⟨g, m, none⟩ = some (.int .u8 l) ∧ Below w5.heap.size w5 (W.alloc o) := keepC cl g5 (h.2.alloc h.2.size o)
theorem keepCD {w5 W : World} {g m : Nat} {l : Int} (cl : w5.cell? ⟨g, m, none⟩ = some (.int .u8 l)) (g5 : g < w5.heap.size) (h : W.cell? ⟨g, m, none⟩ = some (.int .u8 l) ∧ Below w5.heap.size w5 W) : W.drew.cell? ⟨g, m, none⟩ = some (.int .u8 l) ∧ Below w5.heap.size w5 W.drew := keepC cl g5 h.2.drew
theorem keepCE {w5 W : World} {g m : Nat} {l : Int} (cl : w5.cell? ⟨g, m, none⟩ = some (.int .u8 l)) (g5 : g < w5.heap.size) (h : W.drew.cell? ⟨g, m, none⟩ = some (.int .u8 l) ∧ Below w5.heap.size w5 W.drew) (o : Obj) : (W.alloc o).drew.cell? ⟨g, m, none⟩ = some (.int .u8 l) ∧ Below w5.heap.size w5 (W.alloc o).drew := keepC cl g5 (h.2.alloc h.2.size o)
theorem appC {w5 W X : World} {g g' m : Nat} {l : Int} (h : W.cell? ⟨g, m, none⟩ = some (.int .u8 l) ∧ Below w5.heap.size w5 W) (r : W.grownBy X (some g')) (hg : w5.heap.size ≤ g') : Below w5.heap.size w5 X := h.2.grown r h.2.size (fun k hk => by cases hk; exact hg)

end Go.Proofs.Ytfhlplpiojhhmaa
