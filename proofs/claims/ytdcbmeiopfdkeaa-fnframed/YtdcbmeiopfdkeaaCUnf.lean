/-
  The reading of a frame out of bytes, as plain mathematics.
-/
import Derived.Test.YtdcbmeiopfdkeaaCTxtI
import Derived.Test.YtdcbmeiopfdkeaaCRev
namespace Go.Proofs.Ytdcbmeiopfdkeaa
open Go.RowKit

/-- A frame's bytes, the place behind it, the code. -/
structure Uf where
  ys : List Int
  nx : Int
  cd : Int

def ufIn (zs : List Int) (k0 : Nat) : Uf := match rdN zs k0 with
  | .torn => ⟨[], k0, 2⟩
  | .bad => ⟨[], k0, 3⟩
  | .good x k => if ¬ (0 ≤ wrap64 x ∧ wrap64 x ≤ 20000) then ⟨[], k0, 3⟩ else
      if (zs.length : Int) - ((k0 : Int) + k) < wrap64 x + 4 then ⟨[], k0, 2⟩ else
      if lit (crc (sub zs k0 (k + (wrap64 x).toNat))) ≠ sub zs (k0 + k + (wrap64 x).toNat) 4 then ⟨[], k0, 3⟩ else ⟨sub zs (k0 + k) (wrap64 x).toNat, ((k0 + k + (wrap64 x).toNat + 4 : Nat) : Int), 0⟩
def uf (zs : List Int) (a : Int) : Uf := if ¬ (0 ≤ a ∧ a ≤ (zs.length : Int)) then ⟨[], a, 3⟩ else if a = (zs.length : Int) then ⟨[], a, 1⟩ else ufIn zs a.toNat

theorem uf_out {zs : List Int} {a : Int} (h : ¬ (0 ≤ a ∧ a ≤ (zs.length : Int))) : uf zs a = ⟨[], a, 3⟩ := by unfold uf; rw [if_pos h]
theorem uf_end {zs : List Int} : uf zs (zs.length : Int) = ⟨[], (zs.length : Int), 1⟩ := by unfold uf; rw [if_neg (by omega), if_pos rfl]
theorem uf_in {zs : List Int} {k : Nat} (h : k < zs.length) : uf zs (k : Int) = ufIn zs k := by unfold uf; rw [if_neg (by omega), if_neg (by omega), Int.toNat_natCast]
theorem ufIn_torn {zs : List Int} {k0 : Nat} (e : rdN zs k0 = .torn) : ufIn zs k0 = ⟨[], k0, 2⟩ := by unfold ufIn; rw [e]
theorem ufIn_bad {zs : List Int} {k0 : Nat} (e : rdN zs k0 = .bad) : ufIn zs k0 = ⟨[], k0, 3⟩ := by unfold ufIn; rw [e]
theorem ufIn_far {zs : List Int} {k0 k : Nat} {x : Int} (e : rdN zs k0 = .good x k) (h : ¬ (0 ≤ wrap64 x ∧ wrap64 x ≤ 20000)) : ufIn zs k0 = ⟨[], k0, 3⟩ := by
  unfold ufIn; rw [e]; simp only; rw [if_pos h]
theorem ufIn_cut {zs : List Int} {k0 k : Nat} {x : Int} (e : rdN zs k0 = .good x k) (h : 0 ≤ wrap64 x ∧ wrap64 x ≤ 20000) (hc : (zs.length : Int) - ((k0 : Int) + k) < wrap64 x + 4) : ufIn zs k0 = ⟨[], k0, 2⟩ := by
  unfold ufIn; rw [e]; simp only; rw [if_neg (by simpa using h), if_pos hc]
theorem ufIn_sum {zs : List Int} {k0 k c : Nat} {x : Int} (e : rdN zs k0 = .good x k) (hx : wrap64 x = (c : Int)) (h : c ≤ 20000) (hc : k0 + k + c + 4 ≤ zs.length) (hs : lit (crc (sub zs k0 (k + c))) ≠ sub zs (k0 + k + c) 4) : ufIn zs k0 = ⟨[], k0, 3⟩ := by
  unfold ufIn; rw [e]; simp only [hx, Int.toNat_natCast]; rw [if_neg (by omega), if_neg (by omega), if_pos hs]
theorem ufIn_good {zs : List Int} {k0 k c : Nat} {x : Int} (e : rdN zs k0 = .good x k) (hx : wrap64 x = (c : Int)) (h : c ≤ 20000) (hc : k0 + k + c + 4 ≤ zs.length) (hs : lit (crc (sub zs k0 (k + c))) = sub zs (k0 + k + c) 4) : ufIn zs k0 = ⟨sub zs (k0 + k) c, ((k0 + k + c + 4 : Nat) : Int), 0⟩ := by
  unfold ufIn; rw [e]; simp only [hx, Int.toNat_natCast]; rw [if_neg (by omega), if_neg (by omega), if_neg (by simpa using hs)]
theorem ufIn_cd (zs : List Int) (k0 : Nat) : (ufIn zs k0).cd = 0 ∨ ((ufIn zs k0).ys = [] ∧ (ufIn zs k0).nx = (k0 : Int) ∧ ((ufIn zs k0).cd = 2 ∨ (ufIn zs k0).cd = 3)) := by
  unfold ufIn; split
  · exact Or.inr ⟨rfl, rfl, Or.inl rfl⟩
  · exact Or.inr ⟨rfl, rfl, Or.inr rfl⟩
  · split
    · exact Or.inr ⟨rfl, rfl, Or.inr rfl⟩
    · split
      · exact Or.inr ⟨rfl, rfl, Or.inl rfl⟩
      · split
        · exact Or.inr ⟨rfl, rfl, Or.inr rfl⟩
        · exact Or.inl rfl
theorem sub_le (zs : List Int) (k c : Nat) : (sub zs k c).length ≤ zs.length := by unfold sub; simp; omega
theorem uf_len (zs : List Int) (a : Int) : (uf zs a).ys.length ≤ zs.length := by
  unfold uf; split
  · simp
  · split
    · simp
    · unfold ufIn; split
      · simp
      · simp
      · split
        · simp
        · split
          · simp
          · split
            · simp
            · exact sub_le _ _ _

end Go.Proofs.Ytdcbmeiopfdkeaa
