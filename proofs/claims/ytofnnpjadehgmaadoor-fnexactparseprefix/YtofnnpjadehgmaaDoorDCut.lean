/-
  The text of a right prefix, cut at its stroke; the library's reading of a number below 129: plain.
-/
import Derived.Test.YtofnnpjadehgmaaDoorDPp
import Derived.Lib.AtoiAll
import Derived.Lib.CutLaws
namespace Go.Proofs.YtofnnpjadehgmaaDoor

theorem index47 : ∀ (a r : List UInt8), (47 : UInt8) ∉ a → Lib.index (a ++ 47 :: r) [47] = a.length
  | [], r, _ => by simp [Lib.index, List.isPrefixOf]
  | c :: a, r, h => by
    simp only [List.mem_cons, not_or] at h
    have ih := index47 a r h.2
    have hc : ((47 : UInt8) == c) = false := by simpa using h.1
    rw [List.cons_append, Lib.index, if_neg (by simp [List.isPrefixOf, hc]), ih, if_neg (by simp), List.length_cons]
    omega
theorem cut47 (a r : List UInt8) (h : (47 : UInt8) ∉ a) : Lib.cut (a ++ 47 :: r) [47] = (a, r, true) := by
  unfold Lib.cut
  rw [index47 a r h, if_pos (by omega)]
  simp
theorem isP_cut {l : List UInt8} {S : Bool} {H L : BitVec 64} {b : Int} (h : IsP l S H L b) : Lib.cut l [47] = (tA S H.toInt L.toInt, decs b, true) := by
  rw [h.2, List.append_assoc]
  exact cut47 _ _ (tA_no47 _ _ _)
theorem atoi_decsN : ∀ b : Nat, b < 129 → Lib.atoiAll (decs (b : Int)) = .ok (b : Int) := by decide +kernel
theorem atoi_decs (b : Int) (h0 : 0 ≤ b) (h1 : b ≤ 128) : Lib.atoiAll (decs b) = .ok b := by
  obtain ⟨k, rfl⟩ : ∃ k : Nat, b = (k : Int) := ⟨b.toNat, by omega⟩
  exact atoi_decsN k (by omega)

end Go.Proofs.YtofnnpjadehgmaaDoor
