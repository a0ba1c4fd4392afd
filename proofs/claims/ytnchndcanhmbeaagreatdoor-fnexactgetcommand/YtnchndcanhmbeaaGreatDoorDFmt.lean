/-
  The library's FormatInt at base 16, for the numbers 0 to 65535: their digits; nothing old in memory turns.
-/
import Derived.Test.YtnchndcanhmbeaaGreatDoorRows
import Derived.WalkKit
import Derived.WalkSpells
import Derived.WalkLawsBesides
import Derived.Lib.ItoaMem
namespace Go.Proofs.YtnchndcanhmbeaaGreatDoor
open Go.RowKit

set_option maxHeartbeats 400000 in
theorem tz16 (w : World) (ht : w.cell? ⟨2, 15, none⟩ = some (.int .u8 4)) :
    Calls Tryz.prog 116 #[.int .u64 16] w fun e w' => e = .returned (.int .i64 4) ∧ w' = w := by
  have e1 : bits .and .u64 16 (IntKind.u64.wrap (-16)) = 16 := by decide +kernel
  go_enter Tryz.func116, Tryz.ntmps116
  go_wp2
  go_ret
  exact ⟨rfl, rfl⟩

set_option maxHeartbeats 400000 in
theorem pow16 (w : World) :
    Calls Tryz.prog 115 #[.int .i64 16] w fun e w' => e = .returned (.bool true) ∧ w' = w := by
  go_enter Tryz.func115, Tryz.ntmps115
  go_wp2
  go_ret
  exact ⟨rfl, rfl⟩

/-- The sign of a digit. -/
def hexb (k : Nat) : UInt8 := if k < 10 then (48 + k).toUInt8 else (87 + k).toUInt8
/-- The same, as a cell holds it. -/
def dg (k : Int) : Int := ((hexb k.toNat).toNat : Int)
def z65 : Array Value := Array.replicate 65 (.int .u8 0)

theorem zv65 (w : World) : (zeroValue 184).run Tryz.prog w = .ok (.agg z65) w := by kernel_rfl

theorem below16 (k : Int) (h0 : 0 ≤ k) (h1 : k < 16) : k = 0 ∨ k = 1 ∨ k = 2 ∨ k = 3 ∨ k = 4 ∨ k = 5 ∨ k = 6 ∨ k = 7 ∨ k = 8 ∨ k = 9 ∨ k = 10 ∨ k = 11 ∨ k = 12 ∨ k = 13 ∨ k = 14 ∨ k = 15 := by omega

theorem ix36 (k : Int) (h0 : 0 ≤ k) (h1 : k < 16) (w : World) : (Instr.index 9 (.string ⟨#[48, 49, 50, 51, 52, 53, 54, 55, 56, 57, 97, 98, 99, 100, 101, 102, 103, 104, 105, 106, 107, 108, 109, 110, 111, 112, 113, 114, 115, 116, 117, 118, 119, 120, 121, 122]⟩) (.int .u64 k)).run Tryz.prog w = .ok (.int .u8 (dg k)) w := by
  rcases below16 k h0 h1 with rfl | rfl | rfl | rfl | rfl | rfl | rfl | rfl | rfl | rfl | rfl | rfl | rfl | rfl | rfl | rfl <;> kernel_rfl

theorem and15 (u : Int) (h0 : 0 ≤ u) (h1 : u < 65536) : bits .and .u64 u 15 = u % 16 := by
  obtain ⟨n, rfl⟩ := Int.eq_ofNat_of_zero_le h0
  rw [u64_and _ _ (by omega) (by omega) (by omega) (by omega)]
  have : (15 : Int).toNat = 2 ^ 4 - 1 := by decide
  rw [this, Int.toNat_natCast, Nat.and_two_pow_sub_one_eq_mod]
  omega

/-- The new block behind no, one, two, three digits. -/
def r0 : Array Value := z65
def r1 (u : Int) : Array Value := r0.setIfInBounds 64 (.int .u8 (dg (u % 16)))
def r2 (u : Int) : Array Value := (r1 u).setIfInBounds 63 (.int .u8 (dg (u / 16 % 16)))
def r3 (u : Int) : Array Value := (r2 u).setIfInBounds 62 (.int .u8 (dg (u / 16 / 16 % 16)))
/-- The digits of a number below 65536, the weightiest first: so many as it has. -/
def l0 (u : Int) : List UInt8 := [hexb u.toNat]
def l1 (u : Int) : List UInt8 := [hexb (u / 16).toNat, hexb (u % 16).toNat]
def l2 (u : Int) : List UInt8 := [hexb (u / 16 / 16).toNat, hexb (u / 16 % 16).toNat, hexb (u % 16).toNat]
def l3 (u : Int) : List UInt8 := [hexb (u / 16 / 16 / 16).toNat, hexb (u / 16 / 16 % 16).toNat, hexb (u / 16 % 16).toNat, hexb (u % 16).toNat]
def hexs (u : Int) : List UInt8 := if u < 16 then l0 u else if u < 256 then l1 u else if u < 4096 then l2 u else l3 u

theorem cvt (w : World) (arr : Array Value) (p n : Nat) (l : List UInt8) (hc : ∀ j (hj : j < l.length), arr[p + j]? = some (.int .u8 (l[j].toNat : Int))) (hn : n = l.length) :
    (convert 29 9 (.slice (some ⟨w.heap.size, p, none⟩) n n)).run Tryz.prog (w.alloc (.cells arr 184)) = .ok (.string ⟨l.toArray⟩) (w.alloc (.cells arr 184)) := by
  subst hn
  exact run_convert_bytes_back (P := Tryz.prog) (w.alloc (.cells arr 184)) 29 9 5 ⟨w.heap.size, p, none⟩ l.length l Tryz.underlying29 Tryz.underlying5 Tryz.underlying9 (fun j hj => by
    rw [Lib.add_plain, World.cell?_alloc_new]; exact hc j hj)

theorem c0 (u : Int) : ∀ j (hj : j < (l0 u).length), (r0.setIfInBounds 64 (.int .u8 (dg u)))[64 + j]? = some (.int .u8 ((l0 u)[j].toNat : Int)) := fun j hj => by
  obtain rfl : j = 0 := by simp [l0] at hj; omega
  simp [l0, dg, r0, z65]
theorem c1 (u : Int) : ∀ j (hj : j < (l1 u).length), ((r1 u).setIfInBounds 63 (.int .u8 (dg (u / 16))))[63 + j]? = some (.int .u8 ((l1 u)[j].toNat : Int)) := fun j hj => by
  have h : j = 0 ∨ j = 1 := by simp [l1] at hj; omega
  rcases h with rfl | rfl <;> simp [l1, dg, r1, r0, z65]
theorem c2 (u : Int) : ∀ j (hj : j < (l2 u).length), ((r2 u).setIfInBounds 62 (.int .u8 (dg (u / 16 / 16))))[62 + j]? = some (.int .u8 ((l2 u)[j].toNat : Int)) := fun j hj => by
  have h : j = 0 ∨ j = 1 ∨ j = 2 := by simp [l2] at hj; omega
  rcases h with rfl | rfl | rfl <;> simp [l2, dg, r2, r1, r0, z65]
theorem c3 (u : Int) : ∀ j (hj : j < (l3 u).length), ((r3 u).setIfInBounds 61 (.int .u8 (dg (u / 16 / 16 / 16))))[61 + j]? = some (.int .u8 ((l3 u)[j].toNat : Int)) := fun j hj => by
  have h : j = 0 ∨ j = 1 ∨ j = 2 ∨ j = 3 := by simp [l3] at hj; omega
  rcases h with rfl | rfl | rfl | rfl <;> simp [l3, dg, r3, r2, r1, r0, z65]

theorem ret_str {v : Value} {a b : List UInt8} (h : a = b) : Ending.returned (.tuple #[v, .string ⟨a.toArray⟩]) = .returned (.tuple #[v, .string ⟨b.toArray⟩]) := by rw [h]

set_option maxRecDepth 100000 in
set_option maxHeartbeats 2000000 in
theorem fb16 (u : Int) (h0 : 0 ≤ u) (h1 : u < 65536) (w : World) (ht : ∀ o1, (w.alloc o1).cell? ⟨2, 15, none⟩ = some (.int .u8 4)) :
    Calls Tryz.prog 107 #[.slice none 0 0, .int .u64 u, .int .i64 16, .bool false, .bool false] w fun e w' => e = .returned (.tuple #[.slice none 0 0, .string ⟨(hexs u).toArray⟩]) ∧ Below w.heap.size w w' := by
  have zv := zv65
  have n0 := and15 u h0 h1
  have n1 := and15 (u / 16) (by omega) (by omega)
  have n2 := and15 (u / 16 / 16) (by omega) (by omega)
  have i0 := ix36 (u % 16) (by omega) (by omega)
  have i1 := ix36 (u / 16 % 16) (by omega) (by omega)
  have i2 := ix36 (u / 16 / 16 % 16) (by omega) (by omega)
  go_enter Tryz.func107, Tryz.ntmps107
  go_wp2_with (first | (go_at_call 115; refine (pow16 _).mono ?_; rintro e w' ⟨rfl, rfl⟩) | (go_at_call 116; refine (tz16 _ (ht _)).mono ?_; rintro e w' ⟨rfl, rfl⟩))
  go_loopw [1, 13] (fun t1 t13 x => (t1 = .int .u64 u ∧ t13 = .int .i64 65 ∧ x = w.alloc (.cells r0 184))
    ∨ (16 ≤ u ∧ t1 = .int .u64 (u / 16) ∧ t13 = .int .i64 64 ∧ x = w.alloc (.cells (r1 u) 184))
    ∨ (256 ≤ u ∧ t1 = .int .u64 (u / 16 / 16) ∧ t13 = .int .i64 63 ∧ x = w.alloc (.cells (r2 u) 184))
    ∨ (4096 ≤ u ∧ t1 = .int .u64 (u / 16 / 16 / 16) ∧ t13 = .int .i64 62 ∧ x = w.alloc (.cells (r3 u) 184))) (fun t1 _ _ => (intOf t1).toNat)
  case atStart => exact Or.inl ⟨rfl, rfl, rfl⟩
  case round =>
    rcases hrel with ⟨rfl, rfl, rfl⟩ | ⟨hu, rfl, rfl, rfl⟩ | ⟨hu, rfl, rfl, rfl⟩ | ⟨hu, rfl, rfl, rfl⟩
    · by_cases h16 : u < 16
      · have j0 := ix36 u (by omega) h16
        have cv := cvt w ((r0).setIfInBounds 64 (.int .u8 (dg u))) 64 1 (l0 u) (c0 u) rfl
        have HE : Hid (hexs u = l0 u) := by show hexs u = l0 u; unfold hexs; rw [if_pos (by omega)]
        go_wp2
        go_ret2
        exact ⟨ret_str HE.out.symm, (Below.refl _ w).alloc (Nat.le_refl _) _⟩
      · go_wp2
        refine ⟨Or.inr (Or.inl ⟨by omega, rfl, rfl, rfl⟩), ?_⟩
        simp only [intOf]
        omega
    · by_cases h16 : (u / 16) < 16
      · have j0 := ix36 (u / 16) (by omega) h16
        have cv := cvt w ((r1 u).setIfInBounds 63 (.int .u8 (dg (u / 16)))) 63 2 (l1 u) (c1 u) rfl
        have HE : Hid (hexs u = l1 u) := by show hexs u = l1 u; unfold hexs; rw [if_neg (by omega), if_pos (by omega)]
        go_wp2
        go_ret2
        exact ⟨ret_str HE.out.symm, (Below.refl _ w).alloc (Nat.le_refl _) _⟩
      · go_wp2
        refine ⟨Or.inr (Or.inr (Or.inl ⟨by omega, rfl, rfl, rfl⟩)), ?_⟩
        simp only [intOf]
        omega
    · by_cases h16 : (u / 16 / 16) < 16
      · have j0 := ix36 (u / 16 / 16) (by omega) h16
        have cv := cvt w ((r2 u).setIfInBounds 62 (.int .u8 (dg (u / 16 / 16)))) 62 3 (l2 u) (c2 u) rfl
        have HE : Hid (hexs u = l2 u) := by show hexs u = l2 u; unfold hexs; rw [if_neg (by omega), if_neg (by omega), if_pos (by omega)]
        go_wp2
        go_ret2
        exact ⟨ret_str HE.out.symm, (Below.refl _ w).alloc (Nat.le_refl _) _⟩
      · go_wp2
        refine ⟨Or.inr (Or.inr (Or.inr (⟨by omega, rfl, rfl, rfl⟩))), ?_⟩
        simp only [intOf]
        omega
    · have h16 : u / 16 / 16 / 16 < 16 := by omega
      have j0 := ix36 (u / 16 / 16 / 16) (by omega) h16
      have cv := cvt w ((r3 u).setIfInBounds 61 (.int .u8 (dg (u / 16 / 16 / 16)))) 61 4 (l3 u) (c3 u) rfl
      have HE : Hid (hexs u = l3 u) := by show hexs u = l3 u; unfold hexs; rw [if_neg (by omega), if_neg (by omega), if_neg (by omega)]
      go_wp2
      go_ret2
      exact ⟨ret_str HE.out.symm, (Below.refl _ w).alloc (Nat.le_refl _) _⟩

set_option maxHeartbeats 400000 in
theorem ifmt16 (u : Int) (h0 : 0 ≤ u) (h1 : u < 65536) (w : World) (ht : ∀ o1, (w.alloc o1).cell? ⟨2, 15, none⟩ = some (.int .u8 4)) :
    Calls Tryz.prog 100 #[.int .i64 u, .int .i64 16] w fun e w' => e = .returned (.string ⟨(hexs u).toArray⟩) ∧ Below w.heap.size w w' := by
  have hd : decide (u < 0) = false := by simp; omega
  go_enter Tryz.func100, Tryz.ntmps100
  go_wp2_with fail
  refine (fb16 u h0 h1 _ ht).mono ?_
  rintro e w1 ⟨rfl, hb⟩
  go_wp2
  go_ret
  exact ⟨rfl, hb⟩

set_option maxHeartbeats 400000 in
theorem fmt16 (u : Int) (h0 : 0 ≤ u) (h1 : u < 65536) (w : World) (ht : ∀ o1, (w.alloc o1).cell? ⟨2, 15, none⟩ = some (.int .u8 4)) :
    Calls Tryz.prog 102 #[.int .i64 u, .int .i64 16] w fun e w' => e = .returned (.string ⟨(hexs u).toArray⟩) ∧ Below w.heap.size w w' := by
  go_enter Tryz.func102, Tryz.ntmps102
  go_wp2_with fail
  refine (ifmt16 u h0 h1 _ ht).mono ?_
  rintro e w1 ⟨rfl, hb⟩
  go_wp2
  go_ret
  exact ⟨rfl, hb⟩

end Go.Proofs.YtnchndcanhmbeaaGreatDoor
