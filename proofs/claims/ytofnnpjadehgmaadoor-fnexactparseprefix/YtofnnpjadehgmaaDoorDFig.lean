/-
  The specification's figures of a number, digit by digit, and its groups of an address; memory stays as it was.
-/
import Derived.Test.YtofnnpjadehgmaaDoorDFmt
import Derived.Deep.QuietTactic
import Derived.BigQuiet
namespace Go.Proofs.YtofnnpjadehgmaaDoor
open Go.RowKit

theorem sl16 (k : Int) (h0 : 0 ≤ k) (h1 : k < 16) (w : World) : (Instr.slice 9 (.string ⟨#[48, 49, 50, 51, 52, 53, 54, 55, 56, 57, 97, 98, 99, 100, 101, 102]⟩) (some (.int .u64 k)) (some (.int .u64 (k + 1))) none).run Tryd.prog w = .ok (.string ⟨#[hexb k.toNat]⟩) w := by
  rcases below16 k h0 h1 with rfl | rfl | rfl | rfl | rfl | rfl | rfl | rfl | rfl | rfl | rfl | rfl | rfl | rfl | rfl | rfl <;> kernel_rfl

set_option maxHeartbeats 400000 in
theorem fig_one (x b : Int) (h0 : 0 ≤ x) (h1 : x < b) (hb : b ≤ 16) (w : World) :
    Calls Tryd.prog 54 #[.int .u64 x, .int .u64 b] w fun e w' => e = .returned (.string ⟨[hexb x.toNat].toArray⟩) ∧ ∃ n, w' = w.drewN n := by
  have sl := sl16 x h0 (by omega)
  go_enter Tryd.func54, Tryd.ntmps54
  go_wp2
  go_ret
  exact ⟨rfl, 0, by simp [World.drewN_zero]⟩

theorem ba_app (a b : List UInt8) : (⟨a.toArray⟩ : ByteArray) ++ (⟨b.toArray⟩ : ByteArray) = ⟨(a ++ b).toArray⟩ := by
  apply ByteArray.ext; simp
theorem ret_ba {a b : ByteArray} (h : a = b) : Ending.returned (.string a) = .returned (.string b) := by rw [h]

set_option maxHeartbeats 400000 in
theorem fig_more16 (x : Int) (h1 : 16 ≤ x) (hx : x < 65536) (s : List UInt8) (hs : s.length ≤ 10)
    (hrec : Hid (∀ w : World, Calls Tryd.prog 54 #[.int .u64 (x / 16), .int .u64 16] w fun e w' => e = .returned (.string ⟨s.toArray⟩) ∧ ∃ n, w' = w.drewN n)) (w : World) :
    Calls Tryd.prog 54 #[.int .u64 x, .int .u64 16] w fun e w' => e = .returned (.string ⟨(s ++ [hexb (x % 16).toNat]).toArray⟩) ∧ ∃ n, w' = w.drewN n := by
  have sl := sl16 (x % 16) (by omega) (by omega)
  go_enter Tryd.func54, Tryd.ntmps54
  go_wp2
  go_quiet ((go_at_call 54; exact Calls.quiet_of (hrec.out _)))
  go_wp2
  go_ret
  exact ⟨ret_ba (ba_app s [_]), nq, rfl⟩

set_option maxHeartbeats 400000 in
theorem fig_more10 (x : Int) (h1 : 10 ≤ x) (hx : x < 65536) (s : List UInt8) (hs : s.length ≤ 10)
    (hrec : Hid (∀ w : World, Calls Tryd.prog 54 #[.int .u64 (x / 10), .int .u64 10] w fun e w' => e = .returned (.string ⟨s.toArray⟩) ∧ ∃ n, w' = w.drewN n)) (w : World) :
    Calls Tryd.prog 54 #[.int .u64 x, .int .u64 10] w fun e w' => e = .returned (.string ⟨(s ++ [hexb (x % 10).toNat]).toArray⟩) ∧ ∃ n, w' = w.drewN n := by
  have sl := sl16 (x % 10) (by omega) (by omega)
  go_enter Tryd.func54, Tryd.ntmps54
  go_wp2
  go_quiet ((go_at_call 54; exact Calls.quiet_of (hrec.out _)))
  go_wp2
  go_ret
  exact ⟨ret_ba (ba_app s [_]), nq, rfl⟩

theorem fig16 (x : Int) (h0 : 0 ≤ x) (h1 : x < 65536) (w : World) :
    Calls Tryd.prog 54 #[.int .u64 x, .int .u64 16] w fun e w' => e = .returned (.string ⟨(hexs x).toArray⟩) ∧ ∃ n, w' = w.drewN n := by
  unfold hexs
  split
  · exact fig_one x 16 h0 (by omega) (by omega) w
  split
  · exact fig_more16 x (by omega) h1 (l0 (x / 16)) (by simp [l0]) (fun w => fig_one (x / 16) 16 (by omega) (by omega) (by omega) w) w
  split
  · exact fig_more16 x (by omega) h1 (l1 (x / 16)) (by simp [l1]) (fun w => fig_more16 (x / 16) (by omega) (by omega) (l0 (x / 16 / 16)) (by simp [l0]) (fun w => fig_one (x / 16 / 16) 16 (by omega) (by omega) (by omega) w) w) w
  · exact fig_more16 x (by omega) h1 (l2 (x / 16)) (by simp [l2]) (fun w => fig_more16 (x / 16) (by omega) (by omega) (l1 (x / 16 / 16)) (by simp [l1]) (fun w => fig_more16 (x / 16 / 16) (by omega) (by omega) (l0 (x / 16 / 16 / 16)) (by simp [l0]) (fun w => fig_one (x / 16 / 16 / 16) 16 (by omega) (by omega) (by omega) w) w) w) w

/-- The decimal digits of a number below 256. -/
def decs (x : Int) : List UInt8 := if x < 10 then [hexb x.toNat] else if x < 100 then [hexb (x / 10).toNat] ++ [hexb (x % 10).toNat] else ([hexb (x / 10 / 10).toNat] ++ [hexb (x / 10 % 10).toNat]) ++ [hexb (x % 10).toNat]

theorem fig10 (x : Int) (h0 : 0 ≤ x) (h1 : x < 256) (w : World) :
    Calls Tryd.prog 54 #[.int .u64 x, .int .u64 10] w fun e w' => e = .returned (.string ⟨(decs x).toArray⟩) ∧ ∃ n, w' = w.drewN n := by
  unfold decs
  split
  · exact fig_one x 10 h0 (by omega) (by omega) w
  split
  · exact fig_more10 x (by omega) (by omega) _ (by simp) (fun w => fig_one (x / 10) 10 (by omega) (by omega) (by omega) w) w
  · exact fig_more10 x (by omega) (by omega) _ (by simp) (fun w => fig_more10 (x / 10) (by omega) (by omega) _ (by simp) (fun w => fig_one (x / 10 / 10) 10 (by omega) (by omega) (by omega) w) w) w

theorem uw (x : Int) : 0 ≤ IntKind.u64.wrap x ∧ IntKind.u64.wrap x < 18446744073709551616 := by rw [IntKind.wrap_u64]; omega
theorem and16 (u : Int) (h0 : 0 ≤ u) (h1 : u < 18446744073709551616) : bits .and .u64 u 65535 = u % 65536 := by
  obtain ⟨n, rfl⟩ := Int.eq_ofNat_of_zero_le h0
  rw [u64_and _ _ (by omega) (by omega) (by omega) (by omega)]
  have : (65535 : Int).toNat = 2 ^ 16 - 1 := by decide
  rw [this, Int.toNat_natCast, Nat.and_two_pow_sub_one_eq_mod]
  omega

/-- The eight groups of an address of 128 bits. -/
def grp (H L : Int) : Nat → Int
  | 0 => IntKind.u64.wrap H / 281474976710656 % 65536
  | 1 => IntKind.u64.wrap H / 4294967296 % 65536
  | 2 => IntKind.u64.wrap H / 65536 % 65536
  | 3 => IntKind.u64.wrap H % 65536
  | 4 => IntKind.u64.wrap L / 281474976710656 % 65536
  | 5 => IntKind.u64.wrap L / 4294967296 % 65536
  | 6 => IntKind.u64.wrap L / 65536 % 65536
  | 7 => IntKind.u64.wrap L % 65536
  | _ => 0
theorem grp_bd (H L : Int) (i : Nat) : 0 ≤ grp H L i ∧ grp H L i < 65536 := by
  unfold grp; split <;> omega

set_option maxHeartbeats 2000000 in
theorem grp_any (S : Bool) (H L : Int) (i : Nat) (hi : i < 8) (w : World) :
    Calls Tryd.prog 55 #[.agg #[.bool S, .int .i64 H, .int .i64 L], .int .i64 i] w fun e w' => e = .returned (.int .u64 (grp H L i)) ∧ Below w.heap.size w w' := by
  have hh : i = 0 ∨ i = 1 ∨ i = 2 ∨ i = 3 ∨ i = 4 ∨ i = 5 ∨ i = 6 ∨ i = 7 := by omega
  rcases hh with rfl | rfl | rfl | rfl | rfl | rfl | rfl | rfl
  · have nn := and16 (IntKind.u64.wrap H / 281474976710656) (by have := uw H; omega) (by have := uw H; omega)
    go_enter Tryd.func55, Tryd.ntmps55
    go_wp2
    go_ret
    exact ⟨rfl, (Below.refl _ w).alloc (Nat.le_refl _) _⟩
  · have nn := and16 (IntKind.u64.wrap H / 4294967296) (by have := uw H; omega) (by have := uw H; omega)
    go_enter Tryd.func55, Tryd.ntmps55
    go_wp2
    go_ret
    exact ⟨rfl, (Below.refl _ w).alloc (Nat.le_refl _) _⟩
  · have nn := and16 (IntKind.u64.wrap H / 65536) (by have := uw H; omega) (by have := uw H; omega)
    go_enter Tryd.func55, Tryd.ntmps55
    go_wp2
    go_ret
    exact ⟨rfl, (Below.refl _ w).alloc (Nat.le_refl _) _⟩
  · have nn := and16 (IntKind.u64.wrap H) (by have := uw H; omega) (by have := uw H; omega)
    go_enter Tryd.func55, Tryd.ntmps55
    go_wp2
    go_ret
    exact ⟨rfl, (Below.refl _ w).alloc (Nat.le_refl _) _⟩
  · have nn := and16 (IntKind.u64.wrap L / 281474976710656) (by have := uw L; omega) (by have := uw L; omega)
    go_enter Tryd.func55, Tryd.ntmps55
    go_wp2
    go_ret
    exact ⟨rfl, (Below.refl _ w).alloc (Nat.le_refl _) _⟩
  · have nn := and16 (IntKind.u64.wrap L / 4294967296) (by have := uw L; omega) (by have := uw L; omega)
    go_enter Tryd.func55, Tryd.ntmps55
    go_wp2
    go_ret
    exact ⟨rfl, (Below.refl _ w).alloc (Nat.le_refl _) _⟩
  · have nn := and16 (IntKind.u64.wrap L / 65536) (by have := uw L; omega) (by have := uw L; omega)
    go_enter Tryd.func55, Tryd.ntmps55
    go_wp2
    go_ret
    exact ⟨rfl, (Below.refl _ w).alloc (Nat.le_refl _) _⟩
  · have nn := and16 (IntKind.u64.wrap L) (by have := uw L; omega) (by have := uw L; omega)
    go_enter Tryd.func55, Tryd.ntmps55
    go_wp2
    go_ret
    exact ⟨rfl, (Below.refl _ w).alloc (Nat.le_refl _) _⟩

end Go.Proofs.YtofnnpjadehgmaaDoor
