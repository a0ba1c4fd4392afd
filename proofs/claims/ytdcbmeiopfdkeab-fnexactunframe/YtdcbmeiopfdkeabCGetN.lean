/-
  Both GetNum answer what the plain reading says, wherever they are asked to read.
-/
import Derived.Test.YtdcbmeiopfdkeabCAtI
namespace Go.Proofs.Ytdcbmeiopfdkeab
open Go.RowKit

set_option maxHeartbeats 1000000 in
theorem sGetNum_neg (a : Option Addr) (n cap : Nat) (at' : Int) (w : World) (h : at' < 0) :
    Calls Try.prog 27 #[.slice a n cap, .int .i64 at'] w fun e w' => e = .returned (.tuple #[.int .i64 0, .int .i64 0, .bool false]) ∧ w = w' := by
  go_enter Try.func27, Try.ntmps27
  go_wp2
  exact bodyPost_ret (v := .tuple #[.int .i64 0, .int .i64 0, .bool false]) (by simp [results, Try.results27, go_sem]) rfl ⟨rfl, rfl⟩

theorem sGetNum_all (a : Option Addr) (cap : Nat) (zs : List Int) (at' : Int) (w : World) (hB : Byt w a zs) (ho : Oct zs) (hl : zs.length ≤ 9000000000) (ha : at' ≤ 9223372036854775807) :
    Calls Try.prog 27 #[.slice a zs.length cap, .int .i64 at'] w fun e w' => e = .returned (gnV zs at') ∧ w = w' := by
  by_cases h : at' < 0
  · rw [gnV_neg h]; exact sGetNum_neg a _ cap at' w h
  · obtain ⟨k, rfl⟩ := Int.eq_ofNat_of_zero_le (show 0 ≤ at' by omega)
    exact sGetNum_any a cap zs k w hB ho hl (by omega)

theorem sGetNum_b (a : Option Addr) (cap : Nat) (zs : List Int) (at' : Int) (w : World) (hB : Byt w a zs) (ho : Oct zs) (hl : zs.length ≤ 9000000000) (ha : at' ≤ 9223372036854775807) :
    Calls Try.prog 27 #[.slice a zs.length cap, .int .i64 at'] w fun e w' => e = .returned (gnV zs at') ∧ Below w.heap.size w w' :=
  (sGetNum_all a cap zs at' w hB ho hl ha).mono fun _ _ h => ⟨h.1, below_eq h.2⟩

theorem gnV_form (zs : List Int) (a : Int) : ∃ (p q : Int) (r : Bool), gnV zs a = .tuple #[.int .i64 p, .int .i64 q, .bool r] := by
  unfold gnV; split
  · exact ⟨_, _, _, rfl⟩
  · split
    · exact ⟨_, _, _, rfl⟩
    · exact ⟨_, _, _, rfl⟩

end Go.Proofs.Ytdcbmeiopfdkeab
