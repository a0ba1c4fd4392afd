/-
  The specification's small looks at a command: which fields a kind has. Nothing in memory turns.
-/
import Derived.Test.YtnchndcanhmbeaaGreatDoorGFld
import Derived.Test.YtnchndcanhmbeaaGreatDoorXEqC
namespace Go.Proofs.YtnchndcanhmbeaaGreatDoor
open Go.RowKit

theorem has_1 (w : World) : Calls Tryz.prog 39 #[.int .i64 1] w fun e w' => e = .returned (.string ⟨#[]⟩) ∧ w' = w := by
  go_enter Tryz.func39, Tryz.ntmps39
  go_wp2
  go_ret
  exact ⟨rfl, rfl⟩
theorem has_2 (w : World) : Calls Tryz.prog 39 #[.int .i64 2] w fun e w' => e = .returned (.string ⟨#[115]⟩) ∧ w' = w := by
  go_enter Tryz.func39, Tryz.ntmps39
  go_wp2
  go_ret
  exact ⟨rfl, rfl⟩
theorem has_3 (w : World) : Calls Tryz.prog 39 #[.int .i64 3] w fun e w' => e = .returned (.string ⟨#[115, 113, 97, 98]⟩) ∧ w' = w := by
  go_enter Tryz.func39, Tryz.ntmps39
  go_wp2
  go_ret
  exact ⟨rfl, rfl⟩
theorem has_4 (w : World) : Calls Tryz.prog 39 #[.int .i64 4] w fun e w' => e = .returned (.string ⟨#[115, 113, 97]⟩) ∧ w' = w := by
  go_enter Tryz.func39, Tryz.ntmps39
  go_wp2
  go_ret
  exact ⟨rfl, rfl⟩
theorem has_5 (w : World) : Calls Tryz.prog 39 #[.int .i64 5] w fun e w' => e = .returned (.string ⟨#[115, 113, 97, 111]⟩) ∧ w' = w := by
  go_enter Tryz.func39, Tryz.ntmps39
  go_wp2
  go_ret
  exact ⟨rfl, rfl⟩
theorem has_6 (w : World) : Calls Tryz.prog 39 #[.int .i64 6] w fun e w' => e = .returned (.string ⟨#[115, 113, 97, 111]⟩) ∧ w' = w := by
  go_enter Tryz.func39, Tryz.ntmps39
  go_wp2
  go_ret
  exact ⟨rfl, rfl⟩
theorem has_7 (w : World) : Calls Tryz.prog 39 #[.int .i64 7] w fun e w' => e = .returned (.string ⟨#[115, 113, 97, 111, 112]⟩) ∧ w' = w := by
  go_enter Tryz.func39, Tryz.ntmps39
  go_wp2
  go_ret
  exact ⟨rfl, rfl⟩
theorem has_8 (w : World) : Calls Tryz.prog 39 #[.int .i64 8] w fun e w' => e = .returned (.string ⟨#[115, 113, 104, 111, 112]⟩) ∧ w' = w := by
  go_enter Tryz.func39, Tryz.ntmps39
  go_wp2
  go_ret
  exact ⟨rfl, rfl⟩
theorem has_9 (w : World) : Calls Tryz.prog 39 #[.int .i64 9] w fun e w' => e = .returned (.string ⟨#[115, 113, 104, 116, 112]⟩) ∧ w' = w := by
  go_enter Tryz.func39, Tryz.ntmps39
  go_wp2
  go_ret
  exact ⟨rfl, rfl⟩
theorem has_10 (w : World) : Calls Tryz.prog 39 #[.int .i64 10] w fun e w' => e = .returned (.string ⟨#[115, 113, 104, 116]⟩) ∧ w' = w := by
  go_enter Tryz.func39, Tryz.ntmps39
  go_wp2
  go_ret
  exact ⟨rfl, rfl⟩
theorem has_11 (w : World) : Calls Tryz.prog 39 #[.int .i64 11] w fun e w' => e = .returned (.string ⟨#[]⟩) ∧ w' = w := by
  go_enter Tryz.func39, Tryz.ntmps39
  go_wp2
  go_ret
  exact ⟨rfl, rfl⟩
theorem has_no (k : Int) (w : World) (e2 : (k == 2) = false) (e3 : (k == 3) = false) (e4 : (k == 4) = false) (e5 : (k == 5) = false) (e6 : (k == 6) = false) (e7 : (k == 7) = false) (e8 : (k == 8) = false) (e9 : (k == 9) = false) (e10 : (k == 10) = false) : Calls Tryz.prog 39 #[.int .i64 k] w fun e w' => e = .returned (.string ⟨#[]⟩) ∧ w' = w := by
  go_enter Tryz.func39, Tryz.ntmps39
  go_wp2
  go_ret
  exact ⟨rfl, rfl⟩
/-- Is a sign among those? -/
def hasB8 (X : ByteArray) (f : Int) : Bool := X.data.toList.any (fun c => (c.toNat : Int) == f)
theorem hasB8_take (X : ByteArray) (f : Int) (k : Nat) (h : k < X.size) : (X.data.toList.take (k + 1)).any (fun c => (c.toNat : Int) == f) = ((X.data.toList.take k).any (fun c => (c.toNat : Int) == f) || ((X[k]'h).toNat : Int) == f) := by
  rw [List.take_succ_eq_append_getElem (by simpa using h), List.any_append]; simp; rfl
theorem hasB8_hit (X : ByteArray) (f : Int) (k : Nat) (h : k < X.size) (hf : (((X[k]'h).toNat : Int) == f) = true) : hasB8 X f = true := by
  unfold hasB8
  rw [List.any_eq_true]
  exact ⟨X[k], by show X.data[k] ∈ _; simp, hf⟩
set_option maxHeartbeats 400000 in
theorem in_any (X : ByteArray) (f : Int) (hX : X.size ≤ 100) (w : World) : Calls Tryz.prog 42 #[.string X, .int .u8 f] w fun e w' => e = .returned (.bool (hasB8 X f)) ∧ w' = w := by
  go_enter Tryz.func42, Tryz.ntmps42
  go_wp2
  go_loop [5] (fun i => ∃ k : Nat, k ≤ X.size ∧ i = .int .i64 k ∧ Hid ((X.data.toList.take k).any (fun c => (c.toNat : Int) == f) = false)) (fun i => X.size - (intOf i).toNat)
  case atStart => exact ⟨0, Nat.zero_le _, rfl, hidP (by simp)⟩
  case round =>
    obtain ⟨k, hk, rfl, HA⟩ := hrel
    by_cases hlt : k < X.size
    · cases hc : ((X[k].toNat : Int) == f)
      · have HS := hidP (hasB8_take X f k hlt)
        go_wp2
        go_round
        case rel => exact ⟨k + 1, by omega, by go_num, hidP (by rw [HS.out, HA.out, hc]; rfl)⟩
        case measure => simp [intOf]; omega
      · have HF := hidP (hasB8_hit X f k hlt hc)
        go_wp2
        go_ret
        exact ⟨ret_b HF.out.symm, rfl⟩
    · have HF : Hid (hasB8 X f = false) := hidP (by unfold hasB8; have := HA.out; rw [List.take_of_length_le (by simp; omega)] at this; exact this)
      go_wp2
      go_ret
      exact ⟨ret_b HF.out.symm, rfl⟩
def nB (i : Bool) (n most : Int) : Bool := if i = true then rB 1 n most else n == 0
set_option maxHeartbeats 400000 in
theorem num_any (X : ByteArray) (f n most : Int) (hX : X.size ≤ 100) (w : World) : Calls Tryz.prog 41 #[.string X, .int .u8 f, .int .i64 n, .int .i64 most] w fun e w' => e = .returned (.bool (nB (hasB8 X f) n most)) ∧ w' = w := by
  have HI := hidP (fun w => in_any X f hX w)
  have HR := hidP (fun w => l1InO_any n 1 most w)
  have hn1 : nB true n most = (decide (1 ≤ n) && decide (n ≤ most)) := rfl
  have hn0 : nB false n most = (n == 0) := rfl
  generalize hasB8 X f = i at *
  cases i
  · rw [hn0]
    clear hn0 hn1
    go_enter Tryz.func41, Tryz.ntmps41
    go_wp2_with (first | (go_at_call 42; refine (HI.out _).mono ?_; rintro e w' ⟨rfl, rfl⟩))
    go_ret
    exact ⟨rfl, rfl⟩
  · rw [hn1]
    clear hn0 hn1
    generalize (decide (1 ≤ n) && decide (n ≤ most)) = r at *
    go_enter Tryz.func41, Tryz.ntmps41
    go_wp2_with (first | (go_at_call 42; refine (HI.out _).mono ?_; rintro e w' ⟨rfl, rfl⟩) | (go_at_call 40; refine (HR.out _).mono ?_; rintro e w' ⟨rfl, rfl⟩))
    go_ret
    exact ⟨rfl, rfl⟩
theorem eqAd0 (a : Bool) (b c : Int) (w : World) : (Op.equalIn 10000 31 (.agg #[.bool a, .int .i64 b, .int .i64 c]) (.agg #[.bool false, .int .i64 0, .int .i64 0])).run Tryz.prog w = .ok (a == false && (b == 0 && c == 0)) w := by
  have u3 := Tryz.underlying3
  have a3 := Tryz.isAgg3
  have z3 := Tryz.sizeOf3
  have u4 := Tryz.underlying4
  have a4 := Tryz.isAgg4
  have z4 := Tryz.sizeOf4
  have hS : Tryz.prog.underlying 31 = some (.struct (Tryz.prog.fieldsOf 31)) := by kernel_rfl
  have hp : Tryz.prog.stoodInHeld 31 = false := by kernel_rfl
  rw [show (10000 : Nat) = 9999 + 1 from rfl, run_equalIn_agg w 9999 31 _ _ hS hp]
  simp only [Program.fieldsOf, Tryz.underlying31]
  go_simp
  by_cases h1 : a = false <;> by_cases h2 : b = 0 <;> by_cases h3 : c = 0 <;> simp [h1, h2, h3]
set_option maxHeartbeats 400000 in
theorem eqPf0 (a : Bool) (b c d : Int) (w : World) : (Op.equalIn 10000 33 (.agg #[.bool a, .int .i64 b, .int .i64 c, .int .i64 d]) (.agg #[.bool false, .int .i64 0, .int .i64 0, .int .i64 0])).run Tryz.prog w = .ok ((a == false && (b == 0 && c == 0)) && d == 0) w := by
  have u3 := Tryz.underlying3
  have a3 := Tryz.isAgg3
  have z3 := Tryz.sizeOf3
  have u4 := Tryz.underlying31
  have a4 := Tryz.isAgg31
  have z4 := Tryz.sizeOf31
  have hS : Tryz.prog.underlying 33 = some (.struct (Tryz.prog.fieldsOf 33)) := by kernel_rfl
  have hp : Tryz.prog.stoodInHeld 33 = false := by kernel_rfl
  have h9 := eqAd9 a b c
  generalize (a == false && (b == 0 && c == 0)) = e at *
  rw [show (10000 : Nat) = 9999 + 1 from rfl, run_equalIn_agg w 9999 33 _ _ hS hp]
  simp only [Program.fieldsOf, Tryz.underlying33]
  cases e <;> by_cases h4 : d = 0
  all_goals
    go_simp
    try simp [h4]

end Go.Proofs.YtnchndcanhmbeaaGreatDoor
