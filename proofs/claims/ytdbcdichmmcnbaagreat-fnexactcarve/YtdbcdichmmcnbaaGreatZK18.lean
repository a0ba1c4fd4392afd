/-
  Both OwnerOk: 1 to 12 bytes, each one of a to z, 0 to 9 or the dash; nothing in memory turns.
-/
import Derived.Test.YtdbcdichmmcnbaaGreatZK11
namespace Go.Proofs.YtdbcdichmmcnbaaGreat
open Go.RowKit

/-- A byte that an owner may have. -/
def obB (c : Int) : Bool := (decide (97 ≤ c) && decide (c ≤ 122)) || ((decide (48 ≤ c) && decide (c ≤ 57)) || c == 45)
theorem ret_b {a b : Bool} (h : a = b) : Ending.returned (.bool a) = .returned (.bool b) := by rw [h]
/-- The first k bytes are such. -/
def obk (s : ByteArray) (k : Nat) : Bool := (s.data.toList.take k).all (fun c => obB (c.toNat : Int))
def ownB (s : ByteArray) : Bool := (decide (1 ≤ s.size) && decide (s.size ≤ 12)) && obk s s.size

set_option maxHeartbeats 400000 in
theorem l1InO_any (a b c : Int) (w : World) :
    Calls Tryz.prog 92 #[.int .i64 a, .int .i64 b, .int .i64 c] w fun e w' => e = .returned (.bool (decide (b ≤ a) && decide (a ≤ c))) ∧ w' = w := by
  by_cases h0 : b ≤ a
  · by_cases h1 : a ≤ c
    · go_enter Tryz.func92, Tryz.ntmps92
      go_wp2
      go_ret
      exact ⟨ret_b (Eq.symm (by rw [decide_eq_true h0, decide_eq_true h1]; rfl)), rfl⟩
    · go_enter Tryz.func92, Tryz.ntmps92
      go_wp2
      go_ret
      exact ⟨ret_b (Eq.symm (by simp; omega)), rfl⟩
  · go_enter Tryz.func92, Tryz.ntmps92
    go_wp2
    go_ret
    exact ⟨ret_b (Eq.symm (by rw [decide_eq_false (by omega : ¬ b ≤ a), Bool.false_and])), rfl⟩

theorem l1InO_r (a b c : Int) (r : Bool) (h : (decide (b ≤ a) && decide (a ≤ c)) = r) (w : World) :
    Calls Tryz.prog 92 #[.int .i64 a, .int .i64 b, .int .i64 c] w fun e w' => e = .returned (.bool r) ∧ w' = w := by
  rw [← h]; exact l1InO_any a b c w

set_option maxHeartbeats 1000000 in
theorem isOwnerByte_any (c : Int) (w : World) :
    Calls Tryz.prog 83 #[.int .u8 c] w fun e w' => e = .returned (.bool (obB c)) ∧ w' = w := by
  have hv : obB c = ((decide (97 ≤ c) && decide (c ≤ 122)) || ((decide (48 ≤ c) && decide (c ≤ 57)) || c == 45)) := rfl
  rw [hv]
  clear hv
  cases h0 : decide (97 ≤ c) <;> cases h1 : decide (c ≤ 122) <;> cases h2 : decide (48 ≤ c) <;> cases h3 : decide (c ≤ 57) <;> cases h4 : (c == 45)
  all_goals
    go_enter Tryz.func83, Tryz.ntmps83
    go_wp2
    go_ret
    exact ⟨rfl, rfl⟩

theorem obk_snoc (s : ByteArray) (k : Nat) (h : k < s.size) : obk s (k + 1) = (obk s k && obB ((s[k]'h).toNat : Int)) := by
  unfold obk
  rw [List.take_succ_eq_append_getElem (by simpa using h), List.all_append, List.all_cons, List.all_nil, Bool.and_true]; rfl
theorem obk_not (s : ByteArray) (k : Nat) (h : k < s.size) (hf : obB ((s[k]'h).toNat : Int) = false) : obk s s.size = false := by
  unfold obk
  rw [List.all_eq_false]
  refine ⟨s[k], ?_, by simp [hf]⟩
  rw [List.take_of_length_le (by simp)]
  show s.data[k] ∈ _
  simp

set_option maxHeartbeats 1000000 in
theorem iOwnerOk_any (s : ByteArray) (w : World) (hs : s.size ≤ 9223372036854775807) :
    Calls Tryz.prog 34 #[.string s] w fun e w' => e = .returned (.bool (ownB s)) ∧ w' = w := by
  by_cases h1 : s.size < 1
  · have hv : ownB s = false := by simp [ownB]; omega
    rw [hv]
    go_enter Tryz.func34, Tryz.ntmps34
    go_wp2
    go_ret
    exact ⟨rfl, rfl⟩
  by_cases h2 : 12 < s.size
  · have hv : ownB s = false := by simp [ownB]; omega
    rw [hv]
    go_enter Tryz.func34, Tryz.ntmps34
    go_wp2
    go_ret
    exact ⟨rfl, rfl⟩
  have hv : ownB s = obk s s.size := by
    unfold ownB
    rw [decide_eq_true (by omega : 1 ≤ s.size), decide_eq_true (by omega : s.size ≤ 12)]; rfl
  rw [hv]
  have HV := hidP hv
  clear hv
  go_enter Tryz.func34, Tryz.ntmps34
  go_wp2
  go_loop [3, 14] (fun _ i => ∃ k : Nat, k ≤ s.size ∧ i = .int .i64 k ∧ obk s k = true) (fun _ i => s.size - (intOf i).toNat)
  case atStart => exact ⟨0, Nat.zero_le _, rfl, by unfold obk; rfl⟩
  case round =>
    obtain ⟨k, hk, rfl, hall⟩ := hrel
    have HA := hidP hall
    clear hall
    by_cases hlt : k < s.size
    · cases hc : obB (s[k].toNat : Int)
      · have HF := hidP (obk_not s k hlt hc)
        go_wp2_with (go_at_call 83; refine (isOwnerByte_any _ _).mono ?_; rintro e w' ⟨rfl, rfl⟩)
        go_ret
        exact ⟨ret_b HF.out.symm, rfl⟩
      · have HF := hidP (obk_snoc s k hlt)
        go_wp2_with (go_at_call 83; refine (isOwnerByte_any _ _).mono ?_; rintro e w' ⟨rfl, rfl⟩)
        go_round
        case rel => exact ⟨k + 1, by omega, by go_num, by rw [HF.out, HA.out, hc]; rfl⟩
        case measure => simp [intOf]; omega
    · have HF : Hid (obk s s.size = obk s k) := hidP (by rw [show k = s.size by omega])
      go_wp2
      go_ret
      exact ⟨ret_b (by rw [HF.out, HA.out]), rfl⟩

set_option maxHeartbeats 2000000 in
theorem sOwnerOk_any (s : ByteArray) (w : World) (hs : s.size ≤ 9223372036854775807) :
    Calls Tryz.prog 43 #[.string s] w fun e w' => e = .returned (.bool (ownB s)) ∧ w' = w := by
  go_enter Tryz.func43, Tryz.ntmps43
  go_wp2
  go_loop [3] (fun i => ∃ k : Nat, k ≤ s.size ∧ i = .int .i64 k ∧ obk s k = true) (fun i => s.size - (intOf i).toNat)
  case atStart => exact ⟨0, Nat.zero_le _, rfl, by unfold obk; rfl⟩
  case round =>
    obtain ⟨k, hk, rfl, hall⟩ := hrel
    have HA := hidP hall
    clear hall
    by_cases hlt : k < s.size
    · cases hc : obB (s[k].toNat : Int)
      · have HF : Hid (ownB s = false) := by
          have := obk_not s k hlt hc
          refine hidP ?_
          unfold ownB; rw [this, Bool.and_false]
        have q1 : (decide ((97 : Int) ≤ (s[k].toNat : Int)) && decide ((s[k].toNat : Int) ≤ 122)) = false := by
          revert hc; unfold obB; cases (decide ((97 : Int) ≤ (s[k].toNat : Int)) && decide ((s[k].toNat : Int) ≤ 122)) <;> simp
        have q2 : (decide ((48 : Int) ≤ (s[k].toNat : Int)) && decide ((s[k].toNat : Int) ≤ 57)) = false := by
          revert hc; unfold obB; cases (decide ((48 : Int) ≤ (s[k].toNat : Int)) && decide ((s[k].toNat : Int) ≤ 57)) <;> simp
        have hu : wrap64 (s[k].toNat : Int) = (s[k].toNat : Int) := by have := s[k].toNat_lt; rw [wrap64]; omega
        have q3 : ((s[k].toNat : Int) != 45) = true := by
          revert hc; unfold obB; rw [bne]; cases ((s[k].toNat : Int) == 45) <;> simp
        go_wp2_with (go_at_call 92; refine (l1InO_r _ _ _ _ (by first | exact q1 | exact q2) _).mono ?_; rintro e w' ⟨rfl, rfl⟩)
        go_ret
        exact ⟨ret_b HF.out.symm, rfl⟩
      · have HF := hidP (obk_snoc s k hlt)
        have hu : wrap64 (s[k].toNat : Int) = (s[k].toNat : Int) := by have := s[k].toNat_lt; rw [wrap64]; omega
        cases q1 : (decide ((97 : Int) ≤ (s[k].toNat : Int)) && decide ((s[k].toNat : Int) ≤ 122))
        · cases q2 : (decide ((48 : Int) ≤ (s[k].toNat : Int)) && decide ((s[k].toNat : Int) ≤ 57))
          · have q3 : ((s[k].toNat : Int) != 45) = false := by
              revert hc; unfold obB; rw [q1, q2, bne]; cases ((s[k].toNat : Int) == 45) <;> simp
            go_wp2_with (go_at_call 92; refine (l1InO_r _ _ _ _ (by first | exact q1 | exact q2) _).mono ?_; rintro e w' ⟨rfl, rfl⟩)
            go_round
            case rel => exact ⟨k + 1, by omega, by go_num, by rw [HF.out, HA.out, hc]; rfl⟩
            case measure => simp [intOf]; omega
          · go_wp2_with (go_at_call 92; refine (l1InO_r _ _ _ _ (by first | exact q1 | exact q2) _).mono ?_; rintro e w' ⟨rfl, rfl⟩)
            go_round
            case rel => exact ⟨k + 1, by omega, by go_num, by rw [HF.out, HA.out, hc]; rfl⟩
            case measure => simp [intOf]; omega
        · go_wp2_with (go_at_call 92; refine (l1InO_r _ _ _ _ (by first | exact q1 | exact q2) _).mono ?_; rintro e w' ⟨rfl, rfl⟩)
          go_round
          case rel => exact ⟨k + 1, by omega, by go_num, by rw [HF.out, HA.out, hc]; rfl⟩
          case measure => simp [intOf]; omega
    · have HF : Hid (ownB s = (decide ((1 : Int) ≤ (s.size : Int)) && decide ((s.size : Int) ≤ 12))) := by
        have hke : k = s.size := by omega
        refine hidP ?_
        unfold ownB
        rw [← hke, HA.out, Bool.and_true]
        congr 1 <;> exact decide_eq_decide.mpr (by omega)
      go_wp2_with (go_at_call 92; refine (l1InO_any _ _ _ _).mono ?_; rintro e w' ⟨rfl, rfl⟩)
      go_ret
      exact ⟨ret_b HF.out.symm, rfl⟩

end Go.Proofs.YtdbcdichmmcnbaaGreat
