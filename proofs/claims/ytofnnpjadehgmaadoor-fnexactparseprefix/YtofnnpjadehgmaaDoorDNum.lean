/-
  The specification's reading of a number, by its plain twin; nothing in memory turns.
-/
import Derived.Test.YtofnnpjadehgmaaDoorDPm
import Derived.Test.YtofnnpjadehgmaaDoorPRow
namespace Go.Proofs.YtofnnpjadehgmaaDoor
open Go.RowKit

theorem retB {a b : Bool} (h : a = b) : Ending.returned (.bool a) = .returned (.bool b) := by rw [h]
theorem nm_nn (base : Int) (hb : 0 ≤ base) : ∀ (l : List UInt8) (n r : Int), 0 ≤ n → nm base l n = some r → 0 ≤ r
  | [], n, r, h, e => by simp [nm] at e; omega
  | c :: l, n, r, h, e => by
      rw [nm] at e
      split at e
      · rename_i hk
        have : 0 ≤ dgv (c.toNat : Int) := by unfold dgk at hk; simp at hk; exact hk.1
        exact nm_nn base hb l _ r (by have := Int.mul_nonneg h hb; omega) e
      · cases e
theorem nmbB_bd (base most : Int) (hb : 0 ≤ base) (l : List UInt8) (n : Int) (h : nmbB base most l = some n) : 0 ≤ n ∧ n ≤ most := by
  unfold nmbB at h
  split at h
  · cases h
  · cases e : nm base l 0 with
    | none => rw [e] at h; cases h
    | some r =>
      rw [e, Option.bind_some] at h
      split at h
      · cases h; exact ⟨nm_nn base hb l 0 _ (by omega) e, by assumption⟩
      · cases h
theorem at_k (s : ByteArray) (k : Nat) (h : k < s.size) : s.data.toList.drop k = s[k] :: s.data.toList.drop (k + 1) := by
  have hl : k < s.data.toList.length := by simpa using h
  rw [List.drop_eq_getElem_cons hl]; rfl
theorem nm_no (base : Int) (c : UInt8) (r : List UInt8) (n : Int) (h : dgk c.toNat base = false) : nm base (c :: r) n = none := by rw [nm, h]; rfl
theorem nm_yes (base : Int) (c : UInt8) (r : List UInt8) (n : Int) (h : dgk c.toNat base = true) : nm base (c :: r) n = nm base r (n * base + dgv c.toNat) := by rw [nm, if_pos h]

set_option maxHeartbeats 400000 in
theorem l1InN_any (a b c : Int) (w : World) :
    Calls Tryd.prog 25 #[.int .i64 a, .int .i64 b, .int .i64 c] w fun e w' => e = .returned (.bool (decide (b ≤ a) && decide (a ≤ c))) ∧ w' = w := by
  by_cases h0 : b ≤ a
  · by_cases h1 : a ≤ c
    · go_enter Tryd.func25, Tryd.ntmps25
      go_wp2
      go_ret
      exact ⟨retB (Eq.symm (by rw [decide_eq_true h0, decide_eq_true h1]; rfl)), rfl⟩
    · go_enter Tryd.func25, Tryd.ntmps25
      go_wp2
      go_ret
      exact ⟨retB (Eq.symm (by simp; omega)), rfl⟩
  · go_enter Tryd.func25, Tryd.ntmps25
    go_wp2
    go_ret
    exact ⟨retB (Eq.symm (by rw [decide_eq_false (by omega : ¬ b ≤ a), Bool.false_and])), rfl⟩
theorem l1InN_r (a b c : Int) (r : Bool) (h : (decide (b ≤ a) && decide (a ≤ c)) = r) (w : World) :
    Calls Tryd.prog 25 #[.int .i64 a, .int .i64 b, .int .i64 c] w fun e w' => e = .returned (.bool r) ∧ w' = w := by
  rw [← h]; exact l1InN_any a b c w

set_option maxHeartbeats 4000000 in
theorem sNumber_any (s : ByteArray) (base most : Int) (hb : base = 10 ∨ base = 16) (w : World) (hs : s.size ≤ 9223372036854775807) :
    Calls Tryd.prog 39 #[.string s, .int .i64 base, .int .i64 most] w fun e w' => ((∃ n, nmbB base most s.data.toList = some n ∧ e = .returned (.tuple #[.int .i64 n, .bool true])) ∨ (nmbB base most s.data.toList = none ∧ ∃ n, e = .returned (.tuple #[.int .i64 n, .bool false]))) ∧ w' = w := by
  by_cases h0 : s.size = 0
  · have HV : Hid (nmbB base most s.data.toList = none) := hidP (by unfold nmbB; rw [if_pos (Or.inl (by simpa using h0))])
    have e0 : ((s.size : Int) == 0) = true := by rw [h0]; rfl
    clear h0
    go_enter Tryd.func39, Tryd.ntmps39
    go_wp2
    go_ret2
    exact ⟨Or.inr ⟨HV.out, _, rfl⟩, rfl⟩
  by_cases h9 : 9 < s.size
  · have HV : Hid (nmbB base most s.data.toList = none) := hidP (by unfold nmbB; rw [if_pos (Or.inr (by simpa using h9))])
    have e0 : ((s.size : Int) == 0) = false := by rw [beq_eq_false_iff_ne]; omega
    clear h0
    go_enter Tryd.func39, Tryd.ntmps39
    go_wp2
    go_ret2
    exact ⟨Or.inr ⟨HV.out, _, rfl⟩, rfl⟩
  have e0 : ((s.size : Int) == 0) = false := by rw [beq_eq_false_iff_ne]; omega
  have HV : Hid (nmbB base most s.data.toList = (nm base s.data.toList 0).bind fun n => if n ≤ most then some n else none) := hidP (by unfold nmbB; rw [if_neg (by rw [show s.data.toList.length = s.size from by simp]; omega)])
  have H0 := hidP h0
  clear h0
  go_enter Tryd.func39, Tryd.ntmps39
  go_wp2
  go_loop [8, 9] (fun t8 t9 => ∃ (k : Nat) (N P : Int), k ≤ s.size ∧ t9 = .int .i64 k ∧ t8 = .int .i64 N ∧ 0 ≤ N ∧ N < P ∧ P ≤ 68719476736 ∧ Hid (P = 16 ^ k) ∧ Hid (nm base (s.data.toList.drop k) N = nm base s.data.toList 0)) (fun _ t9 => s.size - (intOf t9).toNat)
  case atStart => exact ⟨0, 0, 1, Nat.zero_le _, rfl, rfl, by omega, by omega, by omega, hidP (by simp), hidP (by simp)⟩
  case round =>
    obtain ⟨k, N, P, hk, rfl, rfl, hN0, hN1, hP, HP, HI⟩ := hrel
    by_cases hlt : k < s.size
    · have hP2 : 16 * P ≤ 68719476736 := by
        have e : P = 16 ^ k := HP.out
        have : (16 : Int) ^ k ≤ 16 ^ 8 := by exact_mod_cast Nat.pow_le_pow_right (by omega : 0 < 16) (by omega : k ≤ 8)
        omega
      have HP2 : Hid (16 * P = 16 ^ (k + 1)) := hidP (by rw [HP.out, Int.pow_succ]; omega)
      have HK := hidP (at_k s k hlt)
      obtain ⟨z, hz⟩ : ∃ z : Int, (s[k].toNat : Int) = z := ⟨_, rfl⟩
      have z0 : 0 ≤ z := by omega
      have hu : z < 256 := by have := s[k].toNat_lt; omega
      have hw : wrap64 z = z := by rw [wrap64]; omega
      have HK2 : Hid (nm base (s[k] :: s.data.toList.drop (k + 1)) N = nm base s.data.toList 0) := hidP (by rw [← HK.out]; exact HI.out)
      have fin : ∀ d : Int, dgv z = d → dgk z base = true → Hid (nm base (s.data.toList.drop (k + 1)) (N * base + d) = nm base s.data.toList 0) := fun d e1 e2 => hidP (by rw [← HK2.out, nm_yes base _ _ N (by rw [hz]; exact e2), hz, e1])
      have bad : dgk z base = false → Hid (nmbB base most s.data.toList = none) := fun e => hidP (by rw [HV.out, ← HK2.out, nm_no base _ _ N (by rw [hz]; exact e)]; rfl)
      by_cases a1 : 48 ≤ z ∧ z ≤ 57
      · have e : dgv z = z - 48 := by unfold dgv; rw [if_pos a1]
        have kk : dgk z base = true := by unfold dgk; rw [e]; simp; omega
        have HF := fin _ e kk
        clear fin bad e kk
        obtain ⟨a2, a3⟩ := a1
        have q1 : (decide ((48 : Int) ≤ z) && decide (z ≤ 57)) = true := by simp; omega
        rcases hb with rfl | rfl
        all_goals
          go_wp2_with (go_at_call 25; refine (l1InN_r _ _ _ _ q1 _).mono ?_; rintro e w' ⟨rfl, rfl⟩)
          go_round
          case rel => exact ⟨k + 1, _, 16 * P, by omega, by go_num, rfl, by omega, by omega, hP2, HP2, HF⟩
          case measure => simp [intOf]; omega
      · have q1 : (decide ((48 : Int) ≤ z) && decide (z ≤ 57)) = false := by rw [Bool.and_eq_false_iff]; simp; omega
        by_cases a4 : 97 ≤ z ∧ z ≤ 102
        · have e : dgv z = z - 97 + 10 := by unfold dgv; rw [if_neg a1, if_pos a4]
          have q2 : (decide ((97 : Int) ≤ z) && decide (z ≤ 102)) = true := by simp; omega
          obtain ⟨a5, a6⟩ := a4
          rcases hb with rfl | rfl
          · have HF := bad (by unfold dgk; rw [e]; simp; omega)
            clear fin bad e a1
            go_wp2_with (go_at_call 25; refine (l1InN_r _ _ _ _ (by first | exact q1 | exact q2) _).mono ?_; rintro e w' ⟨rfl, rfl⟩)
            go_ret2
            exact ⟨Or.inr ⟨HF.out, _, rfl⟩, rfl⟩
          · have HF := fin _ e (by unfold dgk; rw [e]; simp; omega)
            clear fin bad e a1
            go_wp2_with (go_at_call 25; refine (l1InN_r _ _ _ _ (by first | exact q1 | exact q2) _).mono ?_; rintro e w' ⟨rfl, rfl⟩)
            go_round
            case rel => exact ⟨k + 1, _, 16 * P, by omega, by go_num, rfl, by omega, by omega, hP2, HP2, HF⟩
            case measure => simp [intOf]; omega
        · have q2 : (decide ((97 : Int) ≤ z) && decide (z ≤ 102)) = false := by rw [Bool.and_eq_false_iff]; simp; omega
          have HF := bad (by unfold dgk dgv; rw [if_neg a1, if_neg a4]; rfl)
          clear fin bad a1 a4 hb
          go_wp2_with (go_at_call 25; refine (l1InN_r _ _ _ _ (by first | exact q1 | exact q2) _).mono ?_; rintro e w' ⟨rfl, rfl⟩)
          go_ret2
          exact ⟨Or.inr ⟨HF.out, _, rfl⟩, rfl⟩
    · have HE : Hid (nm base s.data.toList 0 = some N) := hidP (by rw [← HI.out, List.drop_eq_nil_of_le (by simp; omega), nm])
      by_cases hm : N ≤ most
      · have HF : Hid (nmbB base most s.data.toList = some N) := hidP (by rw [HV.out, HE.out, Option.bind_some, if_pos hm])
        go_wp2
        go_ret2
        exact ⟨Or.inl ⟨_, HF.out, rfl⟩, rfl⟩
      · have HF : Hid (nmbB base most s.data.toList = none) := hidP (by rw [HV.out, HE.out, Option.bind_some, if_neg hm])
        go_wp2
        go_ret2
        exact ⟨Or.inr ⟨HF.out, _, rfl⟩, rfl⟩

end Go.Proofs.YtofnnpjadehgmaaDoor
