/-
  The specification's text of a command, by kind.
-/
import Derived.Test.YtoadckdokdcppaaDoorGFld
import Derived.Lib.ItoaLen
import Derived.Test.YtoadckdokdcppaaDoorGSc
namespace Go.Proofs.YtoadckdokdcppaaDoor
open Go.RowKit

set_option maxHeartbeats 400000 in
theorem fig_moreN (x : Int) (h1 : 10 ≤ x) (hx : x < 1000000000000) (s : List UInt8) (hs : s.length ≤ 30)
    (hrec : Hid (∀ w : World, Calls Tryd.prog 28 #[.int .u64 (x / 10), .int .u64 10] w fun e w' => e = .returned (.string ⟨s.toArray⟩) ∧ ∃ n, w' = w.drewN n)) (w : World) :
    Calls Tryd.prog 28 #[.int .u64 x, .int .u64 10] w fun e w' => e = .returned (.string ⟨(s ++ [hexb (x % 10).toNat]).toArray⟩) ∧ ∃ n, w' = w.drewN n := by
  have sl := sl16 (x % 10) (by omega) (by omega)
  go_enter Tryd.func28, Tryd.ntmps28
  go_wp2
  go_quiet ((go_at_call 28; exact Calls.quiet_of (hrec.out _)))
  go_wp2
  go_ret
  exact ⟨ret_ba (ba_app s [_]), nq, rfl⟩

theorem nDig_le : ∀ (m u : Nat), u < 10 ^ (m + 1) → Lib.nDigits u ≤ m + 1
  | 0, u, h => by rw [Lib.nDigits_small (by omega)]; omega
  | m + 1, u, h => by
    by_cases h1 : u < 10
    · rw [Lib.nDigits_small h1]; omega
    · rw [Lib.nDigits_big h1]
      have := nDig_le m (u / 10) (by rw [Nat.pow_succ] at h; omega)
      omega
theorem hexb_small {k : Nat} (h : k < 10) : hexb k = UInt8.ofNat (48 + k) := by unfold hexb; rw [if_pos h]
theorem figN : ∀ (m n : Nat), n < 10 ^ (m + 1) → m ≤ 10 → ∀ w : World,
    Calls Tryd.prog 28 #[.int .u64 (n : Int), .int .u64 10] w fun e w' => e = .returned (.string ⟨(Lib.decDigits n).toArray⟩) ∧ ∃ n, w' = w.drewN n
  | 0, n, h, _, w => by
    have h1 : n < 10 := by omega
    have := fig_one (n : Int) 10 (by omega) (by omega) (by omega) w
    rw [Lib.decDigits_one h1, ← hexb_small h1]
    simpa using this
  | m + 1, n, h, hm, w => by
    by_cases h1 : n < 10
    · have := fig_one (n : Int) 10 (by omega) (by omega) (by omega) w
      rw [Lib.decDigits_one h1, ← hexb_small h1]
      simpa using this
    · have hp : n / 10 < 10 ^ (m + 1) := by rw [Nat.pow_succ] at h; omega
      have hb : 10 ^ (m + 1 + 1) ≤ 10 ^ 12 := Nat.pow_le_pow_right (by omega) (by omega)
      have hl : (Lib.decDigits (n / 10)).length ≤ 30 := by rw [Lib.decDigits_length]; have := nDig_le m _ hp; omega
      have := fig_moreN (n : Int) (by omega) (by omega) _ hl (hidP (fun w => figN m (n / 10) hp (by omega) w)) w
      rw [Lib.decDigits, dif_neg h1]
      have e : hexb ((n : Int) % 10).toNat = UInt8.ofNat (48 + n % 10) := by
        rw [show ((n : Int) % 10).toNat = n % 10 by omega]; exact hexb_small (by omega)
      rw [e] at this
      exact this

set_option maxHeartbeats 400000 in
theorem dec_any (n : Int) (h0 : 0 ≤ n) (h1 : n ≤ 1000000000) (w : World) :
    Calls Tryd.prog 21 #[.int .i64 n] w fun e w' => e = .returned (.string ⟨(Lib.itoa n).toArray⟩) ∧ Below w.heap.size w w' := by
  obtain ⟨k, rfl⟩ : ∃ k : Nat, n = (k : Int) := ⟨n.toNat, by omega⟩
  have e : Lib.itoa (k : Int) = Lib.decDigits k := by unfold Lib.itoa; rw [if_neg (by omega)]; rfl
  rw [e]
  have HF := hidP (fun w => figN 9 k (by omega) (by omega) w)
  clear e
  go_enter Tryd.func21, Tryd.ntmps21
  go_wp2_with fail
  refine (HF.out _).mono ?_
  rintro e w' ⟨rfl, m, rfl⟩
  go_wp2_with fail
  go_ret
  exact ⟨rfl, below_drewN (Below.refl _ w) m⟩

end Go.Proofs.YtoadckdokdcppaaDoor

namespace Go.Proofs.YtoadckdokdcppaaDoor
open Go.RowKit

/-- A number's decimal text. -/
def DecIs (n : Int) (D : List UInt8) : Prop := D.length ≤ 20 ∧ ∀ w : World, Calls Tryd.prog 21 #[.int .i64 n] w fun e w' => e = .returned (.string ⟨D.toArray⟩) ∧ Below w.heap.size w w'
theorem in_z_s (w : World) : Calls Tryd.prog 14 #[.string ⟨#[]⟩, .int .u8 115] w fun e w' => e = .returned (.bool false) ∧ w = w' := (in_any ⟨#[]⟩ 115 (by decide) w).mono fun _ _ h => ⟨h.1, h.2.symm⟩
theorem in_z_q (w : World) : Calls Tryd.prog 14 #[.string ⟨#[]⟩, .int .u8 113] w fun e w' => e = .returned (.bool false) ∧ w = w' := (in_any ⟨#[]⟩ 113 (by decide) w).mono fun _ _ h => ⟨h.1, h.2.symm⟩
theorem in_z_a (w : World) : Calls Tryd.prog 14 #[.string ⟨#[]⟩, .int .u8 97] w fun e w' => e = .returned (.bool false) ∧ w = w' := (in_any ⟨#[]⟩ 97 (by decide) w).mono fun _ _ h => ⟨h.1, h.2.symm⟩
theorem in_z_b (w : World) : Calls Tryd.prog 14 #[.string ⟨#[]⟩, .int .u8 98] w fun e w' => e = .returned (.bool false) ∧ w = w' := (in_any ⟨#[]⟩ 98 (by decide) w).mono fun _ _ h => ⟨h.1, h.2.symm⟩
theorem in_z_h (w : World) : Calls Tryd.prog 14 #[.string ⟨#[]⟩, .int .u8 104] w fun e w' => e = .returned (.bool false) ∧ w = w' := (in_any ⟨#[]⟩ 104 (by decide) w).mono fun _ _ h => ⟨h.1, h.2.symm⟩
theorem in_z_o (w : World) : Calls Tryd.prog 14 #[.string ⟨#[]⟩, .int .u8 111] w fun e w' => e = .returned (.bool false) ∧ w = w' := (in_any ⟨#[]⟩ 111 (by decide) w).mono fun _ _ h => ⟨h.1, h.2.symm⟩
theorem in_z_t (w : World) : Calls Tryd.prog 14 #[.string ⟨#[]⟩, .int .u8 116] w fun e w' => e = .returned (.bool false) ∧ w = w' := (in_any ⟨#[]⟩ 116 (by decide) w).mono fun _ _ h => ⟨h.1, h.2.symm⟩
theorem in_z_p (w : World) : Calls Tryd.prog 14 #[.string ⟨#[]⟩, .int .u8 112] w fun e w' => e = .returned (.bool false) ∧ w = w' := (in_any ⟨#[]⟩ 112 (by decide) w).mono fun _ _ h => ⟨h.1, h.2.symm⟩
theorem in_s_s (w : World) : Calls Tryd.prog 14 #[.string ⟨#[115]⟩, .int .u8 115] w fun e w' => e = .returned (.bool true) ∧ w = w' := (in_any ⟨#[115]⟩ 115 (by decide) w).mono fun _ _ h => ⟨h.1, h.2.symm⟩
theorem in_s_q (w : World) : Calls Tryd.prog 14 #[.string ⟨#[115]⟩, .int .u8 113] w fun e w' => e = .returned (.bool false) ∧ w = w' := (in_any ⟨#[115]⟩ 113 (by decide) w).mono fun _ _ h => ⟨h.1, h.2.symm⟩
theorem in_s_a (w : World) : Calls Tryd.prog 14 #[.string ⟨#[115]⟩, .int .u8 97] w fun e w' => e = .returned (.bool false) ∧ w = w' := (in_any ⟨#[115]⟩ 97 (by decide) w).mono fun _ _ h => ⟨h.1, h.2.symm⟩
theorem in_s_b (w : World) : Calls Tryd.prog 14 #[.string ⟨#[115]⟩, .int .u8 98] w fun e w' => e = .returned (.bool false) ∧ w = w' := (in_any ⟨#[115]⟩ 98 (by decide) w).mono fun _ _ h => ⟨h.1, h.2.symm⟩
theorem in_s_h (w : World) : Calls Tryd.prog 14 #[.string ⟨#[115]⟩, .int .u8 104] w fun e w' => e = .returned (.bool false) ∧ w = w' := (in_any ⟨#[115]⟩ 104 (by decide) w).mono fun _ _ h => ⟨h.1, h.2.symm⟩
theorem in_s_o (w : World) : Calls Tryd.prog 14 #[.string ⟨#[115]⟩, .int .u8 111] w fun e w' => e = .returned (.bool false) ∧ w = w' := (in_any ⟨#[115]⟩ 111 (by decide) w).mono fun _ _ h => ⟨h.1, h.2.symm⟩
theorem in_s_t (w : World) : Calls Tryd.prog 14 #[.string ⟨#[115]⟩, .int .u8 116] w fun e w' => e = .returned (.bool false) ∧ w = w' := (in_any ⟨#[115]⟩ 116 (by decide) w).mono fun _ _ h => ⟨h.1, h.2.symm⟩
theorem in_s_p (w : World) : Calls Tryd.prog 14 #[.string ⟨#[115]⟩, .int .u8 112] w fun e w' => e = .returned (.bool false) ∧ w = w' := (in_any ⟨#[115]⟩ 112 (by decide) w).mono fun _ _ h => ⟨h.1, h.2.symm⟩
theorem in_sqa_s (w : World) : Calls Tryd.prog 14 #[.string ⟨#[115, 113, 97]⟩, .int .u8 115] w fun e w' => e = .returned (.bool true) ∧ w = w' := (in_any ⟨#[115, 113, 97]⟩ 115 (by decide) w).mono fun _ _ h => ⟨h.1, h.2.symm⟩
theorem in_sqa_q (w : World) : Calls Tryd.prog 14 #[.string ⟨#[115, 113, 97]⟩, .int .u8 113] w fun e w' => e = .returned (.bool true) ∧ w = w' := (in_any ⟨#[115, 113, 97]⟩ 113 (by decide) w).mono fun _ _ h => ⟨h.1, h.2.symm⟩
theorem in_sqa_a (w : World) : Calls Tryd.prog 14 #[.string ⟨#[115, 113, 97]⟩, .int .u8 97] w fun e w' => e = .returned (.bool true) ∧ w = w' := (in_any ⟨#[115, 113, 97]⟩ 97 (by decide) w).mono fun _ _ h => ⟨h.1, h.2.symm⟩
theorem in_sqa_b (w : World) : Calls Tryd.prog 14 #[.string ⟨#[115, 113, 97]⟩, .int .u8 98] w fun e w' => e = .returned (.bool false) ∧ w = w' := (in_any ⟨#[115, 113, 97]⟩ 98 (by decide) w).mono fun _ _ h => ⟨h.1, h.2.symm⟩
theorem in_sqa_h (w : World) : Calls Tryd.prog 14 #[.string ⟨#[115, 113, 97]⟩, .int .u8 104] w fun e w' => e = .returned (.bool false) ∧ w = w' := (in_any ⟨#[115, 113, 97]⟩ 104 (by decide) w).mono fun _ _ h => ⟨h.1, h.2.symm⟩
theorem in_sqa_o (w : World) : Calls Tryd.prog 14 #[.string ⟨#[115, 113, 97]⟩, .int .u8 111] w fun e w' => e = .returned (.bool false) ∧ w = w' := (in_any ⟨#[115, 113, 97]⟩ 111 (by decide) w).mono fun _ _ h => ⟨h.1, h.2.symm⟩
theorem in_sqa_t (w : World) : Calls Tryd.prog 14 #[.string ⟨#[115, 113, 97]⟩, .int .u8 116] w fun e w' => e = .returned (.bool false) ∧ w = w' := (in_any ⟨#[115, 113, 97]⟩ 116 (by decide) w).mono fun _ _ h => ⟨h.1, h.2.symm⟩
theorem in_sqa_p (w : World) : Calls Tryd.prog 14 #[.string ⟨#[115, 113, 97]⟩, .int .u8 112] w fun e w' => e = .returned (.bool false) ∧ w = w' := (in_any ⟨#[115, 113, 97]⟩ 112 (by decide) w).mono fun _ _ h => ⟨h.1, h.2.symm⟩
theorem in_sqab_s (w : World) : Calls Tryd.prog 14 #[.string ⟨#[115, 113, 97, 98]⟩, .int .u8 115] w fun e w' => e = .returned (.bool true) ∧ w = w' := (in_any ⟨#[115, 113, 97, 98]⟩ 115 (by decide) w).mono fun _ _ h => ⟨h.1, h.2.symm⟩
theorem in_sqab_q (w : World) : Calls Tryd.prog 14 #[.string ⟨#[115, 113, 97, 98]⟩, .int .u8 113] w fun e w' => e = .returned (.bool true) ∧ w = w' := (in_any ⟨#[115, 113, 97, 98]⟩ 113 (by decide) w).mono fun _ _ h => ⟨h.1, h.2.symm⟩
theorem in_sqab_a (w : World) : Calls Tryd.prog 14 #[.string ⟨#[115, 113, 97, 98]⟩, .int .u8 97] w fun e w' => e = .returned (.bool true) ∧ w = w' := (in_any ⟨#[115, 113, 97, 98]⟩ 97 (by decide) w).mono fun _ _ h => ⟨h.1, h.2.symm⟩
theorem in_sqab_b (w : World) : Calls Tryd.prog 14 #[.string ⟨#[115, 113, 97, 98]⟩, .int .u8 98] w fun e w' => e = .returned (.bool true) ∧ w = w' := (in_any ⟨#[115, 113, 97, 98]⟩ 98 (by decide) w).mono fun _ _ h => ⟨h.1, h.2.symm⟩
theorem in_sqab_h (w : World) : Calls Tryd.prog 14 #[.string ⟨#[115, 113, 97, 98]⟩, .int .u8 104] w fun e w' => e = .returned (.bool false) ∧ w = w' := (in_any ⟨#[115, 113, 97, 98]⟩ 104 (by decide) w).mono fun _ _ h => ⟨h.1, h.2.symm⟩
theorem in_sqab_o (w : World) : Calls Tryd.prog 14 #[.string ⟨#[115, 113, 97, 98]⟩, .int .u8 111] w fun e w' => e = .returned (.bool false) ∧ w = w' := (in_any ⟨#[115, 113, 97, 98]⟩ 111 (by decide) w).mono fun _ _ h => ⟨h.1, h.2.symm⟩
theorem in_sqab_t (w : World) : Calls Tryd.prog 14 #[.string ⟨#[115, 113, 97, 98]⟩, .int .u8 116] w fun e w' => e = .returned (.bool false) ∧ w = w' := (in_any ⟨#[115, 113, 97, 98]⟩ 116 (by decide) w).mono fun _ _ h => ⟨h.1, h.2.symm⟩
theorem in_sqab_p (w : World) : Calls Tryd.prog 14 #[.string ⟨#[115, 113, 97, 98]⟩, .int .u8 112] w fun e w' => e = .returned (.bool false) ∧ w = w' := (in_any ⟨#[115, 113, 97, 98]⟩ 112 (by decide) w).mono fun _ _ h => ⟨h.1, h.2.symm⟩
theorem in_sqao_s (w : World) : Calls Tryd.prog 14 #[.string ⟨#[115, 113, 97, 111]⟩, .int .u8 115] w fun e w' => e = .returned (.bool true) ∧ w = w' := (in_any ⟨#[115, 113, 97, 111]⟩ 115 (by decide) w).mono fun _ _ h => ⟨h.1, h.2.symm⟩
theorem in_sqao_q (w : World) : Calls Tryd.prog 14 #[.string ⟨#[115, 113, 97, 111]⟩, .int .u8 113] w fun e w' => e = .returned (.bool true) ∧ w = w' := (in_any ⟨#[115, 113, 97, 111]⟩ 113 (by decide) w).mono fun _ _ h => ⟨h.1, h.2.symm⟩
theorem in_sqao_a (w : World) : Calls Tryd.prog 14 #[.string ⟨#[115, 113, 97, 111]⟩, .int .u8 97] w fun e w' => e = .returned (.bool true) ∧ w = w' := (in_any ⟨#[115, 113, 97, 111]⟩ 97 (by decide) w).mono fun _ _ h => ⟨h.1, h.2.symm⟩
theorem in_sqao_b (w : World) : Calls Tryd.prog 14 #[.string ⟨#[115, 113, 97, 111]⟩, .int .u8 98] w fun e w' => e = .returned (.bool false) ∧ w = w' := (in_any ⟨#[115, 113, 97, 111]⟩ 98 (by decide) w).mono fun _ _ h => ⟨h.1, h.2.symm⟩
theorem in_sqao_h (w : World) : Calls Tryd.prog 14 #[.string ⟨#[115, 113, 97, 111]⟩, .int .u8 104] w fun e w' => e = .returned (.bool false) ∧ w = w' := (in_any ⟨#[115, 113, 97, 111]⟩ 104 (by decide) w).mono fun _ _ h => ⟨h.1, h.2.symm⟩
theorem in_sqao_o (w : World) : Calls Tryd.prog 14 #[.string ⟨#[115, 113, 97, 111]⟩, .int .u8 111] w fun e w' => e = .returned (.bool true) ∧ w = w' := (in_any ⟨#[115, 113, 97, 111]⟩ 111 (by decide) w).mono fun _ _ h => ⟨h.1, h.2.symm⟩
theorem in_sqao_t (w : World) : Calls Tryd.prog 14 #[.string ⟨#[115, 113, 97, 111]⟩, .int .u8 116] w fun e w' => e = .returned (.bool false) ∧ w = w' := (in_any ⟨#[115, 113, 97, 111]⟩ 116 (by decide) w).mono fun _ _ h => ⟨h.1, h.2.symm⟩
theorem in_sqao_p (w : World) : Calls Tryd.prog 14 #[.string ⟨#[115, 113, 97, 111]⟩, .int .u8 112] w fun e w' => e = .returned (.bool false) ∧ w = w' := (in_any ⟨#[115, 113, 97, 111]⟩ 112 (by decide) w).mono fun _ _ h => ⟨h.1, h.2.symm⟩
theorem in_sqaop_s (w : World) : Calls Tryd.prog 14 #[.string ⟨#[115, 113, 97, 111, 112]⟩, .int .u8 115] w fun e w' => e = .returned (.bool true) ∧ w = w' := (in_any ⟨#[115, 113, 97, 111, 112]⟩ 115 (by decide) w).mono fun _ _ h => ⟨h.1, h.2.symm⟩
theorem in_sqaop_q (w : World) : Calls Tryd.prog 14 #[.string ⟨#[115, 113, 97, 111, 112]⟩, .int .u8 113] w fun e w' => e = .returned (.bool true) ∧ w = w' := (in_any ⟨#[115, 113, 97, 111, 112]⟩ 113 (by decide) w).mono fun _ _ h => ⟨h.1, h.2.symm⟩
theorem in_sqaop_a (w : World) : Calls Tryd.prog 14 #[.string ⟨#[115, 113, 97, 111, 112]⟩, .int .u8 97] w fun e w' => e = .returned (.bool true) ∧ w = w' := (in_any ⟨#[115, 113, 97, 111, 112]⟩ 97 (by decide) w).mono fun _ _ h => ⟨h.1, h.2.symm⟩
theorem in_sqaop_b (w : World) : Calls Tryd.prog 14 #[.string ⟨#[115, 113, 97, 111, 112]⟩, .int .u8 98] w fun e w' => e = .returned (.bool false) ∧ w = w' := (in_any ⟨#[115, 113, 97, 111, 112]⟩ 98 (by decide) w).mono fun _ _ h => ⟨h.1, h.2.symm⟩
theorem in_sqaop_h (w : World) : Calls Tryd.prog 14 #[.string ⟨#[115, 113, 97, 111, 112]⟩, .int .u8 104] w fun e w' => e = .returned (.bool false) ∧ w = w' := (in_any ⟨#[115, 113, 97, 111, 112]⟩ 104 (by decide) w).mono fun _ _ h => ⟨h.1, h.2.symm⟩
theorem in_sqaop_o (w : World) : Calls Tryd.prog 14 #[.string ⟨#[115, 113, 97, 111, 112]⟩, .int .u8 111] w fun e w' => e = .returned (.bool true) ∧ w = w' := (in_any ⟨#[115, 113, 97, 111, 112]⟩ 111 (by decide) w).mono fun _ _ h => ⟨h.1, h.2.symm⟩
theorem in_sqaop_t (w : World) : Calls Tryd.prog 14 #[.string ⟨#[115, 113, 97, 111, 112]⟩, .int .u8 116] w fun e w' => e = .returned (.bool false) ∧ w = w' := (in_any ⟨#[115, 113, 97, 111, 112]⟩ 116 (by decide) w).mono fun _ _ h => ⟨h.1, h.2.symm⟩
theorem in_sqaop_p (w : World) : Calls Tryd.prog 14 #[.string ⟨#[115, 113, 97, 111, 112]⟩, .int .u8 112] w fun e w' => e = .returned (.bool true) ∧ w = w' := (in_any ⟨#[115, 113, 97, 111, 112]⟩ 112 (by decide) w).mono fun _ _ h => ⟨h.1, h.2.symm⟩
theorem in_sqhop_s (w : World) : Calls Tryd.prog 14 #[.string ⟨#[115, 113, 104, 111, 112]⟩, .int .u8 115] w fun e w' => e = .returned (.bool true) ∧ w = w' := (in_any ⟨#[115, 113, 104, 111, 112]⟩ 115 (by decide) w).mono fun _ _ h => ⟨h.1, h.2.symm⟩
theorem in_sqhop_q (w : World) : Calls Tryd.prog 14 #[.string ⟨#[115, 113, 104, 111, 112]⟩, .int .u8 113] w fun e w' => e = .returned (.bool true) ∧ w = w' := (in_any ⟨#[115, 113, 104, 111, 112]⟩ 113 (by decide) w).mono fun _ _ h => ⟨h.1, h.2.symm⟩
theorem in_sqhop_a (w : World) : Calls Tryd.prog 14 #[.string ⟨#[115, 113, 104, 111, 112]⟩, .int .u8 97] w fun e w' => e = .returned (.bool false) ∧ w = w' := (in_any ⟨#[115, 113, 104, 111, 112]⟩ 97 (by decide) w).mono fun _ _ h => ⟨h.1, h.2.symm⟩
theorem in_sqhop_b (w : World) : Calls Tryd.prog 14 #[.string ⟨#[115, 113, 104, 111, 112]⟩, .int .u8 98] w fun e w' => e = .returned (.bool false) ∧ w = w' := (in_any ⟨#[115, 113, 104, 111, 112]⟩ 98 (by decide) w).mono fun _ _ h => ⟨h.1, h.2.symm⟩
theorem in_sqhop_h (w : World) : Calls Tryd.prog 14 #[.string ⟨#[115, 113, 104, 111, 112]⟩, .int .u8 104] w fun e w' => e = .returned (.bool true) ∧ w = w' := (in_any ⟨#[115, 113, 104, 111, 112]⟩ 104 (by decide) w).mono fun _ _ h => ⟨h.1, h.2.symm⟩
theorem in_sqhop_o (w : World) : Calls Tryd.prog 14 #[.string ⟨#[115, 113, 104, 111, 112]⟩, .int .u8 111] w fun e w' => e = .returned (.bool true) ∧ w = w' := (in_any ⟨#[115, 113, 104, 111, 112]⟩ 111 (by decide) w).mono fun _ _ h => ⟨h.1, h.2.symm⟩
theorem in_sqhop_t (w : World) : Calls Tryd.prog 14 #[.string ⟨#[115, 113, 104, 111, 112]⟩, .int .u8 116] w fun e w' => e = .returned (.bool false) ∧ w = w' := (in_any ⟨#[115, 113, 104, 111, 112]⟩ 116 (by decide) w).mono fun _ _ h => ⟨h.1, h.2.symm⟩
theorem in_sqhop_p (w : World) : Calls Tryd.prog 14 #[.string ⟨#[115, 113, 104, 111, 112]⟩, .int .u8 112] w fun e w' => e = .returned (.bool true) ∧ w = w' := (in_any ⟨#[115, 113, 104, 111, 112]⟩ 112 (by decide) w).mono fun _ _ h => ⟨h.1, h.2.symm⟩
theorem in_sqht_s (w : World) : Calls Tryd.prog 14 #[.string ⟨#[115, 113, 104, 116]⟩, .int .u8 115] w fun e w' => e = .returned (.bool true) ∧ w = w' := (in_any ⟨#[115, 113, 104, 116]⟩ 115 (by decide) w).mono fun _ _ h => ⟨h.1, h.2.symm⟩
theorem in_sqht_q (w : World) : Calls Tryd.prog 14 #[.string ⟨#[115, 113, 104, 116]⟩, .int .u8 113] w fun e w' => e = .returned (.bool true) ∧ w = w' := (in_any ⟨#[115, 113, 104, 116]⟩ 113 (by decide) w).mono fun _ _ h => ⟨h.1, h.2.symm⟩
theorem in_sqht_a (w : World) : Calls Tryd.prog 14 #[.string ⟨#[115, 113, 104, 116]⟩, .int .u8 97] w fun e w' => e = .returned (.bool false) ∧ w = w' := (in_any ⟨#[115, 113, 104, 116]⟩ 97 (by decide) w).mono fun _ _ h => ⟨h.1, h.2.symm⟩
theorem in_sqht_b (w : World) : Calls Tryd.prog 14 #[.string ⟨#[115, 113, 104, 116]⟩, .int .u8 98] w fun e w' => e = .returned (.bool false) ∧ w = w' := (in_any ⟨#[115, 113, 104, 116]⟩ 98 (by decide) w).mono fun _ _ h => ⟨h.1, h.2.symm⟩
theorem in_sqht_h (w : World) : Calls Tryd.prog 14 #[.string ⟨#[115, 113, 104, 116]⟩, .int .u8 104] w fun e w' => e = .returned (.bool true) ∧ w = w' := (in_any ⟨#[115, 113, 104, 116]⟩ 104 (by decide) w).mono fun _ _ h => ⟨h.1, h.2.symm⟩
theorem in_sqht_o (w : World) : Calls Tryd.prog 14 #[.string ⟨#[115, 113, 104, 116]⟩, .int .u8 111] w fun e w' => e = .returned (.bool false) ∧ w = w' := (in_any ⟨#[115, 113, 104, 116]⟩ 111 (by decide) w).mono fun _ _ h => ⟨h.1, h.2.symm⟩
theorem in_sqht_t (w : World) : Calls Tryd.prog 14 #[.string ⟨#[115, 113, 104, 116]⟩, .int .u8 116] w fun e w' => e = .returned (.bool true) ∧ w = w' := (in_any ⟨#[115, 113, 104, 116]⟩ 116 (by decide) w).mono fun _ _ h => ⟨h.1, h.2.symm⟩
theorem in_sqht_p (w : World) : Calls Tryd.prog 14 #[.string ⟨#[115, 113, 104, 116]⟩, .int .u8 112] w fun e w' => e = .returned (.bool false) ∧ w = w' := (in_any ⟨#[115, 113, 104, 116]⟩ 112 (by decide) w).mono fun _ _ h => ⟨h.1, h.2.symm⟩
theorem in_sqhtp_s (w : World) : Calls Tryd.prog 14 #[.string ⟨#[115, 113, 104, 116, 112]⟩, .int .u8 115] w fun e w' => e = .returned (.bool true) ∧ w = w' := (in_any ⟨#[115, 113, 104, 116, 112]⟩ 115 (by decide) w).mono fun _ _ h => ⟨h.1, h.2.symm⟩
theorem in_sqhtp_q (w : World) : Calls Tryd.prog 14 #[.string ⟨#[115, 113, 104, 116, 112]⟩, .int .u8 113] w fun e w' => e = .returned (.bool true) ∧ w = w' := (in_any ⟨#[115, 113, 104, 116, 112]⟩ 113 (by decide) w).mono fun _ _ h => ⟨h.1, h.2.symm⟩
theorem in_sqhtp_a (w : World) : Calls Tryd.prog 14 #[.string ⟨#[115, 113, 104, 116, 112]⟩, .int .u8 97] w fun e w' => e = .returned (.bool false) ∧ w = w' := (in_any ⟨#[115, 113, 104, 116, 112]⟩ 97 (by decide) w).mono fun _ _ h => ⟨h.1, h.2.symm⟩
theorem in_sqhtp_b (w : World) : Calls Tryd.prog 14 #[.string ⟨#[115, 113, 104, 116, 112]⟩, .int .u8 98] w fun e w' => e = .returned (.bool false) ∧ w = w' := (in_any ⟨#[115, 113, 104, 116, 112]⟩ 98 (by decide) w).mono fun _ _ h => ⟨h.1, h.2.symm⟩
theorem in_sqhtp_h (w : World) : Calls Tryd.prog 14 #[.string ⟨#[115, 113, 104, 116, 112]⟩, .int .u8 104] w fun e w' => e = .returned (.bool true) ∧ w = w' := (in_any ⟨#[115, 113, 104, 116, 112]⟩ 104 (by decide) w).mono fun _ _ h => ⟨h.1, h.2.symm⟩
theorem in_sqhtp_o (w : World) : Calls Tryd.prog 14 #[.string ⟨#[115, 113, 104, 116, 112]⟩, .int .u8 111] w fun e w' => e = .returned (.bool false) ∧ w = w' := (in_any ⟨#[115, 113, 104, 116, 112]⟩ 111 (by decide) w).mono fun _ _ h => ⟨h.1, h.2.symm⟩
theorem in_sqhtp_t (w : World) : Calls Tryd.prog 14 #[.string ⟨#[115, 113, 104, 116, 112]⟩, .int .u8 116] w fun e w' => e = .returned (.bool true) ∧ w = w' := (in_any ⟨#[115, 113, 104, 116, 112]⟩ 116 (by decide) w).mono fun _ _ h => ⟨h.1, h.2.symm⟩
theorem in_sqhtp_p (w : World) : Calls Tryd.prog 14 #[.string ⟨#[115, 113, 104, 116, 112]⟩, .int .u8 112] w fun e w' => e = .returned (.bool true) ∧ w = w' := (in_any ⟨#[115, 113, 104, 116, 112]⟩ 112 (by decide) w).mono fun _ _ h => ⟨h.1, h.2.symm⟩

set_option maxHeartbeats 1000000 in
theorem st_no (X : ByteArray) (hXs : X.size ≤ 100) (k : Int) (s q n : Int) (aS : Bool) (aH aL : BitVec 64) (ab b : Int) (hS : Bool) (hH hL : Int) (o : ByteArray) (t sp : Int) (ho : o.size ≤ 1048576) (hX : ∀ w : World, Calls Tryd.prog 11 #[.int .i64 k] w fun e w' => e = .returned (.string X) ∧ w' = w) (h : spC X k s q n aS aH aL ab b hS hH hL o t sp = false) (y : World) :
    Calls Tryd.prog 9 #[.agg #[.int .i64 k, .int .i64 s, .int .i64 q, .int .i64 n, .bool aS, .int .i64 aH.toInt, .int .i64 aL.toInt, .int .i64 ab, .int .i64 b, .bool hS, .int .i64 hH, .int .i64 hL, .string o, .int .i64 t, .int .i64 sp]] y fun e w' => e = .returned (.string ⟨#[]⟩) ∧ Below y.heap.size y w' := by
  have HK := hidP (fun w => sCmd X hXs k s q n aS aH aL ab b hS hH hL o t sp ho hX w)
  rw [h] at HK
  have ab' := (Below.refl y.heap.size y).alloc (Nat.le_refl _) (.cells #[.int .i64 k, .int .i64 s, .int .i64 q, .int .i64 n, .bool aS, .int .i64 aH.toInt, .int .i64 aL.toInt, .int .i64 ab, .int .i64 b, .bool hS, .int .i64 hH, .int .i64 hL, .string o, .int .i64 t, .int .i64 sp] 34)
  clear hX h
  go_enter Tryd.func9, Tryd.ntmps9
  go_wp2_with fail
  refine (HK.out _).mono ?_
  rintro e w1 ⟨rfl, hb⟩
  have HB := hidP (ab'.trans (hb.mono (by simp)))
  clear hb
  go_wp2_with fail
  go_ret
  exact ⟨rfl, HB.out⟩

end Go.Proofs.YtoadckdokdcppaaDoor

namespace Go.Proofs.YtoadckdokdcppaaDoor
open Go.RowKit

set_option maxRecDepth 10000 in
set_option maxHeartbeats 2000000 in
theorem st_1 (s q n : Int) (aS : Bool) (aH aL : BitVec 64) (ab b : Int) (hS : Bool) (hH hL : Int) (o : ByteArray) (t sp : Int) (Dn : List UInt8) (Hn : Hid (DecIs n Dn)) (ho : o.size ≤ 1048576) (h : spC ⟨#[]⟩ 1 s q n aS aH aL ab b hS hH hL o t sp = true) (y : World) :
    Calls Tryd.prog 9 #[.agg #[.int .i64 1, .int .i64 s, .int .i64 q, .int .i64 n, .bool aS, .int .i64 aH.toInt, .int .i64 aL.toInt, .int .i64 ab, .int .i64 b, .bool hS, .int .i64 hH, .int .i64 hL, .string o, .int .i64 t, .int .i64 sp]] y fun e w' => e = .returned (.string ((⟨#[111, 112, 101, 110]⟩ : ByteArray) ++ (⟨#[32, 110, 111, 119, 61]⟩ : ByteArray) ++ ⟨Dn.toArray⟩)) ∧ Below y.heap.size y w' := by
  have HK := hidP (fun w => sCmd ⟨#[]⟩ (by decide) 1 s q n aS aH aL ab b hS hH hL o t sp ho has_1 w)
  rw [h] at HK
  have HX0 := hidP (Bx.new y [.int .i64 1, .int .i64 s, .int .i64 q, .int .i64 n, .bool aS, .int .i64 aH.toInt, .int .i64 aL.toInt, .int .i64 ab, .int .i64 b, .bool hS, .int .i64 hH, .int .i64 hL, .string o, .int .i64 t, .int .i64 sp] 34)
  have HU := hidP ((Below.refl y.heap.size y).alloc (Nat.le_refl _) (.cells #[.int .i64 1, .int .i64 s, .int .i64 q, .int .i64 n, .bool aS, .int .i64 aH.toInt, .int .i64 aL.toInt, .int .i64 ab, .int .i64 b, .bool hS, .int .i64 hH, .int .i64 hL, .string o, .int .i64 t, .int .i64 sp] 34))
  have ln := Hn.out.1
  clear h
  go_enter Tryd.func9, Tryd.ntmps9
  go_wp2_with fail
  refine (HK.out _).mono ?_
  rintro e w0 ⟨rfl, hb0⟩
  have HX := hidP (HX0.out.later hb0)
  have HB := hidP (HU.out.trans (hb0.mono HU.out.size))
  have z0 := HX.out.lt
  clear hb0 HX0 HU HK
  have c0 := HX.out.cel 0 _ rfl
  have c3 := HX.out.cel 3 _ rfl
  go_wp2_with fail
  refine (has_1 _).mono ?_
  rintro e w' ⟨rfl, rfl⟩
  go_wp2_with fail
  refine (in_z_s _).mono ?_
  rintro e w' ⟨rfl, rfl⟩
  go_wp2_with fail
  refine (in_z_q _).mono ?_
  rintro e w' ⟨rfl, rfl⟩
  go_wp2_with fail
  refine (Hn.out.2 _).mono ?_
  rintro e w1 ⟨rfl, hb⟩
  have hb' : Below w0.heap.size w0 w1 := ((Below.refl _ w0).alloc (Nat.le_refl _) _).trans (hb.mono (by simp))
  have HX := hidP (HX.out.later hb')
  have HB := hidP (HB.out.trans (hb'.mono HB.out.size))
  have z1 := HX.out.lt
  clear hb hb' c3 c0
  go_wp2_with fail
  refine (in_z_a _).mono ?_
  rintro e w' ⟨rfl, rfl⟩
  go_wp2_with fail
  refine (in_z_b _).mono ?_
  rintro e w' ⟨rfl, rfl⟩
  go_wp2_with fail
  refine (in_z_h _).mono ?_
  rintro e w' ⟨rfl, rfl⟩
  go_wp2_with fail
  refine (in_z_o _).mono ?_
  rintro e w' ⟨rfl, rfl⟩
  go_wp2_with fail
  refine (in_z_t _).mono ?_
  rintro e w' ⟨rfl, rfl⟩
  go_wp2_with fail
  refine (in_z_p _).mono ?_
  rintro e w' ⟨rfl, rfl⟩
  go_wp2_with fail
  go_ret
  exact ⟨ret_ba (by first | rfl | (apply ByteArray.ext; simp)), HB.out⟩

set_option maxRecDepth 10000 in
set_option maxHeartbeats 2000000 in
theorem st_2 (s q n : Int) (aS : Bool) (aH aL : BitVec 64) (ab b : Int) (hS : Bool) (hH hL : Int) (o : ByteArray) (t sp : Int) (Ds : List UInt8) (Hs : Hid (DecIs s Ds)) (Dn : List UInt8) (Hn : Hid (DecIs n Dn)) (ho : o.size ≤ 1048576) (h : spC ⟨#[115]⟩ 2 s q n aS aH aL ab b hS hH hL o t sp = true) (y : World) :
    Calls Tryd.prog 9 #[.agg #[.int .i64 2, .int .i64 s, .int .i64 q, .int .i64 n, .bool aS, .int .i64 aH.toInt, .int .i64 aL.toInt, .int .i64 ab, .int .i64 b, .bool hS, .int .i64 hH, .int .i64 hL, .string o, .int .i64 t, .int .i64 sp]] y fun e w' => e = .returned (.string (((⟨#[99, 108, 111, 115, 101]⟩ : ByteArray) ++ (⟨#[32, 115, 101, 115, 115, 105, 111, 110, 61]⟩ : ByteArray) ++ ⟨Ds.toArray⟩) ++ (⟨#[32, 110, 111, 119, 61]⟩ : ByteArray) ++ ⟨Dn.toArray⟩)) ∧ Below y.heap.size y w' := by
  have HK := hidP (fun w => sCmd ⟨#[115]⟩ (by decide) 2 s q n aS aH aL ab b hS hH hL o t sp ho has_2 w)
  rw [h] at HK
  have HX0 := hidP (Bx.new y [.int .i64 2, .int .i64 s, .int .i64 q, .int .i64 n, .bool aS, .int .i64 aH.toInt, .int .i64 aL.toInt, .int .i64 ab, .int .i64 b, .bool hS, .int .i64 hH, .int .i64 hL, .string o, .int .i64 t, .int .i64 sp] 34)
  have HU := hidP ((Below.refl y.heap.size y).alloc (Nat.le_refl _) (.cells #[.int .i64 2, .int .i64 s, .int .i64 q, .int .i64 n, .bool aS, .int .i64 aH.toInt, .int .i64 aL.toInt, .int .i64 ab, .int .i64 b, .bool hS, .int .i64 hH, .int .i64 hL, .string o, .int .i64 t, .int .i64 sp] 34))
  have ls := Hs.out.1
  have ln := Hn.out.1
  clear h
  go_enter Tryd.func9, Tryd.ntmps9
  go_wp2_with fail
  refine (HK.out _).mono ?_
  rintro e w0 ⟨rfl, hb0⟩
  have HX := hidP (HX0.out.later hb0)
  have HB := hidP (HU.out.trans (hb0.mono HU.out.size))
  have z0 := HX.out.lt
  clear hb0 HX0 HU HK
  have c0 := HX.out.cel 0 _ rfl
  have c1 := HX.out.cel 1 _ rfl
  go_wp2_with fail
  refine (has_2 _).mono ?_
  rintro e w' ⟨rfl, rfl⟩
  go_wp2_with fail
  refine (in_s_s _).mono ?_
  rintro e w' ⟨rfl, rfl⟩
  go_wp2_with fail
  refine (Hs.out.2 _).mono ?_
  rintro e w1 ⟨rfl, hb⟩
  have hb' : Below w0.heap.size w0 w1 := ((Below.refl _ w0).alloc (Nat.le_refl _) _).trans (hb.mono (by simp))
  have HX := hidP (HX.out.later hb')
  have HB := hidP (HB.out.trans (hb'.mono HB.out.size))
  have z1 := HX.out.lt
  clear hb hb' c1 c0
  have c3 := HX.out.cel 3 _ rfl
  go_wp2_with fail
  refine (in_s_q _).mono ?_
  rintro e w' ⟨rfl, rfl⟩
  go_wp2_with fail
  refine (Hn.out.2 _).mono ?_
  rintro e w2 ⟨rfl, hb⟩
  have hb' : Below w1.heap.size w1 w2 := hb
  have HX := hidP (HX.out.later hb')
  have HB := hidP (HB.out.trans (hb'.mono HB.out.size))
  have z2 := HX.out.lt
  clear hb hb' c3
  go_wp2_with fail
  refine (in_s_a _).mono ?_
  rintro e w' ⟨rfl, rfl⟩
  go_wp2_with fail
  refine (in_s_b _).mono ?_
  rintro e w' ⟨rfl, rfl⟩
  go_wp2_with fail
  refine (in_s_h _).mono ?_
  rintro e w' ⟨rfl, rfl⟩
  go_wp2_with fail
  refine (in_s_o _).mono ?_
  rintro e w' ⟨rfl, rfl⟩
  go_wp2_with fail
  refine (in_s_t _).mono ?_
  rintro e w' ⟨rfl, rfl⟩
  go_wp2_with fail
  refine (in_s_p _).mono ?_
  rintro e w' ⟨rfl, rfl⟩
  go_wp2_with fail
  go_ret
  exact ⟨ret_ba (by first | rfl | (apply ByteArray.ext; simp)), HB.out⟩

set_option maxRecDepth 10000 in
set_option maxHeartbeats 2000000 in
theorem st_11 (s q n : Int) (aS : Bool) (aH aL : BitVec 64) (ab b : Int) (hS : Bool) (hH hL : Int) (o : ByteArray) (t sp : Int) (Dn : List UInt8) (Hn : Hid (DecIs n Dn)) (ho : o.size ≤ 1048576) (h : spC ⟨#[]⟩ 11 s q n aS aH aL ab b hS hH hL o t sp = true) (y : World) :
    Calls Tryd.prog 9 #[.agg #[.int .i64 11, .int .i64 s, .int .i64 q, .int .i64 n, .bool aS, .int .i64 aH.toInt, .int .i64 aL.toInt, .int .i64 ab, .int .i64 b, .bool hS, .int .i64 hH, .int .i64 hL, .string o, .int .i64 t, .int .i64 sp]] y fun e w' => e = .returned (.string ((⟨#[116, 105, 109, 101]⟩ : ByteArray) ++ (⟨#[32, 110, 111, 119, 61]⟩ : ByteArray) ++ ⟨Dn.toArray⟩)) ∧ Below y.heap.size y w' := by
  have HK := hidP (fun w => sCmd ⟨#[]⟩ (by decide) 11 s q n aS aH aL ab b hS hH hL o t sp ho has_11 w)
  rw [h] at HK
  have HX0 := hidP (Bx.new y [.int .i64 11, .int .i64 s, .int .i64 q, .int .i64 n, .bool aS, .int .i64 aH.toInt, .int .i64 aL.toInt, .int .i64 ab, .int .i64 b, .bool hS, .int .i64 hH, .int .i64 hL, .string o, .int .i64 t, .int .i64 sp] 34)
  have HU := hidP ((Below.refl y.heap.size y).alloc (Nat.le_refl _) (.cells #[.int .i64 11, .int .i64 s, .int .i64 q, .int .i64 n, .bool aS, .int .i64 aH.toInt, .int .i64 aL.toInt, .int .i64 ab, .int .i64 b, .bool hS, .int .i64 hH, .int .i64 hL, .string o, .int .i64 t, .int .i64 sp] 34))
  have ln := Hn.out.1
  clear h
  go_enter Tryd.func9, Tryd.ntmps9
  go_wp2_with fail
  refine (HK.out _).mono ?_
  rintro e w0 ⟨rfl, hb0⟩
  have HX := hidP (HX0.out.later hb0)
  have HB := hidP (HU.out.trans (hb0.mono HU.out.size))
  have z0 := HX.out.lt
  clear hb0 HX0 HU HK
  have c0 := HX.out.cel 0 _ rfl
  have c3 := HX.out.cel 3 _ rfl
  go_wp2_with fail
  refine (has_11 _).mono ?_
  rintro e w' ⟨rfl, rfl⟩
  go_wp2_with fail
  refine (in_z_s _).mono ?_
  rintro e w' ⟨rfl, rfl⟩
  go_wp2_with fail
  refine (in_z_q _).mono ?_
  rintro e w' ⟨rfl, rfl⟩
  go_wp2_with fail
  refine (Hn.out.2 _).mono ?_
  rintro e w1 ⟨rfl, hb⟩
  have hb' : Below w0.heap.size w0 w1 := ((Below.refl _ w0).alloc (Nat.le_refl _) _).trans (hb.mono (by simp))
  have HX := hidP (HX.out.later hb')
  have HB := hidP (HB.out.trans (hb'.mono HB.out.size))
  have z1 := HX.out.lt
  clear hb hb' c3 c0
  go_wp2_with fail
  refine (in_z_a _).mono ?_
  rintro e w' ⟨rfl, rfl⟩
  go_wp2_with fail
  refine (in_z_b _).mono ?_
  rintro e w' ⟨rfl, rfl⟩
  go_wp2_with fail
  refine (in_z_h _).mono ?_
  rintro e w' ⟨rfl, rfl⟩
  go_wp2_with fail
  refine (in_z_o _).mono ?_
  rintro e w' ⟨rfl, rfl⟩
  go_wp2_with fail
  refine (in_z_t _).mono ?_
  rintro e w' ⟨rfl, rfl⟩
  go_wp2_with fail
  refine (in_z_p _).mono ?_
  rintro e w' ⟨rfl, rfl⟩
  go_wp2_with fail
  go_ret
  exact ⟨ret_ba (by first | rfl | (apply ByteArray.ext; simp)), HB.out⟩

end Go.Proofs.YtoadckdokdcppaaDoor

namespace Go.Proofs.YtoadckdokdcppaaDoor
open Go.RowKit

set_option maxRecDepth 10000 in
set_option maxHeartbeats 2000000 in
theorem st_3 (s q n : Int) (aS : Bool) (aH aL : BitVec 64) (ab b : Int) (hS : Bool) (hH hL : Int) (o : ByteArray) (t sp : Int) (Ds : List UInt8) (Hs : Hid (DecIs s Ds)) (Dq : List UInt8) (Hq : Hid (DecIs q Dq)) (Dn : List UInt8) (Hn : Hid (DecIs n Dn)) (TA : List UInt8) (HA : Hid (TA.length ≤ 200 ∧ ∀ w : World, Calls Tryd.prog 22 #[.agg #[.bool aS, .int .i64 aH.toInt, .int .i64 aL.toInt, .int .i64 ab]] w fun e w' => e = .returned (.string ⟨TA.toArray⟩) ∧ Below w.heap.size w w')) (Db : List UInt8) (Hb : Hid (DecIs b Db)) (ho : o.size ≤ 1048576) (h : spC ⟨#[115, 113, 97, 98]⟩ 3 s q n aS aH aL ab b hS hH hL o t sp = true) (y : World) :
    Calls Tryd.prog 9 #[.agg #[.int .i64 3, .int .i64 s, .int .i64 q, .int .i64 n, .bool aS, .int .i64 aH.toInt, .int .i64 aL.toInt, .int .i64 ab, .int .i64 b, .bool hS, .int .i64 hH, .int .i64 hL, .string o, .int .i64 t, .int .i64 sp]] y fun e w' => e = .returned (.string ((((((⟨#[97, 100, 100, 45, 112, 111, 111, 108]⟩ : ByteArray) ++ (⟨#[32, 115, 101, 115, 115, 105, 111, 110, 61]⟩ : ByteArray) ++ ⟨Ds.toArray⟩) ++ (⟨#[32, 115, 101, 113, 61]⟩ : ByteArray) ++ ⟨Dq.toArray⟩) ++ (⟨#[32, 110, 111, 119, 61]⟩ : ByteArray) ++ ⟨Dn.toArray⟩) ++ (⟨#[32, 97, 116, 61]⟩ : ByteArray) ++ ⟨TA.toArray⟩) ++ (⟨#[32, 98, 105, 116, 115, 61]⟩ : ByteArray) ++ ⟨Db.toArray⟩)) ∧ Below y.heap.size y w' := by
  have HK := hidP (fun w => sCmd ⟨#[115, 113, 97, 98]⟩ (by decide) 3 s q n aS aH aL ab b hS hH hL o t sp ho has_3 w)
  rw [h] at HK
  have HX0 := hidP (Bx.new y [.int .i64 3, .int .i64 s, .int .i64 q, .int .i64 n, .bool aS, .int .i64 aH.toInt, .int .i64 aL.toInt, .int .i64 ab, .int .i64 b, .bool hS, .int .i64 hH, .int .i64 hL, .string o, .int .i64 t, .int .i64 sp] 34)
  have HU := hidP ((Below.refl y.heap.size y).alloc (Nat.le_refl _) (.cells #[.int .i64 3, .int .i64 s, .int .i64 q, .int .i64 n, .bool aS, .int .i64 aH.toInt, .int .i64 aL.toInt, .int .i64 ab, .int .i64 b, .bool hS, .int .i64 hH, .int .i64 hL, .string o, .int .i64 t, .int .i64 sp] 34))
  have ls := Hs.out.1
  have lq := Hq.out.1
  have ln := Hn.out.1
  have lA := HA.out.1
  have lb := Hb.out.1
  clear h
  go_enter Tryd.func9, Tryd.ntmps9
  go_wp2_with fail
  refine (HK.out _).mono ?_
  rintro e w0 ⟨rfl, hb0⟩
  have HX := hidP (HX0.out.later hb0)
  have HB := hidP (HU.out.trans (hb0.mono HU.out.size))
  have z0 := HX.out.lt
  clear hb0 HX0 HU HK
  have c0 := HX.out.cel 0 _ rfl
  have c1 := HX.out.cel 1 _ rfl
  go_wp2_with fail
  refine (has_3 _).mono ?_
  rintro e w' ⟨rfl, rfl⟩
  go_wp2_with fail
  refine (in_sqab_s _).mono ?_
  rintro e w' ⟨rfl, rfl⟩
  go_wp2_with fail
  refine (Hs.out.2 _).mono ?_
  rintro e w1 ⟨rfl, hb⟩
  have hb' : Below w0.heap.size w0 w1 := ((Below.refl _ w0).alloc (Nat.le_refl _) _).trans (hb.mono (by simp))
  have HX := hidP (HX.out.later hb')
  have HB := hidP (HB.out.trans (hb'.mono HB.out.size))
  have z1 := HX.out.lt
  clear hb hb' c1 c0
  have c2 := HX.out.cel 2 _ rfl
  go_wp2_with fail
  refine (in_sqab_q _).mono ?_
  rintro e w' ⟨rfl, rfl⟩
  go_wp2_with fail
  refine (Hq.out.2 _).mono ?_
  rintro e w2 ⟨rfl, hb⟩
  have hb' : Below w1.heap.size w1 w2 := hb
  have HX := hidP (HX.out.later hb')
  have HB := hidP (HB.out.trans (hb'.mono HB.out.size))
  have z2 := HX.out.lt
  clear hb hb' c2
  have c3 := HX.out.cel 3 _ rfl
  go_wp2_with fail
  refine (Hn.out.2 _).mono ?_
  rintro e w3 ⟨rfl, hb⟩
  have hb' : Below w2.heap.size w2 w3 := hb
  have HX := hidP (HX.out.later hb')
  have HB := hidP (HB.out.trans (hb'.mono HB.out.size))
  have z3 := HX.out.lt
  clear hb hb' c3
  have c4 := HX.out.cel 4 _ rfl
  have c5 := HX.out.cel 5 _ rfl
  have c6 := HX.out.cel 6 _ rfl
  have c7 := HX.out.cel 7 _ rfl
  go_wp2_with fail
  refine (in_sqab_a _).mono ?_
  rintro e w' ⟨rfl, rfl⟩
  go_wp2_with fail
  refine (HA.out.2 _).mono ?_
  rintro e w4 ⟨rfl, hb⟩
  have hb' : Below w3.heap.size w3 w4 := hb
  have HX := hidP (HX.out.later hb')
  have HB := hidP (HB.out.trans (hb'.mono HB.out.size))
  have z4 := HX.out.lt
  clear hb hb' c4 c5 c6 c7
  have c8 := HX.out.cel 8 _ rfl
  go_wp2_with fail
  refine (in_sqab_b _).mono ?_
  rintro e w' ⟨rfl, rfl⟩
  go_wp2_with fail
  refine (Hb.out.2 _).mono ?_
  rintro e w5 ⟨rfl, hb⟩
  have hb' : Below w4.heap.size w4 w5 := hb
  have HX := hidP (HX.out.later hb')
  have HB := hidP (HB.out.trans (hb'.mono HB.out.size))
  have z5 := HX.out.lt
  clear hb hb' c8
  go_wp2_with fail
  refine (in_sqab_h _).mono ?_
  rintro e w' ⟨rfl, rfl⟩
  go_wp2_with fail
  refine (in_sqab_o _).mono ?_
  rintro e w' ⟨rfl, rfl⟩
  go_wp2_with fail
  refine (in_sqab_t _).mono ?_
  rintro e w' ⟨rfl, rfl⟩
  go_wp2_with fail
  refine (in_sqab_p _).mono ?_
  rintro e w' ⟨rfl, rfl⟩
  go_wp2_with fail
  go_ret
  exact ⟨ret_ba (by first | rfl | (apply ByteArray.ext; simp)), HB.out⟩

set_option maxRecDepth 10000 in
set_option maxHeartbeats 2000000 in
theorem st_4 (s q n : Int) (aS : Bool) (aH aL : BitVec 64) (ab b : Int) (hS : Bool) (hH hL : Int) (o : ByteArray) (t sp : Int) (Ds : List UInt8) (Hs : Hid (DecIs s Ds)) (Dq : List UInt8) (Hq : Hid (DecIs q Dq)) (Dn : List UInt8) (Hn : Hid (DecIs n Dn)) (TA : List UInt8) (HA : Hid (TA.length ≤ 200 ∧ ∀ w : World, Calls Tryd.prog 22 #[.agg #[.bool aS, .int .i64 aH.toInt, .int .i64 aL.toInt, .int .i64 ab]] w fun e w' => e = .returned (.string ⟨TA.toArray⟩) ∧ Below w.heap.size w w')) (ho : o.size ≤ 1048576) (h : spC ⟨#[115, 113, 97]⟩ 4 s q n aS aH aL ab b hS hH hL o t sp = true) (y : World) :
    Calls Tryd.prog 9 #[.agg #[.int .i64 4, .int .i64 s, .int .i64 q, .int .i64 n, .bool aS, .int .i64 aH.toInt, .int .i64 aL.toInt, .int .i64 ab, .int .i64 b, .bool hS, .int .i64 hH, .int .i64 hL, .string o, .int .i64 t, .int .i64 sp]] y fun e w' => e = .returned (.string (((((⟨#[100, 114, 111, 112, 45, 112, 111, 111, 108]⟩ : ByteArray) ++ (⟨#[32, 115, 101, 115, 115, 105, 111, 110, 61]⟩ : ByteArray) ++ ⟨Ds.toArray⟩) ++ (⟨#[32, 115, 101, 113, 61]⟩ : ByteArray) ++ ⟨Dq.toArray⟩) ++ (⟨#[32, 110, 111, 119, 61]⟩ : ByteArray) ++ ⟨Dn.toArray⟩) ++ (⟨#[32, 97, 116, 61]⟩ : ByteArray) ++ ⟨TA.toArray⟩)) ∧ Below y.heap.size y w' := by
  have HK := hidP (fun w => sCmd ⟨#[115, 113, 97]⟩ (by decide) 4 s q n aS aH aL ab b hS hH hL o t sp ho has_4 w)
  rw [h] at HK
  have HX0 := hidP (Bx.new y [.int .i64 4, .int .i64 s, .int .i64 q, .int .i64 n, .bool aS, .int .i64 aH.toInt, .int .i64 aL.toInt, .int .i64 ab, .int .i64 b, .bool hS, .int .i64 hH, .int .i64 hL, .string o, .int .i64 t, .int .i64 sp] 34)
  have HU := hidP ((Below.refl y.heap.size y).alloc (Nat.le_refl _) (.cells #[.int .i64 4, .int .i64 s, .int .i64 q, .int .i64 n, .bool aS, .int .i64 aH.toInt, .int .i64 aL.toInt, .int .i64 ab, .int .i64 b, .bool hS, .int .i64 hH, .int .i64 hL, .string o, .int .i64 t, .int .i64 sp] 34))
  have ls := Hs.out.1
  have lq := Hq.out.1
  have ln := Hn.out.1
  have lA := HA.out.1
  clear h
  go_enter Tryd.func9, Tryd.ntmps9
  go_wp2_with fail
  refine (HK.out _).mono ?_
  rintro e w0 ⟨rfl, hb0⟩
  have HX := hidP (HX0.out.later hb0)
  have HB := hidP (HU.out.trans (hb0.mono HU.out.size))
  have z0 := HX.out.lt
  clear hb0 HX0 HU HK
  have c0 := HX.out.cel 0 _ rfl
  have c1 := HX.out.cel 1 _ rfl
  go_wp2_with fail
  refine (has_4 _).mono ?_
  rintro e w' ⟨rfl, rfl⟩
  go_wp2_with fail
  refine (in_sqa_s _).mono ?_
  rintro e w' ⟨rfl, rfl⟩
  go_wp2_with fail
  refine (Hs.out.2 _).mono ?_
  rintro e w1 ⟨rfl, hb⟩
  have hb' : Below w0.heap.size w0 w1 := ((Below.refl _ w0).alloc (Nat.le_refl _) _).trans (hb.mono (by simp))
  have HX := hidP (HX.out.later hb')
  have HB := hidP (HB.out.trans (hb'.mono HB.out.size))
  have z1 := HX.out.lt
  clear hb hb' c1 c0
  have c2 := HX.out.cel 2 _ rfl
  go_wp2_with fail
  refine (in_sqa_q _).mono ?_
  rintro e w' ⟨rfl, rfl⟩
  go_wp2_with fail
  refine (Hq.out.2 _).mono ?_
  rintro e w2 ⟨rfl, hb⟩
  have hb' : Below w1.heap.size w1 w2 := hb
  have HX := hidP (HX.out.later hb')
  have HB := hidP (HB.out.trans (hb'.mono HB.out.size))
  have z2 := HX.out.lt
  clear hb hb' c2
  have c3 := HX.out.cel 3 _ rfl
  go_wp2_with fail
  refine (Hn.out.2 _).mono ?_
  rintro e w3 ⟨rfl, hb⟩
  have hb' : Below w2.heap.size w2 w3 := hb
  have HX := hidP (HX.out.later hb')
  have HB := hidP (HB.out.trans (hb'.mono HB.out.size))
  have z3 := HX.out.lt
  clear hb hb' c3
  have c4 := HX.out.cel 4 _ rfl
  have c5 := HX.out.cel 5 _ rfl
  have c6 := HX.out.cel 6 _ rfl
  have c7 := HX.out.cel 7 _ rfl
  go_wp2_with fail
  refine (in_sqa_a _).mono ?_
  rintro e w' ⟨rfl, rfl⟩
  go_wp2_with fail
  refine (HA.out.2 _).mono ?_
  rintro e w4 ⟨rfl, hb⟩
  have hb' : Below w3.heap.size w3 w4 := hb
  have HX := hidP (HX.out.later hb')
  have HB := hidP (HB.out.trans (hb'.mono HB.out.size))
  have z4 := HX.out.lt
  clear hb hb' c4 c5 c6 c7
  go_wp2_with fail
  refine (in_sqa_b _).mono ?_
  rintro e w' ⟨rfl, rfl⟩
  go_wp2_with fail
  refine (in_sqa_h _).mono ?_
  rintro e w' ⟨rfl, rfl⟩
  go_wp2_with fail
  refine (in_sqa_o _).mono ?_
  rintro e w' ⟨rfl, rfl⟩
  go_wp2_with fail
  refine (in_sqa_t _).mono ?_
  rintro e w' ⟨rfl, rfl⟩
  go_wp2_with fail
  refine (in_sqa_p _).mono ?_
  rintro e w' ⟨rfl, rfl⟩
  go_wp2_with fail
  go_ret
  exact ⟨ret_ba (by first | rfl | (apply ByteArray.ext; simp)), HB.out⟩

end Go.Proofs.YtoadckdokdcppaaDoor

namespace Go.Proofs.YtoadckdokdcppaaDoor
open Go.RowKit

set_option maxRecDepth 10000 in
set_option maxHeartbeats 2000000 in
theorem st_5 (s q n : Int) (aS : Bool) (aH aL : BitVec 64) (ab b : Int) (hS : Bool) (hH hL : Int) (o : ByteArray) (t sp : Int) (Ds : List UInt8) (Hs : Hid (DecIs s Ds)) (Dq : List UInt8) (Hq : Hid (DecIs q Dq)) (Dn : List UInt8) (Hn : Hid (DecIs n Dn)) (TA : List UInt8) (HA : Hid (TA.length ≤ 200 ∧ ∀ w : World, Calls Tryd.prog 22 #[.agg #[.bool aS, .int .i64 aH.toInt, .int .i64 aL.toInt, .int .i64 ab]] w fun e w' => e = .returned (.string ⟨TA.toArray⟩) ∧ Below w.heap.size w w')) (ho : o.size ≤ 1048576) (h : spC ⟨#[115, 113, 97, 111]⟩ 5 s q n aS aH aL ab b hS hH hL o t sp = true) (y : World) :
    Calls Tryd.prog 9 #[.agg #[.int .i64 5, .int .i64 s, .int .i64 q, .int .i64 n, .bool aS, .int .i64 aH.toInt, .int .i64 aL.toInt, .int .i64 ab, .int .i64 b, .bool hS, .int .i64 hH, .int .i64 hL, .string o, .int .i64 t, .int .i64 sp]] y fun e w' => e = .returned (.string ((((((⟨#[99, 97, 114, 118, 101]⟩ : ByteArray) ++ (⟨#[32, 115, 101, 115, 115, 105, 111, 110, 61]⟩ : ByteArray) ++ ⟨Ds.toArray⟩) ++ (⟨#[32, 115, 101, 113, 61]⟩ : ByteArray) ++ ⟨Dq.toArray⟩) ++ (⟨#[32, 110, 111, 119, 61]⟩ : ByteArray) ++ ⟨Dn.toArray⟩) ++ (⟨#[32, 97, 116, 61]⟩ : ByteArray) ++ ⟨TA.toArray⟩) ++ (⟨#[32, 111, 119, 110, 101, 114, 61]⟩ : ByteArray) ++ o)) ∧ Below y.heap.size y w' := by
  have HK := hidP (fun w => sCmd ⟨#[115, 113, 97, 111]⟩ (by decide) 5 s q n aS aH aL ab b hS hH hL o t sp ho has_5 w)
  rw [h] at HK
  have HX0 := hidP (Bx.new y [.int .i64 5, .int .i64 s, .int .i64 q, .int .i64 n, .bool aS, .int .i64 aH.toInt, .int .i64 aL.toInt, .int .i64 ab, .int .i64 b, .bool hS, .int .i64 hH, .int .i64 hL, .string o, .int .i64 t, .int .i64 sp] 34)
  have HU := hidP ((Below.refl y.heap.size y).alloc (Nat.le_refl _) (.cells #[.int .i64 5, .int .i64 s, .int .i64 q, .int .i64 n, .bool aS, .int .i64 aH.toInt, .int .i64 aL.toInt, .int .i64 ab, .int .i64 b, .bool hS, .int .i64 hH, .int .i64 hL, .string o, .int .i64 t, .int .i64 sp] 34))
  have ls := Hs.out.1
  have lq := Hq.out.1
  have ln := Hn.out.1
  have lA := HA.out.1
  clear h
  go_enter Tryd.func9, Tryd.ntmps9
  go_wp2_with fail
  refine (HK.out _).mono ?_
  rintro e w0 ⟨rfl, hb0⟩
  have HX := hidP (HX0.out.later hb0)
  have HB := hidP (HU.out.trans (hb0.mono HU.out.size))
  have z0 := HX.out.lt
  clear hb0 HX0 HU HK
  have c0 := HX.out.cel 0 _ rfl
  have c1 := HX.out.cel 1 _ rfl
  go_wp2_with fail
  refine (has_5 _).mono ?_
  rintro e w' ⟨rfl, rfl⟩
  go_wp2_with fail
  refine (in_sqao_s _).mono ?_
  rintro e w' ⟨rfl, rfl⟩
  go_wp2_with fail
  refine (Hs.out.2 _).mono ?_
  rintro e w1 ⟨rfl, hb⟩
  have hb' : Below w0.heap.size w0 w1 := ((Below.refl _ w0).alloc (Nat.le_refl _) _).trans (hb.mono (by simp))
  have HX := hidP (HX.out.later hb')
  have HB := hidP (HB.out.trans (hb'.mono HB.out.size))
  have z1 := HX.out.lt
  clear hb hb' c1 c0
  have c2 := HX.out.cel 2 _ rfl
  go_wp2_with fail
  refine (in_sqao_q _).mono ?_
  rintro e w' ⟨rfl, rfl⟩
  go_wp2_with fail
  refine (Hq.out.2 _).mono ?_
  rintro e w2 ⟨rfl, hb⟩
  have hb' : Below w1.heap.size w1 w2 := hb
  have HX := hidP (HX.out.later hb')
  have HB := hidP (HB.out.trans (hb'.mono HB.out.size))
  have z2 := HX.out.lt
  clear hb hb' c2
  have c3 := HX.out.cel 3 _ rfl
  go_wp2_with fail
  refine (Hn.out.2 _).mono ?_
  rintro e w3 ⟨rfl, hb⟩
  have hb' : Below w2.heap.size w2 w3 := hb
  have HX := hidP (HX.out.later hb')
  have HB := hidP (HB.out.trans (hb'.mono HB.out.size))
  have z3 := HX.out.lt
  clear hb hb' c3
  have c4 := HX.out.cel 4 _ rfl
  have c5 := HX.out.cel 5 _ rfl
  have c6 := HX.out.cel 6 _ rfl
  have c7 := HX.out.cel 7 _ rfl
  go_wp2_with fail
  refine (in_sqao_a _).mono ?_
  rintro e w' ⟨rfl, rfl⟩
  go_wp2_with fail
  refine (HA.out.2 _).mono ?_
  rintro e w4 ⟨rfl, hb⟩
  have hb' : Below w3.heap.size w3 w4 := hb
  have HX := hidP (HX.out.later hb')
  have HB := hidP (HB.out.trans (hb'.mono HB.out.size))
  have z4 := HX.out.lt
  clear hb hb' c4 c5 c6 c7
  have c12 := HX.out.cel 12 _ rfl
  go_wp2_with fail
  refine (in_sqao_b _).mono ?_
  rintro e w' ⟨rfl, rfl⟩
  go_wp2_with fail
  refine (in_sqao_h _).mono ?_
  rintro e w' ⟨rfl, rfl⟩
  go_wp2_with fail
  refine (in_sqao_o _).mono ?_
  rintro e w' ⟨rfl, rfl⟩
  go_wp2_with fail
  refine (in_sqao_t _).mono ?_
  rintro e w' ⟨rfl, rfl⟩
  go_wp2_with fail
  refine (in_sqao_p _).mono ?_
  rintro e w' ⟨rfl, rfl⟩
  go_wp2_with fail
  go_ret
  exact ⟨ret_ba (by first | rfl | (apply ByteArray.ext; simp)), HB.out⟩

set_option maxRecDepth 10000 in
set_option maxHeartbeats 2000000 in
theorem st_6 (s q n : Int) (aS : Bool) (aH aL : BitVec 64) (ab b : Int) (hS : Bool) (hH hL : Int) (o : ByteArray) (t sp : Int) (Ds : List UInt8) (Hs : Hid (DecIs s Ds)) (Dq : List UInt8) (Hq : Hid (DecIs q Dq)) (Dn : List UInt8) (Hn : Hid (DecIs n Dn)) (TA : List UInt8) (HA : Hid (TA.length ≤ 200 ∧ ∀ w : World, Calls Tryd.prog 22 #[.agg #[.bool aS, .int .i64 aH.toInt, .int .i64 aL.toInt, .int .i64 ab]] w fun e w' => e = .returned (.string ⟨TA.toArray⟩) ∧ Below w.heap.size w w')) (ho : o.size ≤ 1048576) (h : spC ⟨#[115, 113, 97, 111]⟩ 6 s q n aS aH aL ab b hS hH hL o t sp = true) (y : World) :
    Calls Tryd.prog 9 #[.agg #[.int .i64 6, .int .i64 s, .int .i64 q, .int .i64 n, .bool aS, .int .i64 aH.toInt, .int .i64 aL.toInt, .int .i64 ab, .int .i64 b, .bool hS, .int .i64 hH, .int .i64 hL, .string o, .int .i64 t, .int .i64 sp]] y fun e w' => e = .returned (.string ((((((⟨#[102, 114, 101, 101]⟩ : ByteArray) ++ (⟨#[32, 115, 101, 115, 115, 105, 111, 110, 61]⟩ : ByteArray) ++ ⟨Ds.toArray⟩) ++ (⟨#[32, 115, 101, 113, 61]⟩ : ByteArray) ++ ⟨Dq.toArray⟩) ++ (⟨#[32, 110, 111, 119, 61]⟩ : ByteArray) ++ ⟨Dn.toArray⟩) ++ (⟨#[32, 97, 116, 61]⟩ : ByteArray) ++ ⟨TA.toArray⟩) ++ (⟨#[32, 111, 119, 110, 101, 114, 61]⟩ : ByteArray) ++ o)) ∧ Below y.heap.size y w' := by
  have HK := hidP (fun w => sCmd ⟨#[115, 113, 97, 111]⟩ (by decide) 6 s q n aS aH aL ab b hS hH hL o t sp ho has_6 w)
  rw [h] at HK
  have HX0 := hidP (Bx.new y [.int .i64 6, .int .i64 s, .int .i64 q, .int .i64 n, .bool aS, .int .i64 aH.toInt, .int .i64 aL.toInt, .int .i64 ab, .int .i64 b, .bool hS, .int .i64 hH, .int .i64 hL, .string o, .int .i64 t, .int .i64 sp] 34)
  have HU := hidP ((Below.refl y.heap.size y).alloc (Nat.le_refl _) (.cells #[.int .i64 6, .int .i64 s, .int .i64 q, .int .i64 n, .bool aS, .int .i64 aH.toInt, .int .i64 aL.toInt, .int .i64 ab, .int .i64 b, .bool hS, .int .i64 hH, .int .i64 hL, .string o, .int .i64 t, .int .i64 sp] 34))
  have ls := Hs.out.1
  have lq := Hq.out.1
  have ln := Hn.out.1
  have lA := HA.out.1
  clear h
  go_enter Tryd.func9, Tryd.ntmps9
  go_wp2_with fail
  refine (HK.out _).mono ?_
  rintro e w0 ⟨rfl, hb0⟩
  have HX := hidP (HX0.out.later hb0)
  have HB := hidP (HU.out.trans (hb0.mono HU.out.size))
  have z0 := HX.out.lt
  clear hb0 HX0 HU HK
  have c0 := HX.out.cel 0 _ rfl
  have c1 := HX.out.cel 1 _ rfl
  go_wp2_with fail
  refine (has_6 _).mono ?_
  rintro e w' ⟨rfl, rfl⟩
  go_wp2_with fail
  refine (in_sqao_s _).mono ?_
  rintro e w' ⟨rfl, rfl⟩
  go_wp2_with fail
  refine (Hs.out.2 _).mono ?_
  rintro e w1 ⟨rfl, hb⟩
  have hb' : Below w0.heap.size w0 w1 := ((Below.refl _ w0).alloc (Nat.le_refl _) _).trans (hb.mono (by simp))
  have HX := hidP (HX.out.later hb')
  have HB := hidP (HB.out.trans (hb'.mono HB.out.size))
  have z1 := HX.out.lt
  clear hb hb' c1 c0
  have c2 := HX.out.cel 2 _ rfl
  go_wp2_with fail
  refine (in_sqao_q _).mono ?_
  rintro e w' ⟨rfl, rfl⟩
  go_wp2_with fail
  refine (Hq.out.2 _).mono ?_
  rintro e w2 ⟨rfl, hb⟩
  have hb' : Below w1.heap.size w1 w2 := hb
  have HX := hidP (HX.out.later hb')
  have HB := hidP (HB.out.trans (hb'.mono HB.out.size))
  have z2 := HX.out.lt
  clear hb hb' c2
  have c3 := HX.out.cel 3 _ rfl
  go_wp2_with fail
  refine (Hn.out.2 _).mono ?_
  rintro e w3 ⟨rfl, hb⟩
  have hb' : Below w2.heap.size w2 w3 := hb
  have HX := hidP (HX.out.later hb')
  have HB := hidP (HB.out.trans (hb'.mono HB.out.size))
  have z3 := HX.out.lt
  clear hb hb' c3
  have c4 := HX.out.cel 4 _ rfl
  have c5 := HX.out.cel 5 _ rfl
  have c6 := HX.out.cel 6 _ rfl
  have c7 := HX.out.cel 7 _ rfl
  go_wp2_with fail
  refine (in_sqao_a _).mono ?_
  rintro e w' ⟨rfl, rfl⟩
  go_wp2_with fail
  refine (HA.out.2 _).mono ?_
  rintro e w4 ⟨rfl, hb⟩
  have hb' : Below w3.heap.size w3 w4 := hb
  have HX := hidP (HX.out.later hb')
  have HB := hidP (HB.out.trans (hb'.mono HB.out.size))
  have z4 := HX.out.lt
  clear hb hb' c4 c5 c6 c7
  have c12 := HX.out.cel 12 _ rfl
  go_wp2_with fail
  refine (in_sqao_b _).mono ?_
  rintro e w' ⟨rfl, rfl⟩
  go_wp2_with fail
  refine (in_sqao_h _).mono ?_
  rintro e w' ⟨rfl, rfl⟩
  go_wp2_with fail
  refine (in_sqao_o _).mono ?_
  rintro e w' ⟨rfl, rfl⟩
  go_wp2_with fail
  refine (in_sqao_t _).mono ?_
  rintro e w' ⟨rfl, rfl⟩
  go_wp2_with fail
  refine (in_sqao_p _).mono ?_
  rintro e w' ⟨rfl, rfl⟩
  go_wp2_with fail
  go_ret
  exact ⟨ret_ba (by first | rfl | (apply ByteArray.ext; simp)), HB.out⟩

end Go.Proofs.YtoadckdokdcppaaDoor

namespace Go.Proofs.YtoadckdokdcppaaDoor
open Go.RowKit

set_option maxRecDepth 10000 in
set_option maxHeartbeats 2000000 in
theorem st_7 (s q n : Int) (aS : Bool) (aH aL : BitVec 64) (ab b : Int) (hS : Bool) (hH hL : Int) (o : ByteArray) (t sp : Int) (Ds : List UInt8) (Hs : Hid (DecIs s Ds)) (Dq : List UInt8) (Hq : Hid (DecIs q Dq)) (Dn : List UInt8) (Hn : Hid (DecIs n Dn)) (TA : List UInt8) (HA : Hid (TA.length ≤ 200 ∧ ∀ w : World, Calls Tryd.prog 22 #[.agg #[.bool aS, .int .i64 aH.toInt, .int .i64 aL.toInt, .int .i64 ab]] w fun e w' => e = .returned (.string ⟨TA.toArray⟩) ∧ Below w.heap.size w w')) (Dp : List UInt8) (Hp : Hid (DecIs sp Dp)) (ho : o.size ≤ 1048576) (h : spC ⟨#[115, 113, 97, 111, 112]⟩ 7 s q n aS aH aL ab b hS hH hL o t sp = true) (y : World) :
    Calls Tryd.prog 9 #[.agg #[.int .i64 7, .int .i64 s, .int .i64 q, .int .i64 n, .bool aS, .int .i64 aH.toInt, .int .i64 aL.toInt, .int .i64 ab, .int .i64 b, .bool hS, .int .i64 hH, .int .i64 hL, .string o, .int .i64 t, .int .i64 sp]] y fun e w' => e = .returned (.string (((((((⟨#[103, 114, 97, 110, 116]⟩ : ByteArray) ++ (⟨#[32, 115, 101, 115, 115, 105, 111, 110, 61]⟩ : ByteArray) ++ ⟨Ds.toArray⟩) ++ (⟨#[32, 115, 101, 113, 61]⟩ : ByteArray) ++ ⟨Dq.toArray⟩) ++ (⟨#[32, 110, 111, 119, 61]⟩ : ByteArray) ++ ⟨Dn.toArray⟩) ++ (⟨#[32, 97, 116, 61]⟩ : ByteArray) ++ ⟨TA.toArray⟩) ++ (⟨#[32, 111, 119, 110, 101, 114, 61]⟩ : ByteArray) ++ o) ++ (⟨#[32, 115, 112, 97, 110, 61]⟩ : ByteArray) ++ ⟨Dp.toArray⟩)) ∧ Below y.heap.size y w' := by
  have HK := hidP (fun w => sCmd ⟨#[115, 113, 97, 111, 112]⟩ (by decide) 7 s q n aS aH aL ab b hS hH hL o t sp ho has_7 w)
  rw [h] at HK
  have HX0 := hidP (Bx.new y [.int .i64 7, .int .i64 s, .int .i64 q, .int .i64 n, .bool aS, .int .i64 aH.toInt, .int .i64 aL.toInt, .int .i64 ab, .int .i64 b, .bool hS, .int .i64 hH, .int .i64 hL, .string o, .int .i64 t, .int .i64 sp] 34)
  have HU := hidP ((Below.refl y.heap.size y).alloc (Nat.le_refl _) (.cells #[.int .i64 7, .int .i64 s, .int .i64 q, .int .i64 n, .bool aS, .int .i64 aH.toInt, .int .i64 aL.toInt, .int .i64 ab, .int .i64 b, .bool hS, .int .i64 hH, .int .i64 hL, .string o, .int .i64 t, .int .i64 sp] 34))
  have ls := Hs.out.1
  have lq := Hq.out.1
  have ln := Hn.out.1
  have lA := HA.out.1
  have lp := Hp.out.1
  clear h
  go_enter Tryd.func9, Tryd.ntmps9
  go_wp2_with fail
  refine (HK.out _).mono ?_
  rintro e w0 ⟨rfl, hb0⟩
  have HX := hidP (HX0.out.later hb0)
  have HB := hidP (HU.out.trans (hb0.mono HU.out.size))
  have z0 := HX.out.lt
  clear hb0 HX0 HU HK
  have c0 := HX.out.cel 0 _ rfl
  have c1 := HX.out.cel 1 _ rfl
  go_wp2_with fail
  refine (has_7 _).mono ?_
  rintro e w' ⟨rfl, rfl⟩
  go_wp2_with fail
  refine (in_sqaop_s _).mono ?_
  rintro e w' ⟨rfl, rfl⟩
  go_wp2_with fail
  refine (Hs.out.2 _).mono ?_
  rintro e w1 ⟨rfl, hb⟩
  have hb' : Below w0.heap.size w0 w1 := ((Below.refl _ w0).alloc (Nat.le_refl _) _).trans (hb.mono (by simp))
  have HX := hidP (HX.out.later hb')
  have HB := hidP (HB.out.trans (hb'.mono HB.out.size))
  have z1 := HX.out.lt
  clear hb hb' c1 c0
  have c2 := HX.out.cel 2 _ rfl
  go_wp2_with fail
  refine (in_sqaop_q _).mono ?_
  rintro e w' ⟨rfl, rfl⟩
  go_wp2_with fail
  refine (Hq.out.2 _).mono ?_
  rintro e w2 ⟨rfl, hb⟩
  have hb' : Below w1.heap.size w1 w2 := hb
  have HX := hidP (HX.out.later hb')
  have HB := hidP (HB.out.trans (hb'.mono HB.out.size))
  have z2 := HX.out.lt
  clear hb hb' c2
  have c3 := HX.out.cel 3 _ rfl
  go_wp2_with fail
  refine (Hn.out.2 _).mono ?_
  rintro e w3 ⟨rfl, hb⟩
  have hb' : Below w2.heap.size w2 w3 := hb
  have HX := hidP (HX.out.later hb')
  have HB := hidP (HB.out.trans (hb'.mono HB.out.size))
  have z3 := HX.out.lt
  clear hb hb' c3
  have c4 := HX.out.cel 4 _ rfl
  have c5 := HX.out.cel 5 _ rfl
  have c6 := HX.out.cel 6 _ rfl
  have c7 := HX.out.cel 7 _ rfl
  go_wp2_with fail
  refine (in_sqaop_a _).mono ?_
  rintro e w' ⟨rfl, rfl⟩
  go_wp2_with fail
  refine (HA.out.2 _).mono ?_
  rintro e w4 ⟨rfl, hb⟩
  have hb' : Below w3.heap.size w3 w4 := hb
  have HX := hidP (HX.out.later hb')
  have HB := hidP (HB.out.trans (hb'.mono HB.out.size))
  have z4 := HX.out.lt
  clear hb hb' c4 c5 c6 c7
  have c12 := HX.out.cel 12 _ rfl
  have c14 := HX.out.cel 14 _ rfl
  go_wp2_with fail
  refine (in_sqaop_b _).mono ?_
  rintro e w' ⟨rfl, rfl⟩
  go_wp2_with fail
  refine (in_sqaop_h _).mono ?_
  rintro e w' ⟨rfl, rfl⟩
  go_wp2_with fail
  refine (in_sqaop_o _).mono ?_
  rintro e w' ⟨rfl, rfl⟩
  go_wp2_with fail
  refine (in_sqaop_t _).mono ?_
  rintro e w' ⟨rfl, rfl⟩
  go_wp2_with fail
  refine (in_sqaop_p _).mono ?_
  rintro e w' ⟨rfl, rfl⟩
  go_wp2_with fail
  refine (Hp.out.2 _).mono ?_
  rintro e w5 ⟨rfl, hb⟩
  have hb' : Below w4.heap.size w4 w5 := hb
  have HX := hidP (HX.out.later hb')
  have HB := hidP (HB.out.trans (hb'.mono HB.out.size))
  have z5 := HX.out.lt
  clear hb hb' c12 c14
  go_wp2_with fail
  go_ret
  exact ⟨ret_ba (by first | rfl | (apply ByteArray.ext; simp)), HB.out⟩

set_option maxRecDepth 10000 in
set_option maxHeartbeats 2000000 in
theorem st_8 (s q n : Int) (aS : Bool) (aH aL : BitVec 64) (ab b : Int) (hS : Bool) (hH hL : Int) (o : ByteArray) (t sp : Int) (Ds : List UInt8) (Hs : Hid (DecIs s Ds)) (Dq : List UInt8) (Hq : Hid (DecIs q Dq)) (Dn : List UInt8) (Hn : Hid (DecIs n Dn)) (TH : List UInt8) (HH : Hid (TH.length ≤ 200 ∧ ∀ w : World, Calls Tryd.prog 23 #[.agg #[.bool hS, .int .i64 hH, .int .i64 hL]] w fun e w' => e = .returned (.string ⟨TH.toArray⟩) ∧ Below w.heap.size w w')) (Dp : List UInt8) (Hp : Hid (DecIs sp Dp)) (ho : o.size ≤ 1048576) (h : spC ⟨#[115, 113, 104, 111, 112]⟩ 8 s q n aS aH aL ab b hS hH hL o t sp = true) (y : World) :
    Calls Tryd.prog 9 #[.agg #[.int .i64 8, .int .i64 s, .int .i64 q, .int .i64 n, .bool aS, .int .i64 aH.toInt, .int .i64 aL.toInt, .int .i64 ab, .int .i64 b, .bool hS, .int .i64 hH, .int .i64 hL, .string o, .int .i64 t, .int .i64 sp]] y fun e w' => e = .returned (.string (((((((⟨#[116, 97, 107, 101]⟩ : ByteArray) ++ (⟨#[32, 115, 101, 115, 115, 105, 111, 110, 61]⟩ : ByteArray) ++ ⟨Ds.toArray⟩) ++ (⟨#[32, 115, 101, 113, 61]⟩ : ByteArray) ++ ⟨Dq.toArray⟩) ++ (⟨#[32, 110, 111, 119, 61]⟩ : ByteArray) ++ ⟨Dn.toArray⟩) ++ (⟨#[32, 104, 111, 115, 116, 61]⟩ : ByteArray) ++ ⟨TH.toArray⟩) ++ (⟨#[32, 111, 119, 110, 101, 114, 61]⟩ : ByteArray) ++ o) ++ (⟨#[32, 115, 112, 97, 110, 61]⟩ : ByteArray) ++ ⟨Dp.toArray⟩)) ∧ Below y.heap.size y w' := by
  have HK := hidP (fun w => sCmd ⟨#[115, 113, 104, 111, 112]⟩ (by decide) 8 s q n aS aH aL ab b hS hH hL o t sp ho has_8 w)
  rw [h] at HK
  have HX0 := hidP (Bx.new y [.int .i64 8, .int .i64 s, .int .i64 q, .int .i64 n, .bool aS, .int .i64 aH.toInt, .int .i64 aL.toInt, .int .i64 ab, .int .i64 b, .bool hS, .int .i64 hH, .int .i64 hL, .string o, .int .i64 t, .int .i64 sp] 34)
  have HU := hidP ((Below.refl y.heap.size y).alloc (Nat.le_refl _) (.cells #[.int .i64 8, .int .i64 s, .int .i64 q, .int .i64 n, .bool aS, .int .i64 aH.toInt, .int .i64 aL.toInt, .int .i64 ab, .int .i64 b, .bool hS, .int .i64 hH, .int .i64 hL, .string o, .int .i64 t, .int .i64 sp] 34))
  have ls := Hs.out.1
  have lq := Hq.out.1
  have ln := Hn.out.1
  have lH := HH.out.1
  have lp := Hp.out.1
  clear h
  go_enter Tryd.func9, Tryd.ntmps9
  go_wp2_with fail
  refine (HK.out _).mono ?_
  rintro e w0 ⟨rfl, hb0⟩
  have HX := hidP (HX0.out.later hb0)
  have HB := hidP (HU.out.trans (hb0.mono HU.out.size))
  have z0 := HX.out.lt
  clear hb0 HX0 HU HK
  have c0 := HX.out.cel 0 _ rfl
  have c1 := HX.out.cel 1 _ rfl
  go_wp2_with fail
  refine (has_8 _).mono ?_
  rintro e w' ⟨rfl, rfl⟩
  go_wp2_with fail
  refine (in_sqhop_s _).mono ?_
  rintro e w' ⟨rfl, rfl⟩
  go_wp2_with fail
  refine (Hs.out.2 _).mono ?_
  rintro e w1 ⟨rfl, hb⟩
  have hb' : Below w0.heap.size w0 w1 := ((Below.refl _ w0).alloc (Nat.le_refl _) _).trans (hb.mono (by simp))
  have HX := hidP (HX.out.later hb')
  have HB := hidP (HB.out.trans (hb'.mono HB.out.size))
  have z1 := HX.out.lt
  clear hb hb' c1 c0
  have c2 := HX.out.cel 2 _ rfl
  go_wp2_with fail
  refine (in_sqhop_q _).mono ?_
  rintro e w' ⟨rfl, rfl⟩
  go_wp2_with fail
  refine (Hq.out.2 _).mono ?_
  rintro e w2 ⟨rfl, hb⟩
  have hb' : Below w1.heap.size w1 w2 := hb
  have HX := hidP (HX.out.later hb')
  have HB := hidP (HB.out.trans (hb'.mono HB.out.size))
  have z2 := HX.out.lt
  clear hb hb' c2
  have c3 := HX.out.cel 3 _ rfl
  go_wp2_with fail
  refine (Hn.out.2 _).mono ?_
  rintro e w3 ⟨rfl, hb⟩
  have hb' : Below w2.heap.size w2 w3 := hb
  have HX := hidP (HX.out.later hb')
  have HB := hidP (HB.out.trans (hb'.mono HB.out.size))
  have z3 := HX.out.lt
  clear hb hb' c3
  have c9 := HX.out.cel 9 _ rfl
  have c10 := HX.out.cel 10 _ rfl
  have c11 := HX.out.cel 11 _ rfl
  go_wp2_with fail
  refine (in_sqhop_a _).mono ?_
  rintro e w' ⟨rfl, rfl⟩
  go_wp2_with fail
  refine (in_sqhop_b _).mono ?_
  rintro e w' ⟨rfl, rfl⟩
  go_wp2_with fail
  refine (in_sqhop_h _).mono ?_
  rintro e w' ⟨rfl, rfl⟩
  go_wp2_with fail
  refine (HH.out.2 _).mono ?_
  rintro e w4 ⟨rfl, hb⟩
  have hb' : Below w3.heap.size w3 w4 := hb
  have HX := hidP (HX.out.later hb')
  have HB := hidP (HB.out.trans (hb'.mono HB.out.size))
  have z4 := HX.out.lt
  clear hb hb' c9 c10 c11
  have c12 := HX.out.cel 12 _ rfl
  have c14 := HX.out.cel 14 _ rfl
  go_wp2_with fail
  refine (in_sqhop_o _).mono ?_
  rintro e w' ⟨rfl, rfl⟩
  go_wp2_with fail
  refine (in_sqhop_t _).mono ?_
  rintro e w' ⟨rfl, rfl⟩
  go_wp2_with fail
  refine (in_sqhop_p _).mono ?_
  rintro e w' ⟨rfl, rfl⟩
  go_wp2_with fail
  refine (Hp.out.2 _).mono ?_
  rintro e w5 ⟨rfl, hb⟩
  have hb' : Below w4.heap.size w4 w5 := hb
  have HX := hidP (HX.out.later hb')
  have HB := hidP (HB.out.trans (hb'.mono HB.out.size))
  have z5 := HX.out.lt
  clear hb hb' c12 c14
  go_wp2_with fail
  go_ret
  exact ⟨ret_ba (by first | rfl | (apply ByteArray.ext; simp)), HB.out⟩

end Go.Proofs.YtoadckdokdcppaaDoor

namespace Go.Proofs.YtoadckdokdcppaaDoor
open Go.RowKit

set_option maxRecDepth 10000 in
set_option maxHeartbeats 2000000 in
theorem st_9 (s q n : Int) (aS : Bool) (aH aL : BitVec 64) (ab b : Int) (hS : Bool) (hH hL : Int) (o : ByteArray) (t sp : Int) (Ds : List UInt8) (Hs : Hid (DecIs s Ds)) (Dq : List UInt8) (Hq : Hid (DecIs q Dq)) (Dn : List UInt8) (Hn : Hid (DecIs n Dn)) (TH : List UInt8) (HH : Hid (TH.length ≤ 200 ∧ ∀ w : World, Calls Tryd.prog 23 #[.agg #[.bool hS, .int .i64 hH, .int .i64 hL]] w fun e w' => e = .returned (.string ⟨TH.toArray⟩) ∧ Below w.heap.size w w')) (Dt : List UInt8) (Ht : Hid (DecIs t Dt)) (Dp : List UInt8) (Hp : Hid (DecIs sp Dp)) (ho : o.size ≤ 1048576) (h : spC ⟨#[115, 113, 104, 116, 112]⟩ 9 s q n aS aH aL ab b hS hH hL o t sp = true) (y : World) :
    Calls Tryd.prog 9 #[.agg #[.int .i64 9, .int .i64 s, .int .i64 q, .int .i64 n, .bool aS, .int .i64 aH.toInt, .int .i64 aL.toInt, .int .i64 ab, .int .i64 b, .bool hS, .int .i64 hH, .int .i64 hL, .string o, .int .i64 t, .int .i64 sp]] y fun e w' => e = .returned (.string (((((((⟨#[114, 101, 110, 101, 119]⟩ : ByteArray) ++ (⟨#[32, 115, 101, 115, 115, 105, 111, 110, 61]⟩ : ByteArray) ++ ⟨Ds.toArray⟩) ++ (⟨#[32, 115, 101, 113, 61]⟩ : ByteArray) ++ ⟨Dq.toArray⟩) ++ (⟨#[32, 110, 111, 119, 61]⟩ : ByteArray) ++ ⟨Dn.toArray⟩) ++ (⟨#[32, 104, 111, 115, 116, 61]⟩ : ByteArray) ++ ⟨TH.toArray⟩) ++ (⟨#[32, 116, 111, 107, 101, 110, 61]⟩ : ByteArray) ++ ⟨Dt.toArray⟩) ++ (⟨#[32, 115, 112, 97, 110, 61]⟩ : ByteArray) ++ ⟨Dp.toArray⟩)) ∧ Below y.heap.size y w' := by
  have HK := hidP (fun w => sCmd ⟨#[115, 113, 104, 116, 112]⟩ (by decide) 9 s q n aS aH aL ab b hS hH hL o t sp ho has_9 w)
  rw [h] at HK
  have HX0 := hidP (Bx.new y [.int .i64 9, .int .i64 s, .int .i64 q, .int .i64 n, .bool aS, .int .i64 aH.toInt, .int .i64 aL.toInt, .int .i64 ab, .int .i64 b, .bool hS, .int .i64 hH, .int .i64 hL, .string o, .int .i64 t, .int .i64 sp] 34)
  have HU := hidP ((Below.refl y.heap.size y).alloc (Nat.le_refl _) (.cells #[.int .i64 9, .int .i64 s, .int .i64 q, .int .i64 n, .bool aS, .int .i64 aH.toInt, .int .i64 aL.toInt, .int .i64 ab, .int .i64 b, .bool hS, .int .i64 hH, .int .i64 hL, .string o, .int .i64 t, .int .i64 sp] 34))
  have ls := Hs.out.1
  have lq := Hq.out.1
  have ln := Hn.out.1
  have lH := HH.out.1
  have lt := Ht.out.1
  have lp := Hp.out.1
  clear h
  go_enter Tryd.func9, Tryd.ntmps9
  go_wp2_with fail
  refine (HK.out _).mono ?_
  rintro e w0 ⟨rfl, hb0⟩
  have HX := hidP (HX0.out.later hb0)
  have HB := hidP (HU.out.trans (hb0.mono HU.out.size))
  have z0 := HX.out.lt
  clear hb0 HX0 HU HK
  have c0 := HX.out.cel 0 _ rfl
  have c1 := HX.out.cel 1 _ rfl
  go_wp2_with fail
  refine (has_9 _).mono ?_
  rintro e w' ⟨rfl, rfl⟩
  go_wp2_with fail
  refine (in_sqhtp_s _).mono ?_
  rintro e w' ⟨rfl, rfl⟩
  go_wp2_with fail
  refine (Hs.out.2 _).mono ?_
  rintro e w1 ⟨rfl, hb⟩
  have hb' : Below w0.heap.size w0 w1 := ((Below.refl _ w0).alloc (Nat.le_refl _) _).trans (hb.mono (by simp))
  have HX := hidP (HX.out.later hb')
  have HB := hidP (HB.out.trans (hb'.mono HB.out.size))
  have z1 := HX.out.lt
  clear hb hb' c1 c0
  have c2 := HX.out.cel 2 _ rfl
  go_wp2_with fail
  refine (in_sqhtp_q _).mono ?_
  rintro e w' ⟨rfl, rfl⟩
  go_wp2_with fail
  refine (Hq.out.2 _).mono ?_
  rintro e w2 ⟨rfl, hb⟩
  have hb' : Below w1.heap.size w1 w2 := hb
  have HX := hidP (HX.out.later hb')
  have HB := hidP (HB.out.trans (hb'.mono HB.out.size))
  have z2 := HX.out.lt
  clear hb hb' c2
  have c3 := HX.out.cel 3 _ rfl
  go_wp2_with fail
  refine (Hn.out.2 _).mono ?_
  rintro e w3 ⟨rfl, hb⟩
  have hb' : Below w2.heap.size w2 w3 := hb
  have HX := hidP (HX.out.later hb')
  have HB := hidP (HB.out.trans (hb'.mono HB.out.size))
  have z3 := HX.out.lt
  clear hb hb' c3
  have c9 := HX.out.cel 9 _ rfl
  have c10 := HX.out.cel 10 _ rfl
  have c11 := HX.out.cel 11 _ rfl
  go_wp2_with fail
  refine (in_sqhtp_a _).mono ?_
  rintro e w' ⟨rfl, rfl⟩
  go_wp2_with fail
  refine (in_sqhtp_b _).mono ?_
  rintro e w' ⟨rfl, rfl⟩
  go_wp2_with fail
  refine (in_sqhtp_h _).mono ?_
  rintro e w' ⟨rfl, rfl⟩
  go_wp2_with fail
  refine (HH.out.2 _).mono ?_
  rintro e w4 ⟨rfl, hb⟩
  have hb' : Below w3.heap.size w3 w4 := hb
  have HX := hidP (HX.out.later hb')
  have HB := hidP (HB.out.trans (hb'.mono HB.out.size))
  have z4 := HX.out.lt
  clear hb hb' c9 c10 c11
  have c13 := HX.out.cel 13 _ rfl
  go_wp2_with fail
  refine (in_sqhtp_o _).mono ?_
  rintro e w' ⟨rfl, rfl⟩
  go_wp2_with fail
  refine (in_sqhtp_t _).mono ?_
  rintro e w' ⟨rfl, rfl⟩
  go_wp2_with fail
  refine (Ht.out.2 _).mono ?_
  rintro e w5 ⟨rfl, hb⟩
  have hb' : Below w4.heap.size w4 w5 := hb
  have HX := hidP (HX.out.later hb')
  have HB := hidP (HB.out.trans (hb'.mono HB.out.size))
  have z5 := HX.out.lt
  clear hb hb' c13
  have c14 := HX.out.cel 14 _ rfl
  go_wp2_with fail
  refine (in_sqhtp_p _).mono ?_
  rintro e w' ⟨rfl, rfl⟩
  go_wp2_with fail
  refine (Hp.out.2 _).mono ?_
  rintro e w6 ⟨rfl, hb⟩
  have hb' : Below w5.heap.size w5 w6 := hb
  have HX := hidP (HX.out.later hb')
  have HB := hidP (HB.out.trans (hb'.mono HB.out.size))
  have z6 := HX.out.lt
  clear hb hb' c14
  go_wp2_with fail
  go_ret
  exact ⟨ret_ba (by first | rfl | (apply ByteArray.ext; simp)), HB.out⟩

set_option maxRecDepth 10000 in
set_option maxHeartbeats 2000000 in
theorem st_10 (s q n : Int) (aS : Bool) (aH aL : BitVec 64) (ab b : Int) (hS : Bool) (hH hL : Int) (o : ByteArray) (t sp : Int) (Ds : List UInt8) (Hs : Hid (DecIs s Ds)) (Dq : List UInt8) (Hq : Hid (DecIs q Dq)) (Dn : List UInt8) (Hn : Hid (DecIs n Dn)) (TH : List UInt8) (HH : Hid (TH.length ≤ 200 ∧ ∀ w : World, Calls Tryd.prog 23 #[.agg #[.bool hS, .int .i64 hH, .int .i64 hL]] w fun e w' => e = .returned (.string ⟨TH.toArray⟩) ∧ Below w.heap.size w w')) (Dt : List UInt8) (Ht : Hid (DecIs t Dt)) (ho : o.size ≤ 1048576) (h : spC ⟨#[115, 113, 104, 116]⟩ 10 s q n aS aH aL ab b hS hH hL o t sp = true) (y : World) :
    Calls Tryd.prog 9 #[.agg #[.int .i64 10, .int .i64 s, .int .i64 q, .int .i64 n, .bool aS, .int .i64 aH.toInt, .int .i64 aL.toInt, .int .i64 ab, .int .i64 b, .bool hS, .int .i64 hH, .int .i64 hL, .string o, .int .i64 t, .int .i64 sp]] y fun e w' => e = .returned (.string ((((((⟨#[114, 101, 108, 101, 97, 115, 101]⟩ : ByteArray) ++ (⟨#[32, 115, 101, 115, 115, 105, 111, 110, 61]⟩ : ByteArray) ++ ⟨Ds.toArray⟩) ++ (⟨#[32, 115, 101, 113, 61]⟩ : ByteArray) ++ ⟨Dq.toArray⟩) ++ (⟨#[32, 110, 111, 119, 61]⟩ : ByteArray) ++ ⟨Dn.toArray⟩) ++ (⟨#[32, 104, 111, 115, 116, 61]⟩ : ByteArray) ++ ⟨TH.toArray⟩) ++ (⟨#[32, 116, 111, 107, 101, 110, 61]⟩ : ByteArray) ++ ⟨Dt.toArray⟩)) ∧ Below y.heap.size y w' := by
  have HK := hidP (fun w => sCmd ⟨#[115, 113, 104, 116]⟩ (by decide) 10 s q n aS aH aL ab b hS hH hL o t sp ho has_10 w)
  rw [h] at HK
  have HX0 := hidP (Bx.new y [.int .i64 10, .int .i64 s, .int .i64 q, .int .i64 n, .bool aS, .int .i64 aH.toInt, .int .i64 aL.toInt, .int .i64 ab, .int .i64 b, .bool hS, .int .i64 hH, .int .i64 hL, .string o, .int .i64 t, .int .i64 sp] 34)
  have HU := hidP ((Below.refl y.heap.size y).alloc (Nat.le_refl _) (.cells #[.int .i64 10, .int .i64 s, .int .i64 q, .int .i64 n, .bool aS, .int .i64 aH.toInt, .int .i64 aL.toInt, .int .i64 ab, .int .i64 b, .bool hS, .int .i64 hH, .int .i64 hL, .string o, .int .i64 t, .int .i64 sp] 34))
  have ls := Hs.out.1
  have lq := Hq.out.1
  have ln := Hn.out.1
  have lH := HH.out.1
  have lt := Ht.out.1
  clear h
  go_enter Tryd.func9, Tryd.ntmps9
  go_wp2_with fail
  refine (HK.out _).mono ?_
  rintro e w0 ⟨rfl, hb0⟩
  have HX := hidP (HX0.out.later hb0)
  have HB := hidP (HU.out.trans (hb0.mono HU.out.size))
  have z0 := HX.out.lt
  clear hb0 HX0 HU HK
  have c0 := HX.out.cel 0 _ rfl
  have c1 := HX.out.cel 1 _ rfl
  go_wp2_with fail
  refine (has_10 _).mono ?_
  rintro e w' ⟨rfl, rfl⟩
  go_wp2_with fail
  refine (in_sqht_s _).mono ?_
  rintro e w' ⟨rfl, rfl⟩
  go_wp2_with fail
  refine (Hs.out.2 _).mono ?_
  rintro e w1 ⟨rfl, hb⟩
  have hb' : Below w0.heap.size w0 w1 := ((Below.refl _ w0).alloc (Nat.le_refl _) _).trans (hb.mono (by simp))
  have HX := hidP (HX.out.later hb')
  have HB := hidP (HB.out.trans (hb'.mono HB.out.size))
  have z1 := HX.out.lt
  clear hb hb' c1 c0
  have c2 := HX.out.cel 2 _ rfl
  go_wp2_with fail
  refine (in_sqht_q _).mono ?_
  rintro e w' ⟨rfl, rfl⟩
  go_wp2_with fail
  refine (Hq.out.2 _).mono ?_
  rintro e w2 ⟨rfl, hb⟩
  have hb' : Below w1.heap.size w1 w2 := hb
  have HX := hidP (HX.out.later hb')
  have HB := hidP (HB.out.trans (hb'.mono HB.out.size))
  have z2 := HX.out.lt
  clear hb hb' c2
  have c3 := HX.out.cel 3 _ rfl
  go_wp2_with fail
  refine (Hn.out.2 _).mono ?_
  rintro e w3 ⟨rfl, hb⟩
  have hb' : Below w2.heap.size w2 w3 := hb
  have HX := hidP (HX.out.later hb')
  have HB := hidP (HB.out.trans (hb'.mono HB.out.size))
  have z3 := HX.out.lt
  clear hb hb' c3
  have c9 := HX.out.cel 9 _ rfl
  have c10 := HX.out.cel 10 _ rfl
  have c11 := HX.out.cel 11 _ rfl
  go_wp2_with fail
  refine (in_sqht_a _).mono ?_
  rintro e w' ⟨rfl, rfl⟩
  go_wp2_with fail
  refine (in_sqht_b _).mono ?_
  rintro e w' ⟨rfl, rfl⟩
  go_wp2_with fail
  refine (in_sqht_h _).mono ?_
  rintro e w' ⟨rfl, rfl⟩
  go_wp2_with fail
  refine (HH.out.2 _).mono ?_
  rintro e w4 ⟨rfl, hb⟩
  have hb' : Below w3.heap.size w3 w4 := hb
  have HX := hidP (HX.out.later hb')
  have HB := hidP (HB.out.trans (hb'.mono HB.out.size))
  have z4 := HX.out.lt
  clear hb hb' c9 c10 c11
  have c13 := HX.out.cel 13 _ rfl
  go_wp2_with fail
  refine (in_sqht_o _).mono ?_
  rintro e w' ⟨rfl, rfl⟩
  go_wp2_with fail
  refine (in_sqht_t _).mono ?_
  rintro e w' ⟨rfl, rfl⟩
  go_wp2_with fail
  refine (Ht.out.2 _).mono ?_
  rintro e w5 ⟨rfl, hb⟩
  have hb' : Below w4.heap.size w4 w5 := hb
  have HX := hidP (HX.out.later hb')
  have HB := hidP (HB.out.trans (hb'.mono HB.out.size))
  have z5 := HX.out.lt
  clear hb hb' c13
  go_wp2_with fail
  refine (in_sqht_p _).mono ?_
  rintro e w' ⟨rfl, rfl⟩
  go_wp2_with fail
  go_ret
  exact ⟨ret_ba (by first | rfl | (apply ByteArray.ext; simp)), HB.out⟩

end Go.Proofs.YtoadckdokdcppaaDoor
