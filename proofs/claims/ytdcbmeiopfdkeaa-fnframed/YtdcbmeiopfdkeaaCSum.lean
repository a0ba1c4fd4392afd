/-
  The sum of a row of bytes (32 bits, turned by one number), and both Sums by it; the world stands.
-/
import Derived.Test.YtdcbmeiopfdkeaaCByt
namespace Go.Proofs.Ytdcbmeiopfdkeaa
open Go.RowKit

def poly : BitVec 32 := 3988292384#32
def st (x : BitVec 32) : BitVec 32 := (x >>> 1) ^^^ (if x.toNat % 2 = 1 then poly else 0#32)
def it : Nat → BitVec 32 → BitVec 32
  | 0, x => x
  | n + 1, x => st (it n x)
/-- One byte more. -/
def fed (x : BitVec 32) (z : Int) : BitVec 32 := it 8 (x ^^^ BitVec.ofInt 32 z)
def feds (x : BitVec 32) (zs : List Int) : BitVec 32 := zs.foldl fed x
def crc (zs : List Int) : Int := ((feds 4294967295#32 zs ^^^ 4294967295#32).toNat : Int)

theorem crc_bd (zs : List Int) : 0 ≤ crc zs ∧ crc zs < 4294967296 := by
  unfold crc; have := (feds 4294967295#32 zs ^^^ 4294967295#32).isLt; omega
theorem feds_snoc (x : BitVec 32) (zs : List Int) (k : Nat) (z : Int) (h : zs[k]? = some z) : feds x (zs.take (k + 1)) = fed (feds x (zs.take k)) z := by
  have hk : k < zs.length := by rcases Nat.lt_or_ge k zs.length with h1 | h1; exact h1; rw [List.getElem?_eq_none h1] at h; cases h
  have e : zs[k] = z := by rw [List.getElem?_eq_getElem hk] at h; simpa using h
  rw [List.take_succ_eq_append_getElem hk, e]; simp [feds]
theorem bv_bd (x : BitVec 32) : 0 ≤ (x.toNat : Int) ∧ (x.toNat : Int) < 4294967296 := by have := x.isLt; omega
theorem ofInt_nat (n : Nat) (w : Nat) (h : n < 2 ^ w) : (BitVec.ofInt w (n : Int)).toNat = n := by
  rw [BitVec.toNat_ofInt]
  have : ((n : Int) % ((2 ^ w : Nat) : Int)) = (n : Int) := Int.emod_eq_of_lt (by omega) (by exact_mod_cast h)
  rw [this]; rfl
theorem ofInt_bv (x : BitVec 32) : BitVec.ofInt 32 (x.toNat : Int) = x := by
  apply BitVec.eq_of_toNat_eq; rw [ofInt_nat _ _ x.isLt]
theorem byte_nat (z : Int) (h0 : 0 ≤ z) (h1 : z ≤ 255) : ((BitVec.ofInt 32 z).toNat : Int) = z := by
  obtain ⟨n, rfl⟩ := Int.eq_ofNat_of_zero_le h0
  rw [ofInt_nat _ _ (by omega)]
theorem xor_u32 (x y : BitVec 32) : bits .xor .u32 (x.toNat : Int) (y.toNat : Int) = ((x ^^^ y).toNat : Int) := by
  show IntKind.u32.wrap ((BitVec.ofInt 32 (x.toNat : Int) ^^^ BitVec.ofInt 32 (y.toNat : Int)).toNat : Int) = _
  rw [ofInt_bv, ofInt_bv, IntKind.wrap_u32]
  have := bv_bd (x ^^^ y); omega
theorem xor_i64 (x y : BitVec 32) : bits .xor .i64 (x.toNat : Int) (y.toNat : Int) = ((x ^^^ y).toNat : Int) := by
  show IntKind.i64.wrap ((BitVec.ofInt 64 (x.toNat : Int) ^^^ BitVec.ofInt 64 (y.toNat : Int)).toNat : Int) = _
  rw [BitVec.toNat_xor, ofInt_nat _ _ (by have := x.isLt; omega), ofInt_nat _ _ (by have := y.isLt; omega), ← BitVec.toNat_xor, IntKind.wrap_i64]
  have := bv_bd (x ^^^ y); omega
theorem half_nat (x : BitVec 32) : ((x >>> 1).toNat : Int) = (x.toNat : Int) / 2 := by
  rw [BitVec.toNat_ushiftRight, Nat.shiftRight_eq_div_pow]; omega
theorem and_u32 (x : BitVec 32) : bits .and .u32 (x.toNat : Int) 1 = ((x.toNat % 2 : Nat) : Int) := by
  show IntKind.u32.wrap ((BitVec.ofInt 32 (x.toNat : Int) &&& BitVec.ofInt 32 1).toNat : Int) = _
  rw [ofInt_bv, BitVec.toNat_and, show (BitVec.ofInt 32 1).toNat = 1 from rfl, Nat.and_one_is_mod, IntKind.wrap_u32]
  omega
theorem st_impl (y : BitVec 32) : bits .xor .u32 ((y.toNat : Int) / 2) (bits .and .u32 (y.toNat : Int) 1 * 3988292384 % 4294967296) = ((st y).toNat : Int) := by
  rw [and_u32, ← half_nat]
  unfold st
  by_cases h : y.toNat % 2 = 1
  · rw [if_pos h, h]; exact xor_u32 _ poly
  · have h0 : y.toNat % 2 = 0 := by omega
    rw [if_neg h, h0]; exact xor_u32 _ 0#32
theorem st_odd (y : BitVec 32) (h : (y.toNat : Int) % 2 = 1) : bits .xor .i64 ((y.toNat : Int) / 2) 3988292384 = ((st y).toNat : Int) := by
  unfold st; rw [if_pos (by omega), ← half_nat]; exact xor_i64 _ poly
theorem st_even (y : BitVec 32) (h : ¬ (y.toNat : Int) % 2 = 1) : (y.toNat : Int) / 2 = ((st y).toNat : Int) := by
  unfold st; rw [if_neg (by omega), ← half_nat, BitVec.xor_zero]

set_option maxHeartbeats 1000000 in
theorem iSum_any (a : Option Addr) (cap : Nat) (zs : List Int) (w : World) (hB : Byt w a zs) (ho : Oct zs) (hl : zs.length ≤ 9000000000) :
    Calls Try.prog 21 #[.slice a zs.length cap] w fun e w' => e = .returned (.int .i64 (crc zs)) ∧ w = w' := by
  obtain ⟨n, hn⟩ : ∃ n, n = zs.length := ⟨_, rfl⟩
  rw [← hn] at hl ⊢
  have HN : Hid (n = zs.length) := hn
  have HB : Hid (Byt w a zs) := hB
  have HO : Hid (Oct zs) := ho
  clear hB hn ho
  go_enter Try.func21, Try.ntmps21
  go_wp2
  go_loop [3, 9] (fun t3 t9 => ∃ k : Nat, k ≤ n ∧ t9 = .int .i64 k ∧ t3 = .int .u32 ((feds 4294967295#32 (zs.take k)).toNat : Int)) (fun _ t9 => n - (intOf t9).toNat)
  case atStart => exact ⟨0, Nat.zero_le _, rfl, rfl⟩
  case round =>
    obtain ⟨k, hk, rfl, rfl⟩ := hrel
    by_cases hlt : k < n
    · obtain ⟨p, o, z, rfl, hp, hc, hz⟩ := HB.out k (by rw [← HN.out]; exact hlt)
      obtain ⟨z0, z1⟩ := HO.out z (List.mem_of_getElem? hz)
      have HF : Hid (feds 4294967295#32 (zs.take (k + 1)) = fed (feds 4294967295#32 (zs.take k)) z) := feds_snoc _ _ _ _ hz
      clear hz
      generalize hg : feds 4294967295#32 (zs.take k) = X at HF ⊢
      have HG : Hid (feds 4294967295#32 (zs.take k) = X) := hg
      clear hg
      have xb := bv_bd X
      have HX : Hid (bits .xor .u32 (X.toNat : Int) z = ((it 0 (X ^^^ BitVec.ofInt 32 z)).toNat : Int)) := by
        have h := xor_u32 X (BitVec.ofInt 32 z); rw [byte_nat z z0 z1] at h; exact h
      go_wp2
      go_loop [3, 17] (fun t3 t17 => ∃ j : Nat, j ≤ 8 ∧ t17 = .int .i64 j ∧ t3 = .int .u32 ((it j (X ^^^ BitVec.ofInt 32 z)).toNat : Int)) (fun _ t17 => 8 - (intOf t17).toNat)
      case atStart => exact ⟨0, by omega, rfl, by rw [HX.out]⟩
      case round =>
        obtain ⟨j, hj, rfl, rfl⟩ := hrel
        generalize hY : it j (X ^^^ BitVec.ofInt 32 z) = Y
        have HY : Hid (it j (X ^^^ BitVec.ofInt 32 z) = Y) := hY
        clear hY
        have yb := bv_bd Y
        have HS : Hid (_ = _) := st_impl Y
        by_cases hjt : j < 8
        · go_wp2
          go_round
          case rel => exact ⟨j + 1, by omega, by go_num, by rw [it, HY.out, HS.out]⟩
          case measure => simp [intOf]; omega
        · have hj8 : j = 8 := by omega
          subst hj8
          have HE : Hid (feds 4294967295#32 (zs.take (k + 1)) = Y) := by
            unfold Hid; rw [HF.out, ← HY.out]; rfl
          go_wp2
          go_round
          case rel => exact ⟨k + 1, by omega, by go_num, by rw [HE.out]⟩
          case measure => simp [intOf]; omega
    · have hkn : zs.take k = zs := List.take_of_length_le (by have := HN.out; omega)
      have HC : Hid (bits .xor .u32 ((feds 4294967295#32 (zs.take k)).toNat : Int) 4294967295 = crc zs) := by
        unfold Hid; rw [hkn]; exact xor_u32 _ 4294967295#32
      clear hkn
      generalize (feds 4294967295#32 (zs.take k)).toNat = x at *
      have cb := crc_bd zs
      go_wp2
      go_ret
      refine ⟨?_, rfl⟩
      rw [HC.out, show wrap64 (crc zs) = crc zs from by simp only [wrap64]; omega]
      rfl

set_option maxHeartbeats 1000000 in
theorem sSum_any (a : Option Addr) (cap : Nat) (zs : List Int) (w : World) (hB : Byt w a zs) (ho : Oct zs) (hl : zs.length ≤ 9000000000) :
    Calls Try.prog 22 #[.slice a zs.length cap] w fun e w' => e = .returned (.int .i64 (crc zs)) ∧ w = w' := by
  obtain ⟨n, hn⟩ : ∃ n, n = zs.length := ⟨_, rfl⟩
  rw [← hn] at hl ⊢
  have HN : Hid (n = zs.length) := hn
  have HB : Hid (Byt w a zs) := hB
  have HO : Hid (Oct zs) := ho
  clear hB hn ho
  go_enter Try.func22, Try.ntmps22
  go_wp2
  go_loop [3, 4] (fun t3 t4 => ∃ k : Nat, k ≤ n ∧ t4 = .int .i64 k ∧ t3 = .int .i64 ((feds 4294967295#32 (zs.take k)).toNat : Int)) (fun _ t4 => n - (intOf t4).toNat)
  case atStart => exact ⟨0, Nat.zero_le _, rfl, rfl⟩
  case round =>
    obtain ⟨k, hk, rfl, rfl⟩ := hrel
    by_cases hlt : k < n
    · obtain ⟨p, o, z, rfl, hp, hc, hz⟩ := HB.out k (by rw [← HN.out]; exact hlt)
      obtain ⟨z0, z1⟩ := HO.out z (List.mem_of_getElem? hz)
      have HF : Hid (feds 4294967295#32 (zs.take (k + 1)) = fed (feds 4294967295#32 (zs.take k)) z) := feds_snoc _ _ _ _ hz
      clear hz
      generalize hg : feds 4294967295#32 (zs.take k) = X at HF ⊢
      have HG : Hid (feds 4294967295#32 (zs.take k) = X) := hg
      clear hg
      have xb := bv_bd X
      have HX : Hid (bits .xor .i64 (X.toNat : Int) z = ((it 0 (X ^^^ BitVec.ofInt 32 z)).toNat : Int)) := by
        have h := xor_i64 X (BitVec.ofInt 32 z); rw [byte_nat z z0 z1] at h; exact h
      go_wp2
      go_loop [3, 5] (fun t3 t5 => ∃ j : Nat, j ≤ 8 ∧ t5 = .int .i64 j ∧ t3 = .int .i64 ((it j (X ^^^ BitVec.ofInt 32 z)).toNat : Int)) (fun _ t5 => 8 - (intOf t5).toNat)
      case atStart => exact ⟨0, by omega, rfl, by rw [HX.out]⟩
      case round =>
        obtain ⟨j, hj, rfl, rfl⟩ := hrel
        generalize hY : it j (X ^^^ BitVec.ofInt 32 z) = Y
        have HY : Hid (it j (X ^^^ BitVec.ofInt 32 z) = Y) := hY
        clear hY
        have yb := bv_bd Y
        by_cases hjt : j < 8
        · by_cases hodd : (Y.toNat : Int) % 2 = 1
          · have HS : Hid (_ = _) := st_odd Y hodd
            go_wp2
            go_round
            case rel => exact ⟨j + 1, by omega, by go_num, by rw [it, HY.out, HS.out]⟩
            case measure => simp [intOf]; omega
          · have HS : Hid (_ = _) := st_even Y hodd
            have hev : (Y.toNat : Int) % 2 = 0 := by omega
            clear hodd
            go_wp2
            go_round
            case rel => exact ⟨j + 1, by omega, by go_num, by rw [it, HY.out, HS.out]⟩
            case measure => simp [intOf]; omega
        · have hj8 : j = 8 := by omega
          subst hj8
          have HE : Hid (feds 4294967295#32 (zs.take (k + 1)) = Y) := by
            unfold Hid; rw [HF.out, ← HY.out]; rfl
          go_wp2
          go_round
          case rel => exact ⟨k + 1, by omega, by go_num, by rw [HE.out]⟩
          case measure => simp [intOf]; omega
    · have hkn : zs.take k = zs := List.take_of_length_le (by have := HN.out; omega)
      have HC : Hid (bits .xor .i64 ((feds 4294967295#32 (zs.take k)).toNat : Int) 4294967295 = crc zs) := by
        unfold Hid; rw [hkn]; exact xor_i64 _ 4294967295#32
      clear hkn
      generalize (feds 4294967295#32 (zs.take k)).toNat = x at *
      go_wp2
      go_ret
      refine ⟨?_, rfl⟩
      rw [HC.out]
      rfl

end Go.Proofs.Ytdcbmeiopfdkeaa
