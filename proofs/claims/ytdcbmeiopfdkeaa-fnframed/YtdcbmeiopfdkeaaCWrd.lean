/-
  A word out of bytes, the highest first: the program's reader of words and the specification's l3Read, each by the plain word.
-/
import Derived.Test.YtdcbmeiopfdkeaaCTxtI
namespace Go.Proofs.Ytdcbmeiopfdkeaa
open Go.RowKit

def wst (x : BitVec 64) (z : Int) : BitVec 64 := (x <<< 8) ||| BitVec.ofInt 64 z
def wv (zs : List Int) : BitVec 64 := zs.foldl wst 0#64
theorem wv_snoc (zs : List Int) (k : Nat) (z : Int) (h : zs[k]? = some z) : wv (zs.take (k + 1)) = wst (wv (zs.take k)) z := by
  have hk : k < zs.length := by rcases Nat.lt_or_ge k zs.length with h1 | h1; exact h1; rw [List.getElem?_eq_none h1] at h; cases h
  have e : zs[k] = z := by rw [List.getElem?_eq_getElem hk] at h; simpa using h
  rw [List.take_succ_eq_append_getElem hk, e]; simp [wv]
theorem bv64 (x : BitVec 64) : 0 ≤ (x.toNat : Int) ∧ (x.toNat : Int) < 18446744073709551616 := by have := x.isLt; omega
theorem toInt_wrap (x : BitVec 64) : x.toInt = IntKind.i64.wrap (x.toNat : Int) := by
  rw [IntKind.wrap_i64, BitVec.toInt_eq_toNat_cond]
  have := x.isLt
  split <;> omega
theorem ofInt_toInt (x : BitVec 64) : BitVec.ofInt 64 x.toInt = x := BitVec.ofInt_toInt
theorem shl8_nat (x : BitVec 64) : ((x <<< 8).toNat : Int) = (x.toNat : Int) * 256 % 18446744073709551616 := by
  rw [BitVec.toNat_shiftLeft, Nat.shiftLeft_eq]; omega
theorem shl8_int (x : BitVec 64) : IntKind.i64.wrap (x.toInt * 256) = (x <<< 8).toInt := by
  rw [toInt_wrap (x <<< 8), shl8_nat, toInt_wrap x]
  simp only [IntKind.wrap_i64]
  have := bv64 x
  omega
theorem wst_i (x : BitVec 64) (z : Int) : bits .or .i64 (IntKind.i64.wrap (x.toInt * 256)) z = (wst x z).toInt := by
  rw [shl8_int]
  show IntKind.i64.wrap ((BitVec.ofInt 64 (x <<< 8).toInt ||| BitVec.ofInt 64 z).toNat : Int) = _
  rw [ofInt_toInt, ← toInt_wrap]; rfl
theorem wst_u (x : BitVec 64) (z : Int) : bits .or .u64 ((x.toNat : Int) * 256 % 18446744073709551616) z = ((wst x z).toNat : Int) := by
  rw [← shl8_nat]
  show IntKind.u64.wrap ((BitVec.ofInt 64 ((x <<< 8).toNat : Int) ||| BitVec.ofInt 64 z).toNat : Int) = _
  have e : BitVec.ofInt 64 ((x <<< 8).toNat : Int) = x <<< 8 := by
    apply BitVec.eq_of_toNat_eq
    rw [BitVec.toNat_ofInt]
    have := (x <<< 8).isLt
    omega
  rw [e, IntKind.wrap_u64]
  have := bv64 (wst x z)
  unfold wst at *
  omega

theorem w64_wrap (x : Int) : wrap64 x = IntKind.i64.wrap x := by rw [IntKind.wrap_i64]; simp only [wrap64]
theorem wst_w (x : BitVec 64) (z : Int) : bits .or .i64 (wrap64 (x.toInt * 256)) z = (wst x z).toInt := by rw [w64_wrap]; exact wst_i x z
theorem toInt_w64 (x : BitVec 64) : wrap64 (x.toNat : Int) = x.toInt := by rw [w64_wrap, ← toInt_wrap]

/-- How a reading of a word out of a reader ends. -/
def WrdEnd (c : Nat) (w : World) (R : Nat) (a : Option Addr) (n cap : Nat) (zs : List Int) (at' : Nat) (e : Ending) (w' : World) : Prop :=
  ((at' + c ≤ n ∧ e = .returned (.int .i64 (wv (sub zs at' c)).toInt) ∧ Rdr w' R a n cap zs (at' + c)) ∨ (¬ at' + c ≤ n ∧ e = .panicked [{ v := .iface 80 (.int .i64 2), recovered := false }])) ∧ w.grownBy w' (some R)

set_option maxHeartbeats 4000000 in
theorem word_any (c : Nat) (hc : c ≤ 8) (R : Nat) (a : Option Addr) (n cap at' : Nat) (zs : List Int) (w : World) (h : Rdr w R a n cap zs at') (ho : Oct zs) :
    Calls Try.prog 67 #[.pointer (some ⟨R, 0, none⟩), .int .i64 c] w fun e w' => WrdEnd c w R a n cap zs at' e w' := by
  have HR := hid' h
  have HO := hid' ho
  have hlen := h.len
  clear h ho
  by_cases hin : at' + c ≤ n
  · go_enter Try.func67, Try.ntmps67
    go_wp2_with fail
    refine (take_ok R a n cap at' zs c w HR.out hin).mono ?_
    rintro e w1 ⟨a1, c1, rfl, hc1, hc2, hcut, hrd1, hg1⟩
    have HCut := hid' (hcut.byt (Nat.le_of_lt hrd1.lt) (by omega))
    have HRD := hid' hrd1
    have HG := hid' hg1
    have HSL := hid' (sub_len (zs := zs) (k := at') (c := c) (by omega))
    have HSO := hid' (sub_oct HO.out at' c)
    clear hcut hrd1 hg1
    generalize hys : sub zs at' c = ys at *
    have HYS := hid' hys
    clear hys
    go_wp2_with fail
    go_loop [5, 12] (fun t5 t12 => ∃ k : Nat, k ≤ c ∧ t12 = .int .i64 k ∧ t5 = .int .i64 (wv (ys.take k)).toInt) (fun _ t12 => c - (intOf t12).toNat)
    case atStart => exact ⟨0, Nat.zero_le _, rfl, rfl⟩
    case round =>
      obtain ⟨k, hk, rfl, rfl⟩ := hrel
      by_cases hlt : k < c
      · obtain ⟨p, o, z, rfl, hp, hcc, hz⟩ := HCut.out k (by rw [HSL.out]; exact hlt)
        obtain ⟨z0, z1⟩ := HSO.out z (List.mem_of_getElem? hz)
        have HF := hid' (wv_snoc ys k z hz)
        clear hz
        generalize wv (ys.take k) = X at *
        have HS := hid' (wst_w X z)
        go_wp2_with fail
        go_round
        case rel => exact ⟨k + 1, by omega, by go_num, by rw [HF.out, HS.out]⟩
        case measure => simp [intOf]; omega
      · have ht : ys.take k = ys := List.take_of_length_le (by have := HSL.out; omega)
        rw [ht]
        clear ht
        go_wp2_with fail
        go_ret
        exact ⟨Or.inl ⟨hin, by rw [HYS.out]; rfl, HRD.out⟩, HG.out⟩
  · go_enter Try.func67, Try.ntmps67
    go_wp2_with fail
    refine (take_torn R a n cap at' zs c w HR.out (by omega) (by omega)).mono ?_
    rintro e w1 ⟨rfl, hg1⟩
    have HG := hid' hg1
    clear hg1
    go_wp2_with fail
    exact ⟨rfl, Or.inr ⟨hin, rfl⟩, HG.out⟩

end Go.Proofs.Ytdcbmeiopfdkeaa
