/-
  A text's bytes are read back; one turned bit makes another byte; plain mathematics.
-/
import Derived.Test.YtdcbmeiopfdkeaaCFrM
import Derived.Test.YtdcbmeiopfdkeaaCTxt
namespace Go.Proofs.Ytdcbmeiopfdkeaa
open Go.RowKit

theorem strOf_aux : ∀ (ns : List Int) (r : ByteArray), (ns.foldl (fun r n => r.push (UInt8.ofNat n.toNat)) r).data.toList = r.data.toList ++ ns.map (fun n => UInt8.ofNat n.toNat)
  | [], r => by simp
  | n :: ns, r => by rw [List.foldl_cons, strOf_aux ns]; simp [ByteArray.push]
theorem bys_strOf (b : List Int) (h : Oct b) : bys (strOf b) = b := by
  unfold bys strOf
  rw [strOf_aux b ByteArray.empty]
  have e : ByteArray.empty.data.toList = [] := rfl
  rw [e, List.nil_append, List.map_map]
  conv => rhs; rw [← List.map_id b]
  refine List.map_congr_left fun z hz => ?_
  have hb := h z hz
  show ((UInt8.ofNat z.toNat).toNat : Int) = z
  rw [UInt8.toNat_ofNat']
  omega
theorem strOf_size (b : List Int) (h : Oct b) : (strOf b).size = b.length := by rw [← bys_len, bys_strOf b h]
theorem txtB_strOf (b : List Int) (h : Oct b) : txtB (strOf b) = numB (u64 (b.length : Int)) ++ b := by unfold txtB; rw [bys_strOf b h, strOf_size b h]
theorem gt_back (b : List Int) (h : Oct b) (hl : b.length ≤ 20000) : gtV (txtB (strOf b)) 0 = .tuple #[.string (strOf b), .int .i64 ((txtB (strOf b)).length : Int), .bool true] := by
  rw [txtB_strOf b h]
  have hg := rdN_num0 (b.length : Int) b
  have e := gtV_good (at' := 0) hg (by rw [wrap_len _ hl, List.length_append]; omega)
  refine Eq.trans e ?_
  rw [wrap_len _ hl, Int.toNat_natCast]
  have e2 : sub (numB (u64 (b.length : Int)) ++ b) (0 + (numB (u64 (b.length : Int))).length) b.length = b := by
    have := sub_mid (numB (u64 (b.length : Int))) b [] (k := 0 + (numB (u64 (b.length : Int))).length) (c := b.length) (by omega) rfl
    rw [List.append_nil] at this; exact this
  rw [e2, List.length_append]
  congr 5
  omega

theorem turn8 : ∀ (c : Fin 256) (t : Fin 8), bits .xor .u8 (c.val : Int) (2 ^ t.val) ≠ (c.val : Int) ∧ 0 ≤ bits .xor .u8 (c.val : Int) (2 ^ t.val) ∧ bits .xor .u8 (c.val : Int) (2 ^ t.val) ≤ 255 := by decide +kernel
theorem turn_byte (c : Int) (hc : 0 ≤ c ∧ c ≤ 255) (t : Nat) (ht : t < 8) : bits .xor .u8 c (2 ^ t) ≠ c ∧ 0 ≤ bits .xor .u8 c (2 ^ t) ∧ bits .xor .u8 c (2 ^ t) ≤ 255 := by
  have h := turn8 ⟨c.toNat, by omega⟩ ⟨t, ht⟩
  have e : ((c.toNat : Nat) : Int) = c := by omega
  simpa [e] using h

end Go.Proofs.Ytdcbmeiopfdkeaa
