/-
  A frame's bytes: read back, torn where they are cut, bad where a bit is turned behind the number; plain mathematics.
-/
import Derived.Test.YtdcbmeiopfdkeaaCNumM
import Derived.Test.YtdcbmeiopfdkeaaCUnf
import Derived.Test.YtdcbmeiopfdkeaaCFrm
import Derived.Test.YtdcbmeiopfdkeaaCAdM
namespace Go.Proofs.Ytdcbmeiopfdkeaa
open Go.RowKit

theorem st_top (x : BitVec 32) : (st x).getLsbD 31 = decide (x.toNat % 2 = 1) := by
  unfold st
  rw [BitVec.getLsbD_xor]
  by_cases h : x.toNat % 2 = 1
  · rw [if_pos h]; simp [h, poly]
  · rw [if_neg h]; simp [h]
theorem st_inj {x y : BitVec 32} (h : st x = st y) : x = y := by
  have ht := st_top x
  rw [h, st_top y] at ht
  have hp : (y.toNat % 2 = 1) ↔ (x.toNat % 2 = 1) := by simpa using ht
  have hs : x >>> 1 = y >>> 1 := by
    unfold st at h
    by_cases hx : x.toNat % 2 = 1
    · rw [if_pos hx, if_pos (hp.2 hx)] at h
      have := congrArg (· ^^^ poly) h
      simpa [BitVec.xor_assoc] using this
    · rw [if_neg hx, if_neg (fun e => hx (hp.1 e))] at h
      simpa using h
  have hn := congrArg BitVec.toNat hs
  rw [BitVec.toNat_ushiftRight, BitVec.toNat_ushiftRight, Nat.shiftRight_eq_div_pow, Nat.shiftRight_eq_div_pow] at hn
  apply BitVec.eq_of_toNat_eq
  by_cases hx : x.toNat % 2 = 1
  · have := hp.2 hx; omega
  · have : ¬ y.toNat % 2 = 1 := fun e => hx (hp.1 e)
    omega
theorem it_inj : ∀ (n : Nat) {x y : BitVec 32}, it n x = it n y → x = y
  | 0, _, _, h => h
  | n + 1, _, _, h => it_inj n (st_inj h)
theorem xor_cancel {x a b : BitVec 32} (h : x ^^^ a = x ^^^ b) : a = b := by
  have := congrArg (x ^^^ ·) h
  simpa [← BitVec.xor_assoc] using this
theorem fed_injL {x y : BitVec 32} {z : Int} (h : fed x z = fed y z) : x = y := by
  have := it_inj 8 h
  rw [BitVec.xor_comm x, BitVec.xor_comm y] at this
  exact xor_cancel this
theorem fed_injR {x : BitVec 32} {z v : Int} (hz : 0 ≤ z ∧ z ≤ 255) (hv : 0 ≤ v ∧ v ≤ 255) (h : fed x z = fed x v) : z = v := by
  have h2 := congrArg BitVec.toNat (xor_cancel (it_inj 8 h))
  rw [BitVec.toNat_ofInt, BitVec.toNat_ofInt] at h2
  omega
theorem feds_inj : ∀ (zs : List Int) {x y : BitVec 32}, feds x zs = feds y zs → x = y
  | [], _, _, h => h
  | _ :: zs, _, _, h => fed_injL (feds_inj zs h)
theorem feds_app (x : BitVec 32) (xs ys : List Int) : feds x (xs ++ ys) = feds (feds x xs) ys := by unfold feds; rw [List.foldl_append]

theorem crc_turn (pre post : List Int) (c v : Int) (hc : 0 ≤ c ∧ c ≤ 255) (hv : 0 ≤ v ∧ v ≤ 255) (hne : v ≠ c) : crc (pre ++ c :: post) ≠ crc (pre ++ v :: post) := by
  intro h
  unfold crc at h
  have h1 : (feds 4294967295#32 (pre ++ c :: post) ^^^ 4294967295#32) = (feds 4294967295#32 (pre ++ v :: post) ^^^ 4294967295#32) := BitVec.eq_of_toNat_eq (by omega)
  rw [BitVec.xor_comm, BitVec.xor_comm (feds _ (pre ++ v :: post))] at h1
  have h2 := xor_cancel h1
  rw [feds_app, feds_app] at h2
  have h3 : fed (feds 4294967295#32 pre) c = fed (feds 4294967295#32 pre) v := feds_inj post h2
  exact hne (fed_injR hc hv h3).symm
theorem lit_inj {a b : Int} (ha : 0 ≤ a ∧ a < 4294967296) (hb : 0 ≤ b ∧ b < 4294967296) (h : lit a = lit b) : a = b := by
  unfold lit at h
  simp only [List.cons.injEq, and_true] at h
  omega
theorem lit_len (a : Int) : (lit a).length = 4 := rfl

/-- The number that a frame begins with is read, whatever stands behind it. -/
theorem rdN_num (n : Int) (pre rest : List Int) : rdN (pre ++ (numB (u64 n) ++ rest)) pre.length = .good ((u64 n : Nat) : Int) (numB (u64 n)).length := by
  have h := rd_num (pre ++ (numB (u64 n) ++ rest)) pre.length 10 0 0 (u64 n) pre rest rfl rfl rfl (by omega) (by simp) (by have := u64_lt n; omega) (by omega)
  unfold rdN
  refine Eq.trans h ?_
  congr 1
  · simp
  · omega
theorem rdN_num0 (n : Int) (rest : List Int) : rdN (numB (u64 n) ++ rest) 0 = .good ((u64 n : Nat) : Int) (numB (u64 n)).length := rdN_num n [] rest
theorem wrap_len (k : Nat) (h : k ≤ 20000) : wrap64 ((u64 (k : Int) : Nat) : Int) = (k : Int) := wrap64_u64 _ (by omega)

/-- The bytes behind a frame's number, and those of another frame's content. -/
theorem uf_frame (b : List Int) (hb : b.length ≤ 20000) (rest : List Int) : uf (frmB b ++ rest) 0 = ⟨b, ((frmB b).length : Int), 0⟩ := by
  have e : frmB b ++ rest = numB (u64 (b.length : Int)) ++ (b ++ (lit (crc (frm0 b)) ++ rest)) := by rw [frmB_ok hb]; simp [frm0]
  have hl : (frmB b).length = (numB (u64 (b.length : Int))).length + b.length + 4 := by rw [frmB_ok hb]; simp [frm0, lit_len, Nat.add_assoc]
  have hpos := numB_pos (u64 (b.length : Int))
  have h0 : uf (frmB b ++ rest) ((0 : Nat) : Int) = ufIn (frmB b ++ rest) 0 := uf_in (by rw [List.length_append]; omega)
  have hg : rdN (frmB b ++ rest) 0 = .good ((u64 (b.length : Int) : Nat) : Int) (numB (u64 (b.length : Int))).length := by rw [e]; exact rdN_num0 _ _
  refine Eq.trans h0 ?_
  have e1 : sub (frmB b ++ rest) 0 ((numB (u64 (b.length : Int))).length + b.length) = frm0 b := by
    have := sub_mid [] (frm0 b) (lit (crc (frm0 b)) ++ rest) (k := 0) (c := (numB (u64 (b.length : Int))).length + b.length) rfl (by unfold frm0; rw [List.length_append])
    rw [← this]; congr 1
    · rw [frmB_ok hb]; simp
  have e2 : sub (frmB b ++ rest) (0 + (numB (u64 (b.length : Int))).length + b.length) 4 = lit (crc (frm0 b)) := by
    have := sub_mid (frm0 b) (lit (crc (frm0 b))) rest (k := 0 + (numB (u64 (b.length : Int))).length + b.length) (c := 4) (by unfold frm0; rw [List.length_append]; omega) rfl
    rw [← this]; congr 1
    · rw [frmB_ok hb]; simp
  have e3 : sub (frmB b ++ rest) (0 + (numB (u64 (b.length : Int))).length) b.length = b := by
    have := sub_mid (numB (u64 (b.length : Int))) b (lit (crc (frm0 b)) ++ rest) (k := 0 + (numB (u64 (b.length : Int))).length) (c := b.length) (by omega) rfl
    conv => rhs; rw [← this]
    congr 1
  rw [ufIn_good hg (wrap_len _ hb) hb (by rw [List.length_append]; omega) (by rw [e1, e2]), e3, hl]
  congr 1
  omega

/-- Cut anywhere it is torn; with nothing left it has come to its end. -/
theorem uf_cut (b : List Int) (hb : b.length ≤ 20000) (c : Nat) (h0 : 0 < c) (hc : c < (frmB b).length) : uf ((frmB b).take c) 0 = ⟨[], 0, 2⟩ := by
  have hl : (frmB b).length = (numB (u64 (b.length : Int))).length + b.length + 4 := by rw [frmB_ok hb]; simp [frm0, lit_len, Nat.add_assoc]
  have hlt : ((frmB b).take c).length = c := by rw [List.length_take]; omega
  have hin : uf ((frmB b).take c) ((0 : Nat) : Int) = ufIn ((frmB b).take c) 0 := uf_in (by omega)
  refine Eq.trans hin ?_
  have e : frmB b = numB (u64 (b.length : Int)) ++ (b ++ lit (crc (frm0 b))) := by rw [frmB_ok hb]; simp [frm0]
  by_cases hn : c < (numB (u64 (b.length : Int))).length
  · obtain ⟨hs, l, hsp, hh, _, _⟩ := numB_split (u64 (b.length : Int))
    have hlen := numB_ten (u64 (b.length : Int)) (u64_lt _)
    rw [hsp] at hn hlen e
    simp only [List.length_append, List.length_singleton] at hn hlen
    have et : (frmB b).take c = hs.take c := by
      rw [e, List.append_assoc, List.take_append_of_le_length (by omega)]
    rw [et] at hlt ⊢
    refine ufIn_torn ?_
    obtain ⟨x', h⟩ := rd_high (hs.take c) 0 (hs.take c) 10 0 0 [] [] (by simp) rfl (fun z hz => hh z (List.mem_of_mem_take hz)) (by rw [hlt]; omega)
    unfold rdN
    rw [h, hlt, Nat.zero_add, show 10 - c = (9 - c) + 1 by omega]
    refine rdF_none ?_
    rw [List.getElem?_eq_none]; omega
  · have et : (frmB b).take c = numB (u64 (b.length : Int)) ++ (b ++ lit (crc (frm0 b))).take (c - (numB (u64 (b.length : Int))).length) := by
      rw [e, List.take_append, List.take_of_length_le (by omega)]
    have hg : rdN ((frmB b).take c) 0 = .good ((u64 (b.length : Int) : Nat) : Int) (numB (u64 (b.length : Int))).length := by rw [et]; exact rdN_num0 _ _
    exact ufIn_cut hg (by rw [wrap_len _ hb]; omega) (by rw [wrap_len _ hb, hlt]; omega)

/-- With one byte turned behind its number it is bad. -/
theorem uf_turn (b : List Int) (hb : b.length ≤ 20000) (ho : Oct b) (j : Nat) (v c : Int) (h0 : (numB (u64 (b.length : Int))).length ≤ j) (hc : (frmB b)[j]? = some c) (hv : 0 ≤ v ∧ v ≤ 255) (hne : v ≠ c) : uf ((frmB b).set j v) 0 = ⟨[], 0, 3⟩ := by
  have hl : (frmB b).length = (numB (u64 (b.length : Int))).length + b.length + 4 := by rw [frmB_ok hb]; simp [frm0, lit_len, Nat.add_assoc]
  have hj : j < (frmB b).length := by rcases Nat.lt_or_ge j (frmB b).length with h | h; exact h; rw [List.getElem?_eq_none h] at hc; cases hc
  have hlt : ((frmB b).set j v).length = (frmB b).length := List.length_set
  have hpos := numB_pos (u64 (b.length : Int))
  have hin : uf ((frmB b).set j v) ((0 : Nat) : Int) = ufIn ((frmB b).set j v) 0 := uf_in (by omega)
  refine Eq.trans hin ?_
  generalize hN : numB (u64 (b.length : Int)) = N at *
  have hb0 : frm0 b = N ++ b := by unfold frm0; rw [hN]
  have e : frmB b = N ++ (b ++ lit (crc (N ++ b))) := by rw [frmB_ok hb, hb0]; simp
  have hrd : ∀ rest, rdN (N ++ rest) 0 = .good ((u64 (b.length : Int) : Nat) : Int) N.length := fun rest => by rw [← hN]; exact rdN_num0 _ _
  by_cases hj2 : j < N.length + b.length
  · have hi : j - N.length < b.length := by omega
    have hbc : b[j - N.length]? = some c := by
      rw [e, List.getElem?_append_right (by omega), List.getElem?_append_left hi] at hc; exact hc
    have es : (frmB b).set j v = N ++ (b.set (j - N.length) v ++ lit (crc (N ++ b))) := by
      rw [e, List.set_append_right _ _ (by omega), List.set_append_left _ _ hi]
    have hcb : c = b[j - N.length] := by rw [List.getElem?_eq_getElem hi] at hbc; simpa using hbc.symm
    have hg : rdN ((frmB b).set j v) 0 = .good ((u64 (b.length : Int) : Nat) : Int) N.length := by rw [es]; exact hrd _
    refine ufIn_sum hg (wrap_len _ hb) hb (by omega) ?_
    have e1 : sub ((frmB b).set j v) 0 (N.length + b.length) = N ++ b.set (j - N.length) v := by
      have := sub_mid [] (N ++ b.set (j - N.length) v) (lit (crc (N ++ b))) (k := 0) (c := N.length + b.length) rfl (by simp)
      rw [← this]; congr 1
      rw [es]; simp
    have e2 : sub ((frmB b).set j v) (0 + N.length + b.length) 4 = lit (crc (N ++ b)) := by
      have := sub_mid (N ++ b.set (j - N.length) v) (lit (crc (N ++ b))) [] (k := 0 + N.length + b.length) (c := 4) (by simp) rfl
      rw [← this]; congr 1
      rw [es]; simp
    rw [e1, e2]
    intro hlit
    have hcr := lit_inj (crc_bd _) (crc_bd _) hlit
    have hsplit : b = b.take (j - N.length) ++ c :: b.drop (j - N.length + 1) := by
      rw [hcb]; rw [← List.drop_eq_getElem_cons hi, List.take_append_drop]
    have hsplit2 : b.set (j - N.length) v = b.take (j - N.length) ++ v :: b.drop (j - N.length + 1) := List.set_eq_take_append_cons_drop .. |>.trans (if_pos hi)
    refine crc_turn (N ++ b.take (j - N.length)) (b.drop (j - N.length + 1)) c v (ho c (by rw [hcb]; exact List.getElem_mem hi)) hv hne ?_
    rw [List.append_assoc, List.append_assoc, ← hsplit, ← hsplit2]; exact hcr.symm
  · have es : (frmB b).set j v = N ++ (b ++ (lit (crc (N ++ b))).set (j - N.length - b.length) v) := by
      rw [e, List.set_append_right _ _ (by omega), List.set_append_right _ _ (by omega)]
    have hlc : (lit (crc (N ++ b)))[j - N.length - b.length]? = some c := by
      rw [e, List.getElem?_append_right (by omega), List.getElem?_append_right (by omega)] at hc; exact hc
    have hg : rdN ((frmB b).set j v) 0 = .good ((u64 (b.length : Int) : Nat) : Int) N.length := by rw [es]; exact hrd _
    refine ufIn_sum hg (wrap_len _ hb) hb (by omega) ?_
    have e1 : sub ((frmB b).set j v) 0 (N.length + b.length) = N ++ b := by
      have := sub_mid [] (N ++ b) ((lit (crc (N ++ b))).set (j - N.length - b.length) v) (k := 0) (c := N.length + b.length) rfl (by simp)
      rw [← this]; congr 1
      rw [es]; simp
    have e2 : sub ((frmB b).set j v) (0 + N.length + b.length) 4 = (lit (crc (N ++ b))).set (j - N.length - b.length) v := by
      have := sub_mid (N ++ b) ((lit (crc (N ++ b))).set (j - N.length - b.length) v) [] (k := 0 + N.length + b.length) (c := 4) (by simp) (by rw [List.length_set]; rfl)
      rw [← this]; congr 1
      rw [es]; simp
    rw [e1, e2]
    intro hlit
    have h9 := congrArg (fun q => q[j - N.length - b.length]?) hlit
    have hlt4 : j - N.length - b.length < (lit (crc (N ++ b))).length := by rw [lit_len]; omega
    simp only [hlc, List.getElem?_set_self hlt4, Option.some.injEq] at h9
    exact hne h9.symm

end Go.Proofs.Ytdcbmeiopfdkeaa
