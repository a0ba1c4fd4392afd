/-
  Rows of texts; the specification's Split cuts a text at a sign as its plain twin says. The row that it hands back is new, nothing old turns.
-/
import Derived.Test.YtofnnpjadehgmaaDoorGRow
import Derived.Test.YtofnnpjadehgmaaDoorDPm
namespace Go.Proofs.YtofnnpjadehgmaaDoor
open Go.RowKit

def KS : Kd (List UInt8) := ⟨1, fun x => [.string ⟨x.toArray⟩], fun _ => rfl, fun x u h => by
  simp at h; subst h; rfl⟩
theorem Tryd.tyS : GTy KS (.string ⟨#[]⟩) 16 Tryd.prog 62 9 := ⟨Tryd.underlying62, by kernel_rfl, rfl, by omega⟩
theorem rowS {w : World} {a : Option Addr} {ps : List (List UInt8)} (h : RowG KS w a ps) (j : Nat) (hj : j < ps.length) : ∃ p o q, a = some ⟨p, o, none⟩ ∧ p < w.heap.size ∧ ps[j]? = some q ∧ w.cell? ⟨p, o + j, none⟩ = some (.string ⟨q.toArray⟩) := by
  obtain ⟨p, o, q, ha, hp, hq, c⟩ := h j hj
  have := c 0 _ rfl
  rw [show KS.k = 1 from rfl, Nat.mul_one, Nat.add_zero] at this
  exact ⟨p, o, q, ha, hp, hq, this⟩

theorem alloc_below (w : World) (o : Obj) : Below w.heap.size w (w.alloc o) := (Below.refl _ _).alloc (Nat.le_refl _) o
/-- The bytes from a to b. -/
def cutS (s : ByteArray) (a b : Nat) : List UInt8 := (s.data.toList.take b).drop a
theorem cutS_nil (s : ByteArray) (a : Nat) : cutS s a a = [] := by
  unfold cutS; rw [List.drop_eq_nil_of_le (by rw [List.length_take]; omega)]
theorem cutS_snoc (s : ByteArray) (a k : Nat) (ha : a ≤ k) (hk : k < s.size) : cutS s a (k + 1) = cutS s a k ++ [s[k]] := by
  unfold cutS
  have hl : k < s.data.toList.length := by simpa using hk
  rw [List.take_succ_eq_append_getElem hl, List.drop_append_of_le_length (by rw [List.length_take]; omega)]
  rfl
theorem cutS_is (s : ByteArray) (a b : Nat) : s.extract a b = ⟨(cutS s a b).toArray⟩ := by
  unfold cutS
  apply ByteArray.ext
  rw [ByteArray.data_extract]
  apply Array.ext'
  simp [List.drop_take]
theorem drop_at (s : ByteArray) (k : Nat) (h : k < s.size) : s.data.toList.drop k = s[k] :: s.data.toList.drop (k + 1) := by
  have hl : k < s.data.toList.length := by simpa using h
  rw [List.drop_eq_getElem_cons hl]; rfl
theorem ba_of (s : ByteArray) : s = ⟨s.data.toList.toArray⟩ := by simp

set_option maxHeartbeats 2000000 in
theorem sSplit_any (s : ByteArray) (b : UInt8) (w : World) (hs : s.size ≤ 100000) :
    Calls Tryd.prog 38 #[.string s, .int .u8 (b.toNat : Int)] w fun e w' => ∃ a c, e = .returned (.slice a (splA b [] s.data.toList).length c) ∧ OwnG KS 9 w' w.heap.size (.slice a (splA b [] s.data.toList).length c) (splA b [] s.data.toList) ∧ Below w.heap.size w w' := by
  obtain ⟨T, hT⟩ : ∃ T, T = splA b [] s.data.toList := ⟨_, rfl⟩
  rw [← hT]
  have HT := hidP hT
  clear hT
  go_enter Tryd.func38, Tryd.ntmps38
  go_wp2_with fail
  have HZ := hidP (own_zeroG KS w w.heap.size 9 (Nat.le_refl _))
  have HB0 := hidP (alloc_below w (.cells #[] 9))
  generalize w.alloc (.cells #[] 9) = W1 at *
  go_loopw [5, 6, 7] (fun t5 t6 t7 wr => ∃ (k fr n c : Nat) (ad : Option Addr) (done : List (List UInt8)), k ≤ s.size + 1 ∧ fr ≤ k ∧ t7 = .int .i64 k ∧ t6 = .int .i64 fr ∧ t5 = .slice ad n c ∧ n ≤ k ∧ Hid (n = done.length) ∧ Hid (OwnG KS 9 wr w.heap.size (.slice ad n c) done) ∧ Hid (Below w.heap.size w wr) ∧ Hid (done ++ (if k ≤ s.size then splA b (cutS s fr k) (s.data.toList.drop k) else []) = T)) (fun _ _ t7 _ => s.size + 1 - (intOf t7).toNat)
  case atStart => exact ⟨0, 0, 0, 0, _, [], by omega, by omega, rfl, rfl, rfl, by omega, rfl, HZ.out, HB0.out, hidP (by rw [if_pos (by omega), cutS_nil, HT.out]; rfl)⟩
  case round =>
    obtain ⟨k, fr, n, c, ad, done, hk, hfr, rfl, rfl, rfl, hn, HN, HO, HB, HI⟩ := hrel
    have hW : w.heap.size ≤ wr.heap.size := HB.out.size
    by_cases hle : k ≤ s.size
    · by_cases hlt : k < s.size
      · have HD := hidP (drop_at s k hlt)
        have HC := hidP (cutS_snoc s fr k hfr hlt)
        have he : ((k : Int) == (s.size : Int)) = false := by simp; omega
        have hl1 : decide ((k : Int) ≤ (s.size : Int)) = true := by simp; omega
        by_cases hc : s[k] = b
        · have HCB := hidP hc
          have hcb : ((s[k].toNat : Int) == (b.toNat : Int)) = true := by rw [hc]; simp
          clear hc
          have hx := cutS_is s fr k
          go_wp2_with (at_builtin; refine wpList_appG Tryd.tyS _ rfl (.tmp 26) (.tmp 31) 62 rfl w.heap.size ad n c 1 done [cutS s fr k] (.slice (some ⟨wr.heap.size, 0, none⟩) 1 1) rfl HN.out rfl (HO.out.alloc _) rfl (src_rowG Tryd.tyS.1 1 1 (by show 0 < 1; omega) rfl (own_oneG KS wr 0 9 (cutS s fr k) (Nat.zero_le _)).row (by simp)) (by omega) (by simp; omega) ?_; intro a9 c9 w9 ho9 hg9 ht9)
          go_roundw
          case rel =>
            refine ⟨k + 1, k + 1, n + 1, c9, a9, done ++ [cutS s fr k], by omega, by omega, by go_num, by go_num, rfl, by omega, hidP (by rw [List.length_append, HN.out]; rfl), ho9, hidP (below_appG (HB.out.alloc hW _) (HO.out.alloc _) (by simp; omega) hg9), hidP ?_⟩
            have := HI.out
            rw [if_pos hle, HD.out, splA, if_pos HCB.out] at this
            rw [if_pos (by omega), cutS_nil, ← this]; simp
          case measure => simp [intOf]; omega
        · have HCB := hidP hc
          have hcb : ((s[k].toNat : Int) == (b.toNat : Int)) = false := by rw [beq_eq_false_iff_ne]; intro e; exact hc (UInt8.toNat_inj.1 (by omega))
          clear hc
          go_wp2
          go_roundw
          case rel =>
            refine ⟨k + 1, fr, n, c, ad, done, by omega, by omega, by go_num, rfl, rfl, by omega, HN, HO, HB, hidP ?_⟩
            have := HI.out
            rw [if_pos hle, HD.out, splA, if_neg HCB.out] at this
            rw [if_pos (by omega), HC.out, ← this]
          case measure => simp [intOf]; omega
      · have hkk : k = s.size := by omega
        subst hkk
        have he : ((s.size : Int) == (s.size : Int)) = true := by simp
        have hx := cutS_is s fr s.size
        go_wp2_with (at_builtin; refine wpList_appG Tryd.tyS _ rfl (.tmp 26) (.tmp 31) 62 rfl w.heap.size ad n c 1 done [cutS s fr s.size] (.slice (some ⟨wr.heap.size, 0, none⟩) 1 1) rfl HN.out rfl (HO.out.alloc _) rfl (src_rowG Tryd.tyS.1 1 1 (by show 0 < 1; omega) rfl (own_oneG KS wr 0 9 (cutS s fr s.size) (Nat.zero_le _)).row (by simp)) (by omega) (by simp; omega) ?_; intro a9 c9 w9 ho9 hg9 ht9)
        go_roundw
        case rel =>
          refine ⟨s.size + 1, s.size + 1, n + 1, c9, a9, done ++ [cutS s fr s.size], by omega, by omega, by go_num, by go_num, rfl, by omega, hidP (by rw [List.length_append, HN.out]; rfl), ho9, hidP (below_appG (HB.out.alloc hW _) (HO.out.alloc _) (by simp; omega) hg9), hidP ?_⟩
          have := HI.out
          rw [if_pos hle, List.drop_eq_nil_of_le (by simp), splA] at this
          rw [if_neg (by omega), ← this, List.append_nil]
        case measure => simp [intOf]
    · have HE : Hid (done = T) := hidP (by have := HI.out; rw [if_neg hle, List.append_nil] at this; exact this)
      have hl1 : ¬ ((k : Int) ≤ (s.size : Int)) := by omega
      go_wp2
      go_ret
      have hT := HE.out
      subst hT
      refine ⟨ad, c, ?_, ?_, HB.out⟩
      · rw [HN.out]; rfl
      · rw [← HN.out]; exact HO.out

end Go.Proofs.YtofnnpjadehgmaaDoor
