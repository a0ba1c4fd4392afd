/-
  The program's writing of one number (putNums, PutNum); the row that is handed back is new, nothing old turns.
-/
import Derived.Test.YtdcbmeiopfdkeaaCNum
namespace Go.Proofs.Ytdcbmeiopfdkeaa
open Go.RowKit

set_option maxHeartbeats 2000000 in
theorem putNums_one (q c : Nat) (n : Int) (w : World) (hq : q < w.heap.size) (hc : w.cell? ⟨q, 0, none⟩ = some (.int .i64 n)) :
    Calls Try.prog 37 #[.slice (some ⟨q, 0, none⟩) 1 c] w fun e w' => ∃ a cap, e = .returned (.slice a (numB (u64 n)).length cap) ∧ Own w' w.heap.size (.slice a (numB (u64 n)).length cap) (numB (u64 n)) ∧ Below w.heap.size w w' := by
  obtain ⟨i0, hi, hz0, hz1, hz2⟩ := info_parts Try.infoU8
  have HT : Hid ((numB (u64 n)).length ≤ 10) := numB_ten _ (u64_lt n)
  have ub : 0 ≤ IntKind.u64.wrap n ∧ IntKind.u64.wrap n < 18446744073709551616 := by rw [IntKind.wrap_u64]; omega
  unfold u64 at HT ⊢
  have HO : Hid (Own (w.alloc (.cells #[] 5)) w.heap.size (.slice (some ⟨w.heap.size, 0, none⟩) 0 0) []) := World.ownsRow_lit w #[] 0 (Nat.le_refl _) (by unfold maxLen; omega) (by simp)
  generalize hX : numB (IntKind.u64.wrap n).toNat = Z at HT ⊢
  have HX : Hid (numB (IntKind.u64.wrap n).toNat = Z) := hX
  have HC : Hid (w.cell? ⟨q, 0, none⟩ = some (.int .i64 n)) := hc
  clear hX hc
  go_enter Try.func37, Try.ntmps37
  go_wp2
  go_loopw [3, 10] (fun t3 t10 wr => (t10 = .int .i64 0 ∧ t3 = .slice (some ⟨w.heap.size, 0, none⟩) 0 0 ∧ wr = w.alloc (.cells #[] 5)) ∨ (t10 = .int .i64 1 ∧ Own wr w.heap.size t3 Z ∧ Below w.heap.size w wr)) (fun _ t10 _ => (1 - intOf t10).toNat)
  case atStart => exact Or.inl ⟨rfl, rfl, rfl⟩
  case round =>
    rcases hrel with ⟨rfl, rfl, rfl⟩ | ⟨rfl, hown, hbel⟩
    · have hcc : (w.alloc (.cells #[] 5)).cell? ⟨q, 0, none⟩ = some (.int .i64 n) := (((Below.refl _ w).alloc (Nat.le_refl _) _).cell (p := ⟨q, 0, none⟩) hq).trans HC.out
      go_wp2
      go_loopw [3, 6] (fun t3 t6 wr => ∃ (x : Int) (ys : List Int), t6 = .int .u64 x ∧ 0 ≤ x ∧ x < 18446744073709551616 ∧ Own wr w.heap.size t3 ys ∧ ys ++ numB x.toNat = Z ∧ Below w.heap.size w wr) (fun _ t6 _ => (intOf t6).toNat)
      case atStart => exact ⟨_, [], rfl, ub.1, ub.2, HO.out, HX.out, (Below.refl _ w).alloc (Nat.le_refl _) _⟩
      case round =>
        obtain ⟨x, ys, rfl, hx0, hx1, hown, heq, hbel⟩ := hrel
        have HE : Hid (ys ++ numB x.toNat = Z) := heq
        have hyl : ys.length ≤ 10 := by have := HT.out; rw [← heq, List.length_append] at this; omega
        have hwz : w.heap.size ≤ wr.heap.size := hbel.size
        have HB : Hid (Below w.heap.size w wr) := hbel
        have HOw : Hid (Own wr w.heap.size _ ys) := hown
        clear heq hbel hown hcc
        by_cases hx : x < 128
        · have HN : Hid (ys ++ [x] = Z) := by unfold Hid; rw [← HE.out, numB_loI hx0 hx]
          go_wp2_with (at_builtin; refine wpList_append_lies _ rfl (.tmp 26) (.tmp 29) 22 rfl w.heap.size 5 i0 (.int .u8 0) 1 1 Try.underlying22 hi hz0 hz1 hz2 rfl (by decide) _ _ _ rfl (HOw.out.alloc _) ⟨wr.heap.size, 0, none⟩ 1 1 [.int .u8 x] rfl rfl (cell_one_new _ _ _) (one_one _) (by decide) (by unfold maxLen; omega) (by omega) (by simp; omega) (wr.heap.size + 1) (by simp) ?_; intro g cap w1 hown hgrow hat hgl)
          have O1 := own_snoc rfl hown
          have B1 : Below w.heap.size w w1 := below_app (HB.out.alloc hwz _) (HOw.out.alloc _) (by simp; omega) hgrow
          rw [HN.out] at O1
          have HO1 : Hid (Own w1 w.heap.size _ _) := O1
          have HB1 : Hid (Below w.heap.size w w1) := B1
          clear hown hgrow hat O1 B1
          go_wp2
          go_roundw
          case rel => exact Or.inr ⟨rfl, HO1.out, HB1.out⟩
          case measure => simp [intOf]
        · have HN : Hid ((ys ++ [x % 128 + 128]) ++ numB (x / 128).toNat = Z) := by unfold Hid; rw [← HE.out, numB_hiI hx, List.append_assoc]; rfl
          have hor := or128 x hx0
          go_wp2_with (at_builtin; refine wpList_append_lies _ rfl (.tmp 18) (.tmp 22) 22 rfl w.heap.size 5 i0 (.int .u8 0) 1 1 Try.underlying22 hi hz0 hz1 hz2 rfl (by decide) _ _ _ rfl (HOw.out.alloc _) ⟨wr.heap.size, 0, none⟩ 1 1 [.int .u8 (x % 128 + 128)] rfl rfl (cell_one_new _ _ _) (one_one _) (by decide) (by unfold maxLen; omega) (by omega) (by simp; omega) (wr.heap.size + 1) (by simp) ?_; intro g cap w1 hown hgrow hat hgl)
          have O1 := own_snoc rfl hown
          have B1 : Below w.heap.size w w1 := below_app (HB.out.alloc hwz _) (HOw.out.alloc _) (by simp; omega) hgrow
          have HO1 : Hid (Own w1 w.heap.size _ _) := O1
          have HB1 : Hid (Below w.heap.size w w1) := B1
          clear hown hgrow hat O1 B1
          go_wp2
          go_roundw
          case rel => exact ⟨x / 128, _, rfl, by omega, by omega, HO1.out, HN.out, HB1.out⟩
          case measure => simp [intOf]; omega
    · obtain ⟨a, cap, rfl, hby⟩ := hown.form
      have HO1 : Hid (Own _ w.heap.size _ Z) := hown
      have HB1 : Hid (Below w.heap.size w _) := hbel
      clear hown hbel hby
      go_wp2
      go_ret
      exact ⟨a, cap, rfl, HO1.out, HB1.out⟩

set_option maxHeartbeats 2000000 in
theorem iPutNum_any (n : Int) (w : World) :
    Calls Try.prog 11 #[.int .i64 n] w fun e w' => ∃ a cap, e = .returned (.slice a (numB (u64 n)).length cap) ∧ Own w' w.heap.size (.slice a (numB (u64 n)).length cap) (numB (u64 n)) ∧ Below w.heap.size w w' := by
  go_enter Try.func11, Try.ntmps11
  go_wp2_with fail
  refine (putNums_one w.heap.size 1 n _ (by simp) (by simp [go_sem])).mono ?_
  rintro e w1 ⟨a, cap, rfl, ho, hb⟩
  have HO1 : Hid (Own w1 w.heap.size _ _) := ho.mono (by simp)
  have HB1 : Hid (Below w.heap.size w w1) := ((Below.refl _ w).alloc (Nat.le_refl _) _).trans (hb.mono (by simp))
  clear ho hb
  go_wp2_with fail
  go_ret
  exact ⟨a, cap, rfl, HO1.out, HB1.out⟩

end Go.Proofs.Ytdcbmeiopfdkeaa
