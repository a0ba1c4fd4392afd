/-
  Both PutText: the number of a text's bytes, and the bytes; the row that is handed back is new, nothing old turns.
-/
import Derived.Test.YtdcbmeiopfdkeaaCApp
import Derived.Test.YtdcbmeiopfdkeaaCPut
namespace Go.Proofs.Ytdcbmeiopfdkeaa
open Go.RowKit

/-- The bytes of a text. -/
def txtB (s : ByteArray) : List Int := numB (u64 (s.size : Int)) ++ bys s

set_option maxHeartbeats 2000000 in
theorem sPutText_any (s : ByteArray) (w : World) (hl : s.size ≤ 1048576) :
    Calls Try.prog 32 #[.string s] w fun e w' => ∃ a cap, e = .returned (.slice a (txtB s).length cap) ∧ Own w' w.heap.size (.slice a (txtB s).length cap) (txtB s) ∧ Below w.heap.size w w' := by
  have hten : (numB (u64 (s.size : Int))).length ≤ 10 := numB_ten _ (u64_lt _)
  have HBL : Hid ((bys s).length = s.size) := bys_len s
  go_enter Try.func32, Try.ntmps32
  go_wp2_with fail
  refine (sPutNum_any _ w).mono ?_
  rintro e w1 ⟨a, cap, rfl, ho, hbel⟩
  obtain ⟨g, rfl, hg1, hg2⟩ := ho.head (numB_pos _)
  have HB : Hid (Below w.heap.size w w1) := hbel
  have HO : Hid (Own w1 w.heap.size _ _) := ho
  have hz : w.heap.size ≤ w1.heap.size := hbel.size
  clear ho hbel
  go_wp2_with (at_builtin; refine wpList_app _ rfl (.tmp 5) (.tmp 6) 9 rfl w.heap.size g _ cap _ (bys s) _ _ rfl rfl rfl HO.out rfl (src_str s) (by have := HBL.out; omega) hz ?_; intro h c w2 hown hgr hat)
  have HB2 : Hid (Below w.heap.size w w2) := below_app HB.out HO.out hz hgr
  have HO2 : Hid (Own w2 w.heap.size _ _) := hown
  clear hown hgr hat
  go_wp2_with fail
  go_ret
  refine ⟨some ⟨h, 0, none⟩, c, ?_, ?_, HB2.out⟩
  · unfold txtB; rw [List.length_append]; rfl
  · unfold txtB; rw [List.length_append]; exact HO2.out

set_option maxHeartbeats 2000000 in
theorem iPutText_any (s : ByteArray) (w : World) (hl : s.size ≤ 1048576) :
    Calls Try.prog 20 #[.string s] w fun e w' => ∃ a cap, e = .returned (.slice a (txtB s).length cap) ∧ Own w' w.heap.size (.slice a (txtB s).length cap) (txtB s) ∧ Below w.heap.size w w' := by
  have hten : (numB (u64 (s.size : Int))).length ≤ 10 := numB_ten _ (u64_lt _)
  have HBL : Hid ((bys s).length = s.size) := bys_len s
  go_enter Try.func20, Try.ntmps20
  go_wp2_with fail
  refine (putNums_one w.heap.size 1 (s.size : Int) _ (by simp) (by simp [go_sem])).mono ?_
  rintro e w1 ⟨a, cap, rfl, ho, hbel⟩
  obtain ⟨g, rfl, hg1, hg2⟩ := ho.head (numB_pos _)
  have HB : Hid (Below w.heap.size w w1) := ((Below.refl _ w).alloc (Nat.le_refl _) _).trans (hbel.mono (by simp))
  have HO : Hid (Own w1 w.heap.size _ _) := ho.mono (by simp)
  have hz : w.heap.size ≤ w1.heap.size := HB.out.size
  clear ho hbel hg1
  go_wp2_with (at_builtin; refine wpList_app _ rfl (.tmp 6) (.tmp 7) 9 rfl w.heap.size g _ cap _ (bys s) _ _ rfl rfl rfl HO.out rfl (src_str s) (by have := HBL.out; omega) hz ?_; intro h c w2 hown hgr hat)
  have HB2 : Hid (Below w.heap.size w w2) := below_app HB.out HO.out hz hgr
  have HO2 : Hid (Own w2 w.heap.size _ _) := hown
  clear hown hgr hat
  go_wp2_with fail
  go_ret
  refine ⟨some ⟨h, 0, none⟩, c, ?_, ?_, HB2.out⟩
  · unfold txtB; rw [List.length_append]; rfl
  · unfold txtB; rw [List.length_append]; exact HO2.out

end Go.Proofs.Ytdcbmeiopfdkeaa
