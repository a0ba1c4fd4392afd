/-
  Both Frames: the number of the bytes, the bytes, and four bytes of their sum; more than 20000 have none. The row that is handed back is new, nothing old turns.
-/
import Derived.Test.YtdcbmeiopfdkeaaCRev
import Derived.Test.YtdcbmeiopfdkeaaCPut
namespace Go.Proofs.Ytdcbmeiopfdkeaa
open Go.RowKit

def frm0 (zs : List Int) : List Int := numB (u64 (zs.length : Int)) ++ zs
def frmB (zs : List Int) : List Int := if zs.length ≤ 20000 then frm0 zs ++ lit (crc (frm0 zs)) else []
theorem frmB_ok {zs : List Int} (h : zs.length ≤ 20000) : frmB zs = frm0 zs ++ lit (crc (frm0 zs)) := if_pos h
theorem frmB_no {zs : List Int} (h : ¬ zs.length ≤ 20000) : frmB zs = [] := if_neg h
theorem frm0_len (zs : List Int) : (frm0 zs).length ≤ zs.length + 10 := by
  have := numB_ten _ (u64_lt (zs.length : Int)); unfold frm0; rw [List.length_append]; omega
theorem frmB_len (zs : List Int) : (frmB zs).length ≤ 20014 := by
  have := frm0_len zs
  unfold frmB; split
  · rw [List.length_append]; simp only [lit, List.length_cons, List.length_nil]; omega
  · simp
theorem frm0_oct {zs : List Int} (h : Oct zs) : Oct (frm0 zs) := by
  intro z hz
  rcases List.mem_append.1 hz with h1 | h1
  · exact numB_oct _ z h1
  · exact h z h1

set_option maxHeartbeats 2000000 in
theorem iFrame_any (a : Option Addr) (cap : Nat) (zs : List Int) (w : World) (hB : Byt w a zs) (ho : Oct zs) (hl : zs.length ≤ 9000000) (ha : a = none → cap = 0) :
    Calls Try.prog 14 #[.slice a zs.length cap] w fun e w' => ∃ g c, e = .returned (.slice (some ⟨g, 0, none⟩) (frmB zs).length c) ∧ Own w' w.heap.size (.slice (some ⟨g, 0, none⟩) (frmB zs).length c) (frmB zs) ∧ Below w.heap.size w w' := by
  have HB : Hid (Byt w a zs) := hB
  have HO : Hid (Oct zs) := ho
  clear hB ho
  by_cases h2 : zs.length ≤ 20000
  · have HF : Hid (frmB zs = _) := frmB_ok h2
    have hten : (numB (u64 (zs.length : Int))).length ≤ 10 := numB_ten _ (u64_lt _)
    go_enter Try.func14, Try.ntmps14
    go_wp2_with fail
    refine (putNums_one w.heap.size 1 (zs.length : Int) _ (by simp) (by simp [go_sem])).mono ?_
    rintro e w1 ⟨a1, c1, rfl, ho, hbel0⟩
    obtain ⟨g, rfl, hg1, hg2⟩ := ho.head (numB_pos _)
    have hbel : Below w.heap.size w w1 := ((Below.refl _ w).alloc (Nat.le_refl _) _).trans (hbel0.mono (by simp))
    have HB1 : Hid (Below w.heap.size w w1) := hbel
    have HO1 : Hid (Own w1 w.heap.size _ _) := ho.mono (by simp)
    have hz : w.heap.size ≤ w1.heap.size := hbel.size
    have HS : Hid (Byt w1 a zs) := HB.out.later hbel
    clear ho hbel hbel0 hg1
    go_wp2_with (at_builtin; refine wpList_app _ rfl (.tmp 11) (.tmp 12) 22 rfl w.heap.size g _ c1 _ zs _ _ rfl rfl rfl HO1.out rfl (src_byt _ HS.out ha) (by omega) hz ?_; intro h c w2 hown hgr hat)
    have HB2 : Hid (Below w.heap.size w w2) := below_app HB1.out HO1.out hz hgr
    have HO2 : Hid (Own w2 w.heap.size (.slice (some ⟨h, 0, none⟩) (frm0 zs).length c) (frm0 zs)) := by unfold Hid frm0; rw [List.length_append]; exact hown
    have el : (numB (u64 (zs.length : Int))).length + zs.length = (frm0 zs).length := by unfold frm0; rw [List.length_append]
    rw [el]
    have hfl := frm0_len zs
    have hz2 : w.heap.size ≤ w2.heap.size := HB2.out.size
    clear hown hgr hat el hten
    go_wp2_with fail
    refine (sumBytes_any _ c (frm0 zs) w2 HO2.out.bytA (frm0_oct HO.out) (by omega)).mono ?_
    rintro e w3 ⟨rfl, ho, hb⟩
    have HO3 : Hid (Own w3 w2.heap.size _ _) := ho
    have HO4 : Hid (Own w3 w.heap.size _ _) := HO2.out.later hb
    have HB3 : Hid (Below w.heap.size w w3) := HB2.out.trans (hb.mono hz2)
    have hz3 : w.heap.size ≤ w3.heap.size := HB3.out.size
    clear ho hb HO2
    go_wp2_with (at_builtin; refine wpList_app _ rfl (.tmp 14) (.tmp 16) 22 rfl w.heap.size h _ c _ (lit (crc (frm0 zs))) _ _ rfl rfl rfl HO4.out rfl (src_byt (zs := lit (crc (frm0 zs))) 4 HO3.out.bytA (by simp)) (by simp only [lit, List.length_cons, List.length_nil]; omega) hz3 ?_; intro h' c' w4 hown hgr hat)
    have HB4 : Hid (Below w.heap.size w w4) := below_app HB3.out HO4.out hz3 hgr
    have HO5 : Hid (Own w4 w.heap.size _ _) := hown
    clear hown hgr hat
    go_wp2_with fail
    go_ret
    refine ⟨h', c', ?_, ?_, HB4.out⟩
    · rw [HF.out, List.length_append]; rfl
    · rw [HF.out, List.length_append]; exact HO5.out
  · have HF : Hid (frmB zs = []) := frmB_no h2
    have d : decide ((20000 : Int) < (zs.length : Int)) = true := decide_eq_true (by omega)
    go_enter Try.func14, Try.ntmps14
    go_wp2_with fail
    go_ret
    rw [HF.out]
    exact ⟨w.heap.size, 0, rfl, World.ownsRow_lit w #[] 0 (Nat.le_refl _) (by unfold maxLen; omega) (by simp), (Below.refl _ w).alloc (Nat.le_refl _) _⟩

end Go.Proofs.Ytdcbmeiopfdkeaa
