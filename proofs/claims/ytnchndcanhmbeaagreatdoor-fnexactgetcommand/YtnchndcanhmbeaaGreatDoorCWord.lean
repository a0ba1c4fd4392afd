/-
  The bytes of a word, the highest first: the program's wordBytes and the specification's l3Great, each by that; the row that is handed back is new, nothing old turns.
-/
import Derived.Test.YtnchndcanhmbeaaGreatDoorCApp
namespace Go.Proofs.YtnchndcanhmbeaaGreatDoor
open Go.RowKit

/-- The byte i of a word, from the lowest. -/
def byteAt (n : Int) (i : Nat) : Int := n / 2 ^ (8 * i) % 256
def big (n : Int) (c : Nat) : List Int := (List.range c).map fun (j : Nat) => byteAt n (c - 1 - j)
theorem big_len (n : Int) (c : Nat) : (big n c).length = c := by simp [big]
theorem byteAt_bd (n : Int) (i : Nat) : 0 ≤ byteAt n i ∧ byteAt n i ≤ 255 := by unfold byteAt; omega
theorem big_oct (n : Int) (c : Nat) : Oct (big n c) := by
  intro z hz
  obtain ⟨j, _, rfl⟩ := List.mem_map.1 hz
  exact byteAt_bd _ _
/-- Those that are written already, from the end on. -/
def part (n : Int) (c i : Nat) : List Int := (List.range c).map fun (j : Nat) => if c - i ≤ j then byteAt n (c - 1 - j) else 0
theorem part_len (n : Int) (c i : Nat) : (part n c i).length = c := by simp [part]
theorem part_zero (n : Int) (c : Nat) : part n c 0 = List.replicate c 0 := by
  apply List.ext_getElem?
  intro j
  simp only [part, List.getElem?_map, List.getElem?_replicate]
  by_cases hj : j < c
  · rw [List.getElem?_range hj]; simp; omega
  · rw [List.getElem?_eq_none (by simp; omega)]; simp [hj]
theorem part_all (n : Int) (c : Nat) : part n c c = big n c := by
  unfold part big; apply List.map_congr_left; intro j hj; rw [if_pos (by omega)]
theorem part_step (n : Int) (c i : Nat) (hi : i < c) : ((part n c i).map (Value.int .u8)).set (c - 1 - i) (.int .u8 (byteAt n i)) = (part n c (i + 1)).map (Value.int .u8) := by
  apply List.ext_getElem?
  intro j
  rw [List.getElem?_set]
  simp only [part, List.getElem?_map, List.length_map, List.length_range]
  by_cases hj : j < c
  · rw [List.getElem?_range hj]
    by_cases e : c - 1 - i = j
    · subst e
      simp only [if_true, Option.map_some]
      rw [if_pos (by omega), if_pos (by omega), show c - 1 - (c - 1 - i) = i from by omega]
    · rw [if_neg e]
      simp only [Option.map_some, Option.some.injEq, Value.int.injEq, true_and]
      by_cases h : c - i ≤ j
      · rw [if_pos h, if_pos (by omega)]
      · rw [if_neg h, if_neg (by omega)]
  · rw [if_neg (by omega), List.getElem?_eq_none (by simp; omega)]; rfl
theorem shr_u (n : Int) (k : Nat) (hk : k < 8) : IntKind.u64.wrap n / 2 ^ (8 * k) % 256 = byteAt n k := by
  unfold byteAt; rw [IntKind.wrap_u64]
  have h : k = 0 ∨ k = 1 ∨ k = 2 ∨ k = 3 ∨ k = 4 ∨ k = 5 ∨ k = 6 ∨ k = 7 := by omega
  rcases h with rfl | rfl | rfl | rfl | rfl | rfl | rfl | rfl <;> (simp only [Nat.mul_zero, Nat.mul_one, Nat.reduceMul, Int.reducePow, Int.pow_zero]; omega)

set_option maxRecDepth 10000 in
set_option maxHeartbeats 2000000 in
theorem wordBytes_any (n : Int) (c : Nat) (hc : c ≤ 8) (w : World) :
    Calls Tryz.prog 50 #[.int .i64 n, .int .i64 c] w fun e w' => e = .returned (.slice (some ⟨w.heap.size, 0, none⟩) c c) ∧ Own w' w.heap.size (.slice (some ⟨w.heap.size, 0, none⟩) c c) (big n c) ∧ Below w.heap.size w w' := by
  obtain ⟨i0, hi, hz0, hz1, hz2⟩ := info_parts Tryz.infoU8
  go_enter Tryz.func50, Tryz.ntmps50
  go_wp2_with (refine wpList_make_full _ rfl (.tmp 7) (.tmp 7) 29 rfl w.heap.size 5 i0 (.int .u8 0) 1 Tryz.underlying29 hi hz0 hz1 .i64 .i64 c c c rfl rfl rfl rfl (by rw [hz2]; omega) (by unfold maxLen; omega) (Nat.le_refl _) ?_; intro w1 hown hgrow)
  have HO : Hid (w1.ownsRow w.heap.size 5 1 (.slice (some ⟨w.heap.size, 0, none⟩) c c) c ((part n c 0).map (Value.int .u8))) := by
    have e : (madeCells (Value.int .u8 0).cells (c * 1)).toList = List.replicate c (Value.int .u8 0) := by rw [Nat.mul_one]; exact toList_madeCells_one _ _
    rw [e] at hown
    unfold Hid; rw [part_zero]; simpa using hown
  have HW : Hid (Below w.heap.size w w1) := (Below.refl _ w).grown hgrow (Nat.le_refl _) (fun k hk => by cases hk)
  clear hown hgrow
  go_loopw [11] (fun t11 wr => ∃ k : Nat, k ≤ c ∧ t11 = .int .i64 k ∧ wr.ownsRow w.heap.size 5 1 (.slice (some ⟨w.heap.size, 0, none⟩) c c) c ((part n c k).map (Value.int .u8)) ∧ Below w.heap.size w wr) (fun t11 _ => c - (intOf t11).toNat)
  case atStart => exact ⟨0, Nat.zero_le _, rfl, HO.out, HW.out⟩
  case round =>
    obtain ⟨k, hk, rfl, hown, hbel⟩ := hrel
    by_cases hlt : k < c
    · obtain ⟨j, hj⟩ : ∃ j, j + k + 1 = c := ⟨c - 1 - k, by omega⟩
      have ej : c - 1 - k = j := by omega
      have ce : ∃ v, wr.cell? ⟨w.heap.size, j, none⟩ = some v := by
        have h := hown.cellAt j (by omega)
        rw [h, List.getElem?_eq_getElem (by simp [part]; omega)]
        exact ⟨_, rfl⟩
      obtain ⟨v0, ce⟩ := ce
      have cf := hown.frozenAt j
      have st := hown.stored j (.int .u8 (byteAt n k))
      rw [← ej, part_step n c k hlt, ej] at st
      have HS : Hid (_ ∧ _) := st
      have HBel : Hid (Below w.heap.size w wr) := hbel
      have eij : (c : Int) - 1 - (k : Int) = (j : Int) := by omega
      clear st hown hbel HO HW ej
      go_wp2
      go_roundw
      case rel => exact ⟨k + 1, by omega, by go_num, HS.out.1, HBel.out.setCell (Nat.le_refl _) _⟩
      case measure => simp [intOf]; omega
    · have hkc : k = c := by omega
      subst hkc
      have HO2 : Hid (Own wr w.heap.size (.slice (some ⟨w.heap.size, 0, none⟩) k k) (big n k)) := by
        unfold Hid Own; rw [part_all] at hown; rw [big_len]; exact hown
      have HBel : Hid (Below w.heap.size w wr) := hbel
      clear hown hbel HO HW
      go_wp2
      go_ret
      exact ⟨rfl, HO2.out, HBel.out⟩

/-- The first i bytes. -/
def bigTo (n : Int) (c i : Nat) : List Int := (List.range i).map fun (j : Nat) => byteAt n (c - 1 - j)
theorem bigTo_succ (n : Int) (c i : Nat) : bigTo n c (i + 1) = bigTo n c i ++ [byteAt n (c - 1 - i)] := by simp [bigTo, List.range_succ]
theorem bigTo_len (n : Int) (c i : Nat) : (bigTo n c i).length = i := by simp [bigTo]

set_option maxRecDepth 10000 in
set_option maxHeartbeats 2000000 in
theorem l3Great_any (n : Int) (c : Nat) (hc : c ≤ 8) (h0 : 0 < c) (w : World) :
    Calls Tryz.prog 46 #[.int .i64 n, .int .i64 c] w fun e w' => ∃ g cap, e = .returned (.slice (some ⟨g, 0, none⟩) c cap) ∧ Own w' w.heap.size (.slice (some ⟨g, 0, none⟩) c cap) (big n c) ∧ Below w.heap.size w w' := by
  obtain ⟨i0, hi, hz0, hz1, hz2⟩ := info_parts Tryz.infoU8
  have HO : Hid (Own (w.alloc (.cells #[] 5)) w.heap.size (.slice (some ⟨w.heap.size, 0, none⟩) 0 0) []) := World.ownsRow_lit w #[] 0 (Nat.le_refl _) (by unfold maxLen; omega) (by simp)
  go_enter Tryz.func46, Tryz.ntmps46
  go_wp2
  go_loopw [5, 6] (fun t5 t6 wr => ∃ k : Nat, k ≤ c ∧ t6 = .int .i64 ((c : Int) - 1 - k) ∧ Own wr w.heap.size t5 (bigTo n c k) ∧ Below w.heap.size w wr) (fun _ t6 _ => (intOf t6 + 1).toNat)
  case atStart => exact ⟨0, Nat.zero_le _, by simp, HO.out, (Below.refl _ w).alloc (Nat.le_refl _) _⟩
  case round =>
    obtain ⟨k, hk, rfl, hown, hbel⟩ := hrel
    have hyl := bigTo_len n c k
    have hwz : w.heap.size ≤ wr.heap.size := hbel.size
    have HB : Hid (Below w.heap.size w wr) := hbel
    have HOw : Hid (Own wr w.heap.size _ (bigTo n c k)) := hown
    have HL : Hid ((bigTo n c k).length = k) := hyl
    clear hbel hown hyl HO
    by_cases hlt : k < c
    · obtain ⟨j, hj⟩ : ∃ j : Nat, (c : Int) - 1 - (k : Int) = (j : Int) := ⟨c - 1 - k, by omega⟩
      have hj8 : j < 8 := by omega
      have HV : Hid (IntKind.u64.wrap n / 2 ^ (8 * j) % 256 = byteAt n j) := shr_u n j hj8
      have HJ : Hid (c - 1 - k = j) := by unfold Hid; omega
      rw [hj]
      go_wp2_with (at_builtin; refine wpList_append_lies _ rfl (.tmp 14) (.tmp 22) 29 rfl w.heap.size 5 i0 (.int .u8 0) 1 1 Tryz.underlying29 hi hz0 hz1 hz2 rfl (by decide) _ _ _ rfl (HOw.out.alloc _) ⟨wr.heap.size, 0, none⟩ 1 1 [.int .u8 (IntKind.u64.wrap n / 2 ^ (8 * j) % 256)] rfl rfl (cell_one_new _ _ _) (one_one _) (by decide) (by have := HL.out; unfold maxLen; omega) (by have := HL.out; omega) (by simp; omega) (wr.heap.size + 1) (by simp) ?_; intro g cap w1 hown hgrow hat hgl)
      have O1 := own_snoc rfl hown
      have B1 : Below w.heap.size w w1 := below_app (HB.out.alloc hwz _) (HOw.out.alloc _) (by simp; omega) hgrow
      rw [HV.out, ← HJ.out, ← bigTo_succ] at O1
      have HO1 : Hid (Own w1 w.heap.size _ _) := O1
      have HB1 : Hid (Below w.heap.size w w1) := B1
      clear hown hgrow hat O1 B1
      go_wp2
      go_roundw
      case rel => exact ⟨k + 1, by omega, by go_num, HO1.out, HB1.out⟩
      case measure => simp [intOf]
    · have hkc : k = c := by omega
      subst hkc
      have O1 := HOw.out
      unfold Own at O1
      rw [HL.out] at O1
      obtain ⟨g, cap, rfl, hg1, hg2⟩ := World.ownsRow.form O1 h0
      have HO1 : Hid (Own wr w.heap.size (.slice (some ⟨g, 0, none⟩) k cap) (big n k)) := by
        have e : bigTo n k k = big n k := rfl
        unfold Hid Own; rw [← e, HL.out]; exact O1
      have e0 : (k : Int) - 1 - k = -1 := by omega
      clear O1 HOw
      go_wp2
      go_ret
      exact ⟨g, cap, rfl, HO1.out, HB.out⟩

end Go.Proofs.YtnchndcanhmbeaaGreatDoor
