/-
  The program's text of an address, by its plain twin; nothing old in memory turns. (The library's two tables hold what its text lays in them.)
-/
import Derived.Test.YtnchndcanhmbeaaGreatDoorDJoin
import Derived.Test.YtnchndcanhmbeaaGreatDoorDGrp
import Derived.Test.YtnchndcanhmbeaaGreatDoorDSTxt
import Derived.Lib.LaidTab
namespace Go.Proofs.YtnchndcanhmbeaaGreatDoor
open Go.RowKit

/-- The library's tables as its text lays them, and the blocks of the package-level variables are there. -/
structure Tabs (w : World) : Prop where
  pow : Lib.TabIs Tryz.prog w "internal/strconv.uint64pow10" .u64 Lib.pow10Tab
  bru : w.cell? ⟨2, 15, none⟩ = some (.int .u8 4)
  big : 4 ≤ w.heap.size

theorem gpow : Tryz.prog.globalNamed "internal/strconv.uint64pow10" = some 0 := by kernel_rfl
theorem Tabs.below {w w' : World} (h : Tabs w) (hb : Below w.heap.size w w') : Tabs w' := by
  have hg := h.big
  refine ⟨var?_below hb gpow (by omega) h.pow, (hb.cell (by show 2 < _; omega)).trans h.bru, by have := hb.size; omega⟩

theorem below_grow (w : World) (k : Nat) (os : Array Obj) : Below w.heap.size w (Sort.grow (w.drewN k) os) :=
  (below_drewN (Below.refl _ w) k).trans ⟨rfl, rfl, rfl, by simp, fun i hi => Sort.heap_grow_old _ _ hi⟩

theorem itoa_decs (z : Int) (h0 : 0 ≤ z) (h1 : z < 256) : Lib.itoa z = decs z := by
  have h : ∀ n : Fin 256, Lib.itoa (n.val : Int) = decs (n.val : Int) := by decide +kernel
  have := h ⟨z.toNat, by omega⟩
  rwa [show ((z.toNat : Nat) : Int) = z from by omega] at this

theorem fmt10' (z : Int) (h0 : 0 ≤ z) (h1 : z < 256) (w : World) (ht : Tabs w) :
    Calls Tryz.prog 102 #[.int .i64 z, .int .i64 10] w fun e w' => e = .returned (.string ⟨(decs z).toArray⟩) ∧ Below w.heap.size w w' := by
  refine (Tryz.strconv_FormatInt_10 z (by omega) (by omega) w ht.pow).mono ?_
  rintro e w' ⟨rfl, k, os, rfl⟩
  exact ⟨by rw [itoa_decs z h0 h1], below_grow w k os⟩
theorem fmt16' (z : Int) (h0 : 0 ≤ z) (h1 : z < 65536) (w : World) (ht : Tabs w) :
    Calls Tryz.prog 102 #[.int .i64 z, .int .i64 16] w fun e w' => e = .returned (.string ⟨(hexs z).toArray⟩) ∧ Below w.heap.size w w' :=
  fmt16 z h0 h1 w (fun o => by
    have := ht.big
    exact (((Below.refl w.heap.size w).alloc (Nat.le_refl _) o).cell (by show 2 < _; omega)).trans ht.bru)

theorem sep46 (w : World) : (convert 21 9 (.int .i32 46)).run Tryz.prog w = .ok (.string ⟨[46].toArray⟩) w := by kernel_rfl
theorem sep58 (w : World) : (convert 21 9 (.int .i32 58)).run Tryz.prog w = .ok (.string ⟨[58].toArray⟩) w := by kernel_rfl
theorem hexs_len4 (x : Int) : (hexs x).length ≤ 4 := by unfold hexs; split; simp [l0]; split; simp [l1]; split <;> simp [l2, l3]

theorem and8i (u : Int) (h0 : 0 ≤ u) (h1 : u < 4294967296) : bits .and .i64 u 255 = u % 256 := by
  obtain ⟨n, rfl⟩ := Int.eq_ofNat_of_zero_le h0
  show IntKind.i64.wrap ((BitVec.ofInt 64 (n : Int) &&& BitVec.ofInt 64 (255 : Int)).toNat : Int) = _
  have e2 : (BitVec.ofInt 64 (255 : Int)).toNat = 2 ^ 8 - 1 := by decide
  rw [BitVec.toNat_and, ofInt_u64 n (by omega), e2, Nat.and_two_pow_sub_one_eq_mod, IntKind.wrap_i64]
  omega

set_option maxHeartbeats 2000000 in
theorem textOf32_any (S : Bool) (H L : Int) (h0 : 0 ≤ L) (h1 : L ≤ 4294967295) (w : World) (ht : Tabs w) :
    Calls Tryz.prog 94 #[.agg #[.bool S, .int .i64 H, .int .i64 L]] w fun e w' => e = .returned (.string ⟨(txt4 L).toArray⟩) ∧ Below w.heap.size w w' := by
  have HT : Hid (Tabs w) := ht
  clear ht
  go_enter Tryz.func94, Tryz.ntmps94
  go_wp2_with fail
  go_loopw [5] (fun t5 x => (t5 = .int .i64 0 ∧ x = (w.alloc (.cells #[.bool S, .int .i64 H, .int .i64 L] 31)).alloc (.cells #[.int .i64 0, .int .i64 0, .int .i64 0, .int .i64 0] 162)) ∨ (t5 = .int .i64 1 ∧ x = (w.alloc (.cells #[.bool S, .int .i64 H, .int .i64 L] 31)).alloc (.cells #[.int .i64 (L / 16777216 % 256), .int .i64 0, .int .i64 0, .int .i64 0] 162)) ∨ (t5 = .int .i64 2 ∧ x = (w.alloc (.cells #[.bool S, .int .i64 H, .int .i64 L] 31)).alloc (.cells #[.int .i64 (L / 16777216 % 256), .int .i64 (L / 65536 % 256), .int .i64 0, .int .i64 0] 162)) ∨ (t5 = .int .i64 3 ∧ x = (w.alloc (.cells #[.bool S, .int .i64 H, .int .i64 L] 31)).alloc (.cells #[.int .i64 (L / 16777216 % 256), .int .i64 (L / 65536 % 256), .int .i64 (L / 256 % 256), .int .i64 0] 162)) ∨ (t5 = .int .i64 4 ∧ x = (w.alloc (.cells #[.bool S, .int .i64 H, .int .i64 L] 31)).alloc (.cells #[.int .i64 (L / 16777216 % 256), .int .i64 (L / 65536 % 256), .int .i64 (L / 256 % 256), .int .i64 (L % 256)] 162))) (fun t5 _ => (4 - intOf t5).toNat)
  case atStart => exact Or.inl ⟨rfl, rfl⟩
  case round =>
    rcases hrel with ⟨rfl, rfl⟩ | ⟨rfl, rfl⟩ | ⟨rfl, rfl⟩ | ⟨rfl, rfl⟩ | ⟨rfl, rfl⟩
    · have nn := and8i (L / 16777216) (by omega) (by omega)
      go_wp2
      exact ⟨Or.inr (Or.inl ⟨rfl, trivial⟩), by simp [intOf]⟩
    · have nn := and8i (L / 65536) (by omega) (by omega)
      go_wp2
      exact ⟨Or.inr (Or.inr (Or.inl ⟨rfl, trivial⟩)), by simp [intOf]⟩
    · have nn := and8i (L / 256) (by omega) (by omega)
      go_wp2
      exact ⟨Or.inr (Or.inr (Or.inr (Or.inl ⟨rfl, trivial⟩))), by simp [intOf]⟩
    · have nn := and8i (L) (by omega) (by omega)
      go_wp2
      exact ⟨Or.inr (Or.inr (Or.inr (Or.inr (⟨rfl, trivial⟩)))), by simp [intOf]⟩
    · go_wp2_with fail
      have hB : Below w.heap.size w ((w.alloc (.cells #[.bool S, .int .i64 H, .int .i64 L] 31)).alloc (.cells #[.int .i64 (L / 16777216 % 256), .int .i64 (L / 65536 % 256), .int .i64 (L / 256 % 256), .int .i64 (L % 256)] 162)) := ((Below.refl _ w).alloc (Nat.le_refl _) _).alloc (by simp) _
      have ht2 := HT.out.below hB
      refine (jn4 (w.heap.size + 1) 0 4 (L / 16777216 % 256) (L / 65536 % 256) (L / 256 % 256) (L % 256) (decs (L / 16777216 % 256)) (decs (L / 65536 % 256)) (decs (L / 256 % 256)) (decs (L % 256)) 46 46 10 _ (by simp) sep46 (by simp [go_sem]) (by simp [go_sem]) (by simp [go_sem]) (by simp [go_sem]) (Nat.le_succ_of_le (decs_len _)) (Nat.le_succ_of_le (decs_len _)) (Nat.le_succ_of_le (decs_len _)) (Nat.le_succ_of_le (decs_len _)) (fun wx hb => fmt10' _ (by omega) (by omega) wx (ht2.below hb)) (fun wx hb => fmt10' _ (by omega) (by omega) wx (ht2.below hb)) (fun wx hb => fmt10' _ (by omega) (by omega) wx (ht2.below hb)) (fun wx hb => fmt10' _ (by omega) (by omega) wx (ht2.below hb))).mono ?_
      rintro e w2 ⟨rfl, hb2⟩
      go_wp2
      go_ret
      exact ⟨ret_ba (by simp [Lib.join, List.intercalate, txt4]), hB.trans (hb2.mono (by simp; omega))⟩

/-- Joining a part of the eight groups. -/
theorem jnAt (g : Nat → Int) (hg : ∀ j, 0 ≤ g j ∧ g j < 65536) (p a n c : Nat) (hn : n ≤ 6 ∨ n = 8) (han : a + n ≤ 8) (w : World) (ht : Tabs w) (hp : p < w.heap.size)
    (hc : ∀ j, j < 8 → w.cell? ⟨p, j, none⟩ = some (.int .i64 (g j))) :
    Calls Tryz.prog 99 #[.slice (some ⟨p, a, none⟩) n c, .int .i32 58, .int .i64 16] w fun e w' => e = .returned (.string ⟨(Lib.join ((List.range n).map fun j => hexs (g (a + j))) [58]).toArray⟩) ∧ Below w.heap.size w w' := by
  have : n = 0 ∨ n = 1 ∨ n = 2 ∨ n = 3 ∨ n = 4 ∨ n = 5 ∨ n = 6 ∨ n = 8 := by omega
  rcases this with rfl | rfl | rfl | rfl | rfl | rfl | rfl | rfl
  · have h := jn0 p a c   58 58 16 w  sep58   
    simpa [List.range_succ] using h
  · have h := jn1 p a c (g a) (hexs (g a)) 58 58 16 w hp sep58 (hc a (by omega)) (hexs_len4 _) (fun wx hb => fmt16' _ (hg a).1 (hg a).2 wx (ht.below hb))
    simpa [List.range_succ] using h
  · have h := jn2 p a c (g a) (g (a + 1)) (hexs (g a)) (hexs (g (a + 1))) 58 58 16 w hp sep58 (hc a (by omega)) (hc (a + 1) (by omega)) (hexs_len4 _) (hexs_len4 _) (fun wx hb => fmt16' _ (hg a).1 (hg a).2 wx (ht.below hb)) (fun wx hb => fmt16' _ (hg (a + 1)).1 (hg (a + 1)).2 wx (ht.below hb))
    simpa [List.range_succ] using h
  · have h := jn3 p a c (g a) (g (a + 1)) (g (a + 2)) (hexs (g a)) (hexs (g (a + 1))) (hexs (g (a + 2))) 58 58 16 w hp sep58 (hc a (by omega)) (hc (a + 1) (by omega)) (hc (a + 2) (by omega)) (hexs_len4 _) (hexs_len4 _) (hexs_len4 _) (fun wx hb => fmt16' _ (hg a).1 (hg a).2 wx (ht.below hb)) (fun wx hb => fmt16' _ (hg (a + 1)).1 (hg (a + 1)).2 wx (ht.below hb)) (fun wx hb => fmt16' _ (hg (a + 2)).1 (hg (a + 2)).2 wx (ht.below hb))
    simpa [List.range_succ] using h
  · have h := jn4 p a c (g a) (g (a + 1)) (g (a + 2)) (g (a + 3)) (hexs (g a)) (hexs (g (a + 1))) (hexs (g (a + 2))) (hexs (g (a + 3))) 58 58 16 w hp sep58 (hc a (by omega)) (hc (a + 1) (by omega)) (hc (a + 2) (by omega)) (hc (a + 3) (by omega)) (hexs_len4 _) (hexs_len4 _) (hexs_len4 _) (hexs_len4 _) (fun wx hb => fmt16' _ (hg a).1 (hg a).2 wx (ht.below hb)) (fun wx hb => fmt16' _ (hg (a + 1)).1 (hg (a + 1)).2 wx (ht.below hb)) (fun wx hb => fmt16' _ (hg (a + 2)).1 (hg (a + 2)).2 wx (ht.below hb)) (fun wx hb => fmt16' _ (hg (a + 3)).1 (hg (a + 3)).2 wx (ht.below hb))
    simpa [List.range_succ] using h
  · have h := jn5 p a c (g a) (g (a + 1)) (g (a + 2)) (g (a + 3)) (g (a + 4)) (hexs (g a)) (hexs (g (a + 1))) (hexs (g (a + 2))) (hexs (g (a + 3))) (hexs (g (a + 4))) 58 58 16 w hp sep58 (hc a (by omega)) (hc (a + 1) (by omega)) (hc (a + 2) (by omega)) (hc (a + 3) (by omega)) (hc (a + 4) (by omega)) (hexs_len4 _) (hexs_len4 _) (hexs_len4 _) (hexs_len4 _) (hexs_len4 _) (fun wx hb => fmt16' _ (hg a).1 (hg a).2 wx (ht.below hb)) (fun wx hb => fmt16' _ (hg (a + 1)).1 (hg (a + 1)).2 wx (ht.below hb)) (fun wx hb => fmt16' _ (hg (a + 2)).1 (hg (a + 2)).2 wx (ht.below hb)) (fun wx hb => fmt16' _ (hg (a + 3)).1 (hg (a + 3)).2 wx (ht.below hb)) (fun wx hb => fmt16' _ (hg (a + 4)).1 (hg (a + 4)).2 wx (ht.below hb))
    simpa [List.range_succ] using h
  · have h := jn6 p a c (g a) (g (a + 1)) (g (a + 2)) (g (a + 3)) (g (a + 4)) (g (a + 5)) (hexs (g a)) (hexs (g (a + 1))) (hexs (g (a + 2))) (hexs (g (a + 3))) (hexs (g (a + 4))) (hexs (g (a + 5))) 58 58 16 w hp sep58 (hc a (by omega)) (hc (a + 1) (by omega)) (hc (a + 2) (by omega)) (hc (a + 3) (by omega)) (hc (a + 4) (by omega)) (hc (a + 5) (by omega)) (hexs_len4 _) (hexs_len4 _) (hexs_len4 _) (hexs_len4 _) (hexs_len4 _) (hexs_len4 _) (fun wx hb => fmt16' _ (hg a).1 (hg a).2 wx (ht.below hb)) (fun wx hb => fmt16' _ (hg (a + 1)).1 (hg (a + 1)).2 wx (ht.below hb)) (fun wx hb => fmt16' _ (hg (a + 2)).1 (hg (a + 2)).2 wx (ht.below hb)) (fun wx hb => fmt16' _ (hg (a + 3)).1 (hg (a + 3)).2 wx (ht.below hb)) (fun wx hb => fmt16' _ (hg (a + 4)).1 (hg (a + 4)).2 wx (ht.below hb)) (fun wx hb => fmt16' _ (hg (a + 5)).1 (hg (a + 5)).2 wx (ht.below hb))
    simpa [List.range_succ] using h
  · have h := jn8 p a c (g a) (g (a + 1)) (g (a + 2)) (g (a + 3)) (g (a + 4)) (g (a + 5)) (g (a + 6)) (g (a + 7)) (hexs (g a)) (hexs (g (a + 1))) (hexs (g (a + 2))) (hexs (g (a + 3))) (hexs (g (a + 4))) (hexs (g (a + 5))) (hexs (g (a + 6))) (hexs (g (a + 7))) 58 58 16 w hp sep58 (hc a (by omega)) (hc (a + 1) (by omega)) (hc (a + 2) (by omega)) (hc (a + 3) (by omega)) (hc (a + 4) (by omega)) (hc (a + 5) (by omega)) (hc (a + 6) (by omega)) (hc (a + 7) (by omega)) (hexs_len4 _) (hexs_len4 _) (hexs_len4 _) (hexs_len4 _) (hexs_len4 _) (hexs_len4 _) (hexs_len4 _) (hexs_len4 _) (fun wx hb => fmt16' _ (hg a).1 (hg a).2 wx (ht.below hb)) (fun wx hb => fmt16' _ (hg (a + 1)).1 (hg (a + 1)).2 wx (ht.below hb)) (fun wx hb => fmt16' _ (hg (a + 2)).1 (hg (a + 2)).2 wx (ht.below hb)) (fun wx hb => fmt16' _ (hg (a + 3)).1 (hg (a + 3)).2 wx (ht.below hb)) (fun wx hb => fmt16' _ (hg (a + 4)).1 (hg (a + 4)).2 wx (ht.below hb)) (fun wx hb => fmt16' _ (hg (a + 5)).1 (hg (a + 5)).2 wx (ht.below hb)) (fun wx hb => fmt16' _ (hg (a + 6)).1 (hg (a + 6)).2 wx (ht.below hb)) (fun wx hb => fmt16' _ (hg (a + 7)).1 (hg (a + 7)).2 wx (ht.below hb))
    simpa [List.range_succ] using h

theorem slH_0 (b : Nat) (w : World) : (Instr.sliceAt 157 (.pointer (some ⟨b, 0, none⟩)) none (some (.int .i64 0)) none).run Tryz.prog w = .ok (.slice (some ⟨b, 0, none⟩) 0 8) w := by kernel_rfl
theorem slL_0 (b : Nat) (w : World) : (Instr.sliceAt 157 (.pointer (some ⟨b, 0, none⟩)) (some (.int .i64 0)) none none).run Tryz.prog w = .ok (.slice (some ⟨b, 0, none⟩) 8 8) w := by kernel_rfl
theorem slH_1 (b : Nat) (w : World) : (Instr.sliceAt 157 (.pointer (some ⟨b, 0, none⟩)) none (some (.int .i64 1)) none).run Tryz.prog w = .ok (.slice (some ⟨b, 0, none⟩) 1 8) w := by kernel_rfl
theorem slL_1 (b : Nat) (w : World) : (Instr.sliceAt 157 (.pointer (some ⟨b, 0, none⟩)) (some (.int .i64 1)) none none).run Tryz.prog w = .ok (.slice (some ⟨b, 1, none⟩) 7 7) w := by kernel_rfl
theorem slH_2 (b : Nat) (w : World) : (Instr.sliceAt 157 (.pointer (some ⟨b, 0, none⟩)) none (some (.int .i64 2)) none).run Tryz.prog w = .ok (.slice (some ⟨b, 0, none⟩) 2 8) w := by kernel_rfl
theorem slL_2 (b : Nat) (w : World) : (Instr.sliceAt 157 (.pointer (some ⟨b, 0, none⟩)) (some (.int .i64 2)) none none).run Tryz.prog w = .ok (.slice (some ⟨b, 2, none⟩) 6 6) w := by kernel_rfl
theorem slH_3 (b : Nat) (w : World) : (Instr.sliceAt 157 (.pointer (some ⟨b, 0, none⟩)) none (some (.int .i64 3)) none).run Tryz.prog w = .ok (.slice (some ⟨b, 0, none⟩) 3 8) w := by kernel_rfl
theorem slL_3 (b : Nat) (w : World) : (Instr.sliceAt 157 (.pointer (some ⟨b, 0, none⟩)) (some (.int .i64 3)) none none).run Tryz.prog w = .ok (.slice (some ⟨b, 3, none⟩) 5 5) w := by kernel_rfl
theorem slH_4 (b : Nat) (w : World) : (Instr.sliceAt 157 (.pointer (some ⟨b, 0, none⟩)) none (some (.int .i64 4)) none).run Tryz.prog w = .ok (.slice (some ⟨b, 0, none⟩) 4 8) w := by kernel_rfl
theorem slL_4 (b : Nat) (w : World) : (Instr.sliceAt 157 (.pointer (some ⟨b, 0, none⟩)) (some (.int .i64 4)) none none).run Tryz.prog w = .ok (.slice (some ⟨b, 4, none⟩) 4 4) w := by kernel_rfl
theorem slH_5 (b : Nat) (w : World) : (Instr.sliceAt 157 (.pointer (some ⟨b, 0, none⟩)) none (some (.int .i64 5)) none).run Tryz.prog w = .ok (.slice (some ⟨b, 0, none⟩) 5 8) w := by kernel_rfl
theorem slL_5 (b : Nat) (w : World) : (Instr.sliceAt 157 (.pointer (some ⟨b, 0, none⟩)) (some (.int .i64 5)) none none).run Tryz.prog w = .ok (.slice (some ⟨b, 5, none⟩) 3 3) w := by kernel_rfl
theorem slH_6 (b : Nat) (w : World) : (Instr.sliceAt 157 (.pointer (some ⟨b, 0, none⟩)) none (some (.int .i64 6)) none).run Tryz.prog w = .ok (.slice (some ⟨b, 0, none⟩) 6 8) w := by kernel_rfl
theorem slL_6 (b : Nat) (w : World) : (Instr.sliceAt 157 (.pointer (some ⟨b, 0, none⟩)) (some (.int .i64 6)) none none).run Tryz.prog w = .ok (.slice (some ⟨b, 6, none⟩) 2 2) w := by kernel_rfl
theorem slH_7 (b : Nat) (w : World) : (Instr.sliceAt 157 (.pointer (some ⟨b, 0, none⟩)) none (some (.int .i64 7)) none).run Tryz.prog w = .ok (.slice (some ⟨b, 0, none⟩) 7 8) w := by kernel_rfl
theorem slL_7 (b : Nat) (w : World) : (Instr.sliceAt 157 (.pointer (some ⟨b, 0, none⟩)) (some (.int .i64 7)) none none).run Tryz.prog w = .ok (.slice (some ⟨b, 7, none⟩) 1 1) w := by kernel_rfl
theorem slH_8 (b : Nat) (w : World) : (Instr.sliceAt 157 (.pointer (some ⟨b, 0, none⟩)) none (some (.int .i64 8)) none).run Tryz.prog w = .ok (.slice (some ⟨b, 0, none⟩) 8 8) w := by kernel_rfl
theorem slL_8 (b : Nat) (w : World) : (Instr.sliceAt 157 (.pointer (some ⟨b, 0, none⟩)) (some (.int .i64 8)) none none).run Tryz.prog w = .ok (.slice (some ⟨b, 0, none⟩) 0 0) w := by kernel_rfl

theorem slH (b k : Nat) (hk : k ≤ 8) (w : World) : (Instr.sliceAt 157 (.pointer (some ⟨b, 0, none⟩)) none (some (.int .i64 k)) none).run Tryz.prog w = .ok (.slice (some ⟨b, 0, none⟩) k 8) w := by
  have : k = 0 ∨ k = 1 ∨ k = 2 ∨ k = 3 ∨ k = 4 ∨ k = 5 ∨ k = 6 ∨ k = 7 ∨ k = 8 := by omega
  rcases this with rfl | rfl | rfl | rfl | rfl | rfl | rfl | rfl | rfl
  · exact slH_0 b w
  · exact slH_1 b w
  · exact slH_2 b w
  · exact slH_3 b w
  · exact slH_4 b w
  · exact slH_5 b w
  · exact slH_6 b w
  · exact slH_7 b w
  · exact slH_8 b w

/-- Where the rest of eight cells begins: an empty rest stays at the beginning. -/
def offL (k : Nat) : Nat := if k = 8 then 0 else k
theorem slL (b k : Nat) (hk : k ≤ 8) (w : World) : (Instr.sliceAt 157 (.pointer (some ⟨b, 0, none⟩)) (some (.int .i64 k)) none none).run Tryz.prog w = .ok (.slice (some ⟨b, offL k, none⟩) (8 - k) (8 - k)) w := by
  have : k = 0 ∨ k = 1 ∨ k = 2 ∨ k = 3 ∨ k = 4 ∨ k = 5 ∨ k = 6 ∨ k = 7 ∨ k = 8 := by omega
  rcases this with rfl | rfl | rfl | rfl | rfl | rfl | rfl | rfl | rfl
  · exact slL_0 b w
  · exact slL_1 b w
  · exact slL_2 b w
  · exact slL_3 b w
  · exact slL_4 b w
  · exact slL_5 b w
  · exact slL_6 b w
  · exact slL_7 b w
  · exact slL_8 b w

theorem jnL (g : Nat → Int) (hg : ∀ j, 0 ≤ g j ∧ g j < 65536) (p t : Nat) (h2 : 2 ≤ t) (h8 : t ≤ 8) (w : World) (ht : Tabs w) (hp : p < w.heap.size)
    (hc : ∀ j, j < 8 → w.cell? ⟨p, j, none⟩ = some (.int .i64 (g j))) :
    Calls Tryz.prog 99 #[.slice (some ⟨p, offL t, none⟩) (8 - t) (8 - t), .int .i32 58, .int .i64 16] w fun e w' => e = .returned (.string ⟨(Lib.join ((List.range (8 - t)).map fun j => hexs (g (t + j))) [58]).toArray⟩) ∧ Below w.heap.size w w' := by
  by_cases h : t = 8
  · subst h
    exact jn0 p 0 0 58 58 16 w sep58
  · have : offL t = t := if_neg h
    rw [this]
    exact jnAt g hg p t (8 - t) (8 - t) (by omega) (by omega) w ht hp hc
/-- The program's text of eight groups. -/
def txt8 (g : Nat → Int) : List UInt8 :=
  if (lrow g 8).2.1 - (lrow g 8).1 < 2 then Lib.join ((List.range 8).map fun j => hexs (g (0 + j))) [58]
  else Lib.join ((List.range (lrow g 8).1).map fun j => hexs (g (0 + j))) [58] ++ [58, 58] ++ Lib.join ((List.range (8 - (lrow g 8).2.1)).map fun j => hexs (g ((lrow g 8).2.1 + j))) [58]

theorem join_len (g : Nat → Int) (a n : Nat) (hn : n ≤ 8) : (Lib.join ((List.range n).map fun j => hexs (g (a + j))) [58]).length ≤ 48 := by
  have hh : ∀ j, (hexs (g (a + j))).length ≤ 4 := fun j => hexs_len4 _
  have : n = 0 ∨ n = 1 ∨ n = 2 ∨ n = 3 ∨ n = 4 ∨ n = 5 ∨ n = 6 ∨ n = 7 ∨ n = 8 := by omega
  have h0 := hh 0; have h1 := hh 1; have h2 := hh 2; have h3 := hh 3; have h4 := hh 4; have h5 := hh 5; have h6 := hh 6; have h7 := hh 7
  rcases this with rfl | rfl | rfl | rfl | rfl | rfl | rfl | rfl | rfl <;> simp [Lib.join, List.intercalate, List.range_succ] <;> simp only [Nat.add_zero] at h0 <;> omega

set_option maxHeartbeats 2000000 in
theorem textOf128_any (g : Nat → Int) (hg : ∀ j, 0 ≤ g j ∧ g j < 65536) (w : World) (ht : Tabs w) :
    Calls Tryz.prog 92 #[.agg #[.int .i64 (g 0), .int .i64 (g 1), .int .i64 (g 2), .int .i64 (g 3), .int .i64 (g 4), .int .i64 (g 5), .int .i64 (g 6), .int .i64 (g 7)]] w fun e w' => e = .returned (.string ⟨(txt8 g).toArray⟩) ∧ Below w.heap.size w w' := by
  have HT : Hid (Tabs w) := ht
  have HG : Hid (∀ j, 0 ≤ g j ∧ g j < 65536) := hg
  clear ht hg
  have bd := lrow_bd g 8
  obtain ⟨f, hf⟩ : ∃ f, f = (lrow g 8).1 := ⟨_, rfl⟩
  obtain ⟨t, htt⟩ : ∃ t, t = (lrow g 8).2.1 := ⟨_, rfl⟩
  have HX : Hid (txt8 g = if t - f < 2 then Lib.join ((List.range 8).map fun j => hexs (g (0 + j))) [58] else Lib.join ((List.range f).map fun j => hexs (g (0 + j))) [58] ++ [58, 58] ++ Lib.join ((List.range (8 - t)).map fun j => hexs (g (t + j))) [58]) := by
    show txt8 g = _
    rw [hf, htt]; rfl
  have HL := longest_any g
  rw [← hf, ← htt] at bd HL
  have HL2 : Hid (∀ w : World, Calls Tryz.prog 98 #[.agg #[.int .i64 (g 0), .int .i64 (g 1), .int .i64 (g 2), .int .i64 (g 3), .int .i64 (g 4), .int .i64 (g 5), .int .i64 (g 6), .int .i64 (g 7)]] w fun e w' => e = .returned (.tuple #[.int .i64 (f : Nat), .int .i64 (t : Nat)]) ∧ Below w.heap.size w w') := HL
  clear hf htt HL
  go_enter Tryz.func92, Tryz.ntmps92
  go_wp2_with fail
  refine (HL2.out _).mono ?_
  rintro e w1 ⟨rfl, hb⟩
  have hB : Below w.heap.size w w1 := ((Below.refl _ w).alloc (Nat.le_refl _) _).trans (hb.mono (by simp))
  have hz : w.heap.size < w1.heap.size := by have := hb.size; simp at this; omega
  have hc : Hid (∀ j, j < 8 → w1.cell? ⟨w.heap.size, j, none⟩ = some (.int .i64 (g j))) := fun j hj => by
      rw [hb.cell (by simp)]
      have : j = 0 ∨ j = 1 ∨ j = 2 ∨ j = 3 ∨ j = 4 ∨ j = 5 ∨ j = 6 ∨ j = 7 := by omega
      rcases this with rfl | rfl | rfl | rfl | rfl | rfl | rfl | rfl <;> simp [go_sem]
  have ht1 : Hid (Tabs w1) := HT.out.below hB
  clear hb
  by_cases h2 : t - f < 2
  · have h2' : (t : Int) - (f : Int) < 2 := by omega
    go_wp2_with fail
    refine (jnAt g HG.out w.heap.size 0 8 8 (by omega) (by omega) _ ht1.out hz hc.out).mono ?_
    rintro e w2 ⟨rfl, hb2⟩
    go_wp2
    go_ret
    exact ⟨ret_ba (congrArg (fun l : List UInt8 => (⟨l.toArray⟩ : ByteArray)) (HX.out.trans (if_pos h2)).symm), hB.trans (hb2.mono (by omega))⟩
  · have h2' : ¬ (t : Int) - (f : Int) < 2 := by omega
    have s1 := slH w.heap.size f (by omega)
    have s2 := slL w.heap.size t (by omega)
    go_wp2_with fail
    refine (jnAt g HG.out w.heap.size 0 f 8 (by omega) (by omega) _ ht1.out hz hc.out).mono ?_
    have la := join_len g 0 f (by omega)
    have lb := join_len g t (8 - t) (by omega)
    obtain ⟨A, hA⟩ : ∃ A, A = Lib.join ((List.range f).map fun j => hexs (g (0 + j))) [58] := ⟨_, rfl⟩
    obtain ⟨B, hBB⟩ : ∃ B, B = Lib.join ((List.range (8 - t)).map fun j => hexs (g (t + j))) [58] := ⟨_, rfl⟩
    rw [← hA] at la ⊢
    rw [← hBB] at lb
    have HA : Hid (A = Lib.join ((List.range f).map fun j => hexs (g (0 + j))) [58]) := hA
    have HBB : Hid (B = Lib.join ((List.range (8 - t)).map fun j => hexs (g (t + j))) [58]) := hBB
    clear hA hBB
    rintro e w2 ⟨rfl, hb2⟩
    have hz2 : w.heap.size < w2.heap.size := by have := hb2.size; omega
    have hB2 : Below w.heap.size w w2 := hB.trans (hb2.mono (by omega))
    have hc2 : Hid (∀ j, j < 8 → w2.cell? ⟨w.heap.size, j, none⟩ = some (.int .i64 (g j))) := fun j hj => (hb2.cell hz).trans (hc.out j hj)
    have ht2 : Hid (Tabs w2) := ht1.out.below hb2
    clear hb2
    go_wp2_with fail
    refine (jnL g HG.out w.heap.size t (by omega) (by omega) _ ht2.out hz2 hc2.out).mono ?_
    rw [← HBB.out]
    rintro e w3 ⟨rfl, hb3⟩
    go_wp2
    go_ret
    exact ⟨ret_ba (by rw [HX.out, if_neg h2, ← HA.out, ← HBB.out]; exact ba3 A [58, 58] B), hB2.trans (hb3.mono (by omega))⟩

set_option maxHeartbeats 1000000 in
theorem iText_four (s : Bool) (h l H L : Int) (hz : Nrm s h l false H L) (h0 : 0 ≤ L) (h1 : L ≤ 4294967295) (w : World) (ht : Tabs w) :
    Calls Tryz.prog 87 #[.agg #[.bool s, .int .i64 h, .int .i64 l]] w fun e w' => e = .returned (.string ⟨(txt4 L).toArray⟩) ∧ Below w.heap.size w w' := by
  have HT : Hid (Tabs w) := ht
  clear ht
  go_enter Tryz.func87, Tryz.ntmps87
  go_wp2_with fail
  refine (addrOrZero_any _ _ _ _ _ _ hz _).mono ?_
  rintro e w1 ⟨rfl, hb⟩
  obtain ⟨hc, hf⟩ := olds (n := w.heap.size + 1) (hb.mono (by simp))
  have hz0 : w.heap.size < w1.heap.size := by have := hb.size; simp at this; omega
  have b1 : Below w.heap.size w w1 := ((Below.refl _ w).alloc (Nat.le_refl _) _).trans (hb.mono (by simp))
  have b2 := ((b1.setCell (p := ⟨w.heap.size, 0, none⟩) (by simp) (.bool false)).setCell (p := ⟨w.heap.size, 1, none⟩) (by simp) (.int .i64 H)).setCell (p := ⟨w.heap.size, 2, none⟩) (by simp) (.int .i64 L)
  go_wp2_with fail
  refine (textOf32_any false H L h0 h1 _ (HT.out.below b2)).mono ?_
  rintro e w2 ⟨rfl, hb2⟩
  go_wp2
  go_ret
  exact ⟨rfl, b2.trans (hb2.mono (by simp; omega))⟩

set_option maxHeartbeats 1000000 in
theorem iText_six (s : Bool) (h l H L : Int) (hz : Nrm s h l true H L) (w : World) (ht : Tabs w) :
    Calls Tryz.prog 87 #[.agg #[.bool s, .int .i64 h, .int .i64 l]] w fun e w' => e = .returned (.string ⟨(txt8 (grp H L)).toArray⟩) ∧ Below w.heap.size w w' := by
  have HT : Hid (Tabs w) := ht
  clear ht
  go_enter Tryz.func87, Tryz.ntmps87
  go_wp2_with fail
  refine (addrOrZero_any _ _ _ _ _ _ hz _).mono ?_
  rintro e w1 ⟨rfl, hb⟩
  obtain ⟨hc, hf⟩ := olds (n := w.heap.size + 1) (hb.mono (by simp))
  have hz0 : w.heap.size < w1.heap.size := by have := hb.size; simp at this; omega
  have b1 : Below w.heap.size w w1 := ((Below.refl _ w).alloc (Nat.le_refl _) _).trans (hb.mono (by simp))
  have b2 := ((b1.setCell (p := ⟨w.heap.size, 0, none⟩) (by simp) (.bool true)).setCell (p := ⟨w.heap.size, 1, none⟩) (by simp) (.int .i64 H)).setCell (p := ⟨w.heap.size, 2, none⟩) (by simp) (.int .i64 L)
  go_wp2_with fail
  refine (groups_any true H L _).mono ?_
  rintro e w2 ⟨rfl, hb2⟩
  have b3 := b2.trans (hb2.mono (by simp; omega))
  go_wp2_with fail
  refine (textOf128_any (grp H L) (grp_bd H L) _ (HT.out.below b3)).mono ?_
  rintro e w3 ⟨rfl, hb3⟩
  go_wp2
  go_ret
  exact ⟨rfl, b3.trans (hb3.mono b3.size)⟩

end Go.Proofs.YtnchndcanhmbeaaGreatDoor
