/-
  slices.Delete of one lease.
-/
import Derived.Test.YtddnofonodgneaaGreatDoorX6Del
namespace Go.Proofs.YtddnofonodgneaaGreatDoor
open Go.RowKit

theorem Tryz.zeroLs (w : World) : (zeroValue 35).run Tryz.prog w = .ok (.agg #[.bool false, .int .i64 0, .int .i64 0, .string ⟨#[]⟩, .int .i64 0, .int .i64 0]) w := by
  obtain ⟨i0, hi, hz0, hz1, hz2⟩ := info_parts Tryz.tyLs.2.1
  simp [zeroValue, typeInfo, hi, hz0]
theorem erase_eq (ps : List Ls) (i : Nat) : ps.take i ++ ps.drop (i + 1) = ps.eraseIdx i := (List.eraseIdx_eq_take_drop_succ ps i).symm

set_option maxRecDepth 10000 in
set_option maxHeartbeats 1000000 in
theorem delete_any (g n cap B : Nat) (i : Nat) (ps : List Ls) (w : World) (hn : n = ps.length) (hi : i < n) (hl : n ≤ 1048576) (h : OwnG KLs 35 w B (.slice (some ⟨g, 0, none⟩) n cap) ps) :
    Calls Tryz.prog 37 #[.slice (some ⟨g, 0, none⟩) n cap, .int .i64 i, .int .i64 ((i : Int) + 1)] w fun e w' => e = .returned (.slice (some ⟨g, 0, none⟩) (n - 1) cap) ∧ OwnG KLs 35 w' B (.slice (some ⟨g, 0, none⟩) (n - 1) cap) (ps.eraseIdx i) ∧ w.grownBy w' (some g) := by
  have hcap := h.caps
  have hnc : n ≤ cap := by omega
  have hc9 : cap ≤ 9223372036854775807 := hcap.2.2.1
  have HO := hidP h
  have HN := hidP hn
  have hin : ((i : Int) == (i : Int) + 1) = false := by rw [beq_eq_false_iff_ne]; omega
  clear h hn hcap
  go_enter Tryz.func37, Tryz.ntmps37
  go_wp2_with fail
  have HOd := hidP (OwnG.later HO.out (Below.refl _ w).drew)
  have hl1 : (ps.take i).length = i := by rw [List.length_take]; have := HN.out; omega
  have hl2 : (ps.drop (i + 1)).length = n - (i + 1) := by rw [List.length_drop, HN.out]
  have HL := hidP (And.intro hl1 hl2)
  clear hl1 hl2
  have b1 : (i : Int) ≤ (cap : Int) := by omega
  have b2 : (i : Int) ≤ (i : Int) + 1 := by omega
  have b3 : (0 : Int) ≤ (i : Int) + 1 := by omega
  have b4 : (i : Int) + 1 ≤ (n : Int) := by omega
  by_cases hcj : cap = i + 1
  · have hn2 : n = i + 1 := by omega
    subst hn2
    subst hcj
    refine wp_region_held_drew (S := fun _ => True) (by kernel_rfl) trivial (fun hHeld => ?_)
    refine wpAnyH_take (i := 0) (oi := ⟨some 20, _, _, _, _, _⟩) (v := ?_) rfl (by kernel_rfl) (by kernel_rfl) (by kernel_rfl) (fun _ _ _ h => h) (Or.inl ⟨by rfl, ?_⟩) (by assumption) ?_
    rotate_left
    · intro w hSw
      try dsimp only at hSw
      go_simp
      try with_reducible rfl
    simp only [Act.put, List.setIfInBounds_toArray, List.set_cons_zero, List.set_cons_succ]
    refine wpAnyH_take (i := 1) (oi := ⟨some 21, _, _, _, _, _⟩) (v := ?_) rfl (by kernel_rfl) (by kernel_rfl) (by kernel_rfl) (fun _ _ _ h => h) (Or.inl ⟨by rfl, ?_⟩) (by assumption) ?_
    rotate_left
    · intro w hSw
      try dsimp only at hSw
      go_simp
      try with_reducible rfl
    simp only [Act.put, List.setIfInBounds_toArray, List.set_cons_zero, List.set_cons_succ]
    refine wpAnyH_take (i := 2) (oi := ⟨some 22, _, _, _, _, _⟩) (v := ?_) rfl (by kernel_rfl) (by kernel_rfl) (by kernel_rfl) (fun _ _ _ h => h) (Or.inl ⟨by rfl, ?_⟩) (by assumption) ?_
    rotate_left
    · intro w hSw
      try dsimp only at hSw
      go_simp
      try with_reducible rfl
    simp only [Act.put, List.setIfInBounds_toArray, List.set_cons_zero, List.set_cons_succ]
    refine wpAnyH_take (i := 3) (oi := ⟨some 23, _, _, _, _, _⟩) (v := ?_) rfl (by kernel_rfl) (by kernel_rfl) (by kernel_rfl) (fun _ _ _ h => h) (Or.inl ⟨by rfl, ?_⟩) (by assumption) ?_
    rotate_left
    · intro w hSw
      try dsimp only at hSw
      go_simp
      try with_reducible rfl
    simp only [Act.put, List.setIfInBounds_toArray, List.set_cons_zero, List.set_cons_succ]
    refine wpAnyH_take (i := 4) (oi := ⟨some 24, _, _, _, _, _⟩) (v := ?_) rfl (by kernel_rfl) (by kernel_rfl) (by kernel_rfl) (fun _ _ _ h => h) (Or.inl ⟨by rfl, ?_⟩) (by assumption) ?_
    rotate_left
    · intro w hSw
      try dsimp only at hSw
      go_simp
      try with_reducible rfl
    simp only [Act.put, List.setIfInBounds_toArray, List.set_cons_zero, List.set_cons_succ]
    refine wpAnyH_take (i := 5) (oi := ⟨some 25, _, _, _, _, _⟩) (v := ?_) rfl (by kernel_rfl) (by kernel_rfl) (by kernel_rfl) (fun _ _ _ h => h) (Or.inl ⟨by rfl, ?_⟩) (by assumption) ?_
    rotate_left
    · intro w hSw
      try dsimp only at hSw
      go_simp
      try with_reducible rfl
    simp only [Act.put, List.setIfInBounds_toArray, List.set_cons_zero, List.set_cons_succ]
    refine wpAnyH_ready (rs := [6]) (by kernel_rfl) (by simp) ?_
    refine AllReadyH.cons rfl (fun K hK => ?_) AllReadyH.nil
    refine step_roomG Tryz.tyLs _ rfl (.tmp 22) (.tmp 25) 24 rfl B g i (i + 1) (i + 1 - (i + 1)) (ps.take i) (ps.drop (i + 1)) (.slice (some ⟨g, 0, none⟩) (i + 1 - (i + 1)) 0) (by rfl) HL.out.1.symm HL.out.2.symm (OwnG.cut HOd.out i (by omega)) (by rw [Nat.sub_self]; rfl) (src_rowG Tryz.tyLs.1 _ _ (by show 0 < 6; omega) HL.out.2.symm (fun j hj => by rw [HL.out.2] at hj; omega) (fun h => by cases h)) (by omega) ?_
    intro w6 ho6 hg6 hs6
    refine hK.out _ _ trivial (fun hHeld => ?_)
    clear hK K
    refine wpAnyH_take (i := 7) (oi := ⟨some 0, _, _, _, _, _⟩) (v := ?_) rfl (by kernel_rfl) (by kernel_rfl) (by kernel_rfl) (fun _ _ _ h => h) (Or.inl ⟨by rfl, ?_⟩) (by assumption) ?_
    rotate_left
    · intro w hSw
      try dsimp only at hSw
      go_simp
      try with_reducible rfl
    simp only [Act.put, List.setIfInBounds_toArray]
    refine wpAnyH_done (by kernel_rfl) ?_ _
    clear hHeld
    rw [erase_eq] at ho6
    rw [Nat.sub_self, Nat.add_zero] at ho6
    have HM := hidP (And.intro (Eq.refl i) (Eq.refl (i + 1)))
    have hMc : (i + 1) ≠ i := by omega
    have hMc2 : ¬ (i + 1) = i := by omega
    have e1 : (i : Int) ≤ ((i + 1) : Int) := by omega
    have e2 : ((i + 1) : Int) ≤ (((i + 1) : Nat) : Int) := by omega
    have e3 : (0 : Int) ≤ (i : Int) := by omega
    have HO6 := hidP (And.intro ho6 hg6)
    have HZ := hidP (fun (w : World) => Tryz.zeroLs w)
    have HCI := hidP (fun j (hj : j < 6) => OwnG.cellIn ho6 (i * 6 + j) (show i * 6 + j < (i + 1) * 6 by omega))
    have HFI := hidP (fun j => OwnG.frozen ho6 (i * 6 + j))
    clear ho6 hg6 hs6
    have hclr : (Builtin.clear_ #[24] 0 #[.slice (some ⟨g, i * 6, none⟩) 1 1]).run Tryz.prog w6 = .ok (.tuple #[]) (puts w6 g (i * 6) [.bool false, .int .i64 0, .int .i64 0, .string ⟨#[]⟩, .int .i64 0, .int .i64 0]) := run_clear1 w6 _ _ _ _ Tryz.tyLs.1 HZ.out (fun v hv => by simp [Value.cells] at hv; rcases hv with rfl | rfl | rfl | rfl <;> rfl) g (i * 6) _ (fun j hj => HCI.out j hj) (fun j _ => HFI.out j)
    go_wp2_with fail
    go_ret
    refine ⟨rfl, ?_, ?_⟩
    · have hlen : (ps.eraseIdx i).length = i := by rw [List.length_eraseIdx]; have := HN.out; have := HM.out; rw [if_pos (by omega)]; omega
      have hp := puts_own [.bool false, .int .i64 0, .int .i64 0, .string ⟨#[]⟩, .int .i64 0, .int .i64 0] w6 _ (i * 6) (show w6.ownsRow B 35 6 (.slice (some ⟨g, 0, none⟩) i (i + 1)) i (gflat KLs (ps.eraseIdx i)) from by have := HO6.out.1; unfold OwnG at this; rw [hlen] at this; exact this)
      rw [sets_past _ _ _ (by rw [gflat_len, hlen]; exact Nat.le_refl _)] at hp
      unfold OwnG
      rw [hlen]
      exact hp
    · exact puts_grown _ _ _ ((grown_of' (Below.refl _ w).drew (some g)).trans HO6.out.2)
  · refine wp_region_held_drew (S := fun _ => True) (by kernel_rfl) trivial (fun hHeld => ?_)
    refine wpAnyH_take (i := 0) (oi := ⟨some 20, _, _, _, _, _⟩) (v := ?_) rfl (by kernel_rfl) (by kernel_rfl) (by kernel_rfl) (fun _ _ _ h => h) (Or.inl ⟨by rfl, ?_⟩) (by assumption) ?_
    rotate_left
    · intro w hSw
      try dsimp only at hSw
      go_simp
      try with_reducible rfl
    simp only [Act.put, List.setIfInBounds_toArray, List.set_cons_zero, List.set_cons_succ]
    refine wpAnyH_take (i := 1) (oi := ⟨some 21, _, _, _, _, _⟩) (v := ?_) rfl (by kernel_rfl) (by kernel_rfl) (by kernel_rfl) (fun _ _ _ h => h) (Or.inl ⟨by rfl, ?_⟩) (by assumption) ?_
    rotate_left
    · intro w hSw
      try dsimp only at hSw
      go_simp
      try with_reducible rfl
    simp only [Act.put, List.setIfInBounds_toArray, List.set_cons_zero, List.set_cons_succ]
    refine wpAnyH_take (i := 2) (oi := ⟨some 22, _, _, _, _, _⟩) (v := ?_) rfl (by kernel_rfl) (by kernel_rfl) (by kernel_rfl) (fun _ _ _ h => h) (Or.inl ⟨by rfl, ?_⟩) (by assumption) ?_
    rotate_left
    · intro w hSw
      try dsimp only at hSw
      go_simp
      try with_reducible rfl
    simp only [Act.put, List.setIfInBounds_toArray, List.set_cons_zero, List.set_cons_succ]
    refine wpAnyH_take (i := 3) (oi := ⟨some 23, _, _, _, _, _⟩) (v := ?_) rfl (by kernel_rfl) (by kernel_rfl) (by kernel_rfl) (fun _ _ _ h => h) (Or.inl ⟨by rfl, ?_⟩) (by assumption) ?_
    rotate_left
    · intro w hSw
      try dsimp only at hSw
      go_simp
      try with_reducible rfl
    simp only [Act.put, List.setIfInBounds_toArray, List.set_cons_zero, List.set_cons_succ]
    refine wpAnyH_take (i := 4) (oi := ⟨some 24, _, _, _, _, _⟩) (v := ?_) rfl (by kernel_rfl) (by kernel_rfl) (by kernel_rfl) (fun _ _ _ h => h) (Or.inl ⟨by rfl, ?_⟩) (by assumption) ?_
    rotate_left
    · intro w hSw
      try dsimp only at hSw
      go_simp
      try with_reducible rfl
    simp only [Act.put, List.setIfInBounds_toArray, List.set_cons_zero, List.set_cons_succ]
    refine wpAnyH_take (i := 5) (oi := ⟨some 25, _, _, _, _, _⟩) (v := ?_) rfl (by kernel_rfl) (by kernel_rfl) (by kernel_rfl) (fun _ _ _ h => h) (Or.inl ⟨by rfl, ?_⟩) (by assumption) ?_
    rotate_left
    · intro w hSw
      try dsimp only at hSw
      go_simp
      try with_reducible rfl
    simp only [Act.put, List.setIfInBounds_toArray, List.set_cons_zero, List.set_cons_succ]
    refine wpAnyH_ready (rs := [6]) (by kernel_rfl) (by simp) ?_
    refine AllReadyH.cons rfl (fun K hK => ?_) AllReadyH.nil
    refine step_roomG Tryz.tyLs _ rfl (.tmp 22) (.tmp 25) 24 rfl B g i cap (n - (i + 1)) (ps.take i) (ps.drop (i + 1)) (.slice (some ⟨g, (i + 1) * 6, none⟩) (n - (i + 1)) (cap - (i + 1))) (by rfl) HL.out.1.symm HL.out.2.symm (OwnG.cut HOd.out i (by omega)) rfl (src_rowG Tryz.tyLs.1 _ _ (by show 0 < 6; omega) HL.out.2.symm (OwnG.rowFrom HOd.out (i + 1)) (fun h => by cases h)) (by omega) ?_
    intro w6 ho6 hg6 hs6
    refine hK.out _ _ trivial (fun hHeld => ?_)
    clear hK K
    refine wpAnyH_take (i := 7) (oi := ⟨some 0, _, _, _, _, _⟩) (v := ?_) rfl (by kernel_rfl) (by kernel_rfl) (by kernel_rfl) (fun _ _ _ h => h) (Or.inl ⟨by rfl, ?_⟩) (by assumption) ?_
    rotate_left
    · intro w hSw
      try dsimp only at hSw
      go_simp
      try with_reducible rfl
    simp only [Act.put, List.setIfInBounds_toArray]
    refine wpAnyH_done (by kernel_rfl) ?_ _
    clear hHeld
    rw [erase_eq] at ho6
    obtain ⟨M, hM⟩ : ∃ M, M = i + (n - (i + 1)) := ⟨_, rfl⟩
    rw [← hM] at ho6 ⊢
    have hMn : M + 1 = n := by omega
    have HM := hidP (And.intro hM hMn)
    have hMc : cap ≠ M := by omega
    have hMc2 : ¬ cap = M := by omega
    have hn1 : n - M = 1 := by omega
    have e1 : (M : Int) ≤ (n : Int) := by omega
    have e2 : (n : Int) ≤ ((cap : Nat) : Int) := by omega
    have e3 : (0 : Int) ≤ (M : Int) := by omega
    have HO6 := hidP (And.intro ho6 hg6)
    have HZ := hidP (fun (w : World) => Tryz.zeroLs w)
    have HCI := hidP (fun j (hj : j < 6) => OwnG.cellIn ho6 (M * 6 + j) (show M * 6 + j < cap * 6 by omega))
    have HFI := hidP (fun j => OwnG.frozen ho6 (M * 6 + j))
    clear ho6 hg6 hs6 hM hMn
    have hclr : (Builtin.clear_ #[24] 0 #[.slice (some ⟨g, M * 6, none⟩) 1 (cap - M)]).run Tryz.prog w6 = .ok (.tuple #[]) (puts w6 g (M * 6) [.bool false, .int .i64 0, .int .i64 0, .string ⟨#[]⟩, .int .i64 0, .int .i64 0]) := run_clear1 w6 _ _ _ _ Tryz.tyLs.1 HZ.out (fun v hv => by simp [Value.cells] at hv; rcases hv with rfl | rfl | rfl | rfl <;> rfl) g (M * 6) _ (fun j hj => HCI.out j hj) (fun j _ => HFI.out j)
    go_wp2_with fail
    go_ret
    refine ⟨by rw [show n - 1 = M by have := HM.out; omega]; rfl, ?_, ?_⟩
    · rw [show n - 1 = M by have := HM.out; omega]
      have hlen : (ps.eraseIdx i).length = M := by rw [List.length_eraseIdx]; have := HN.out; have := HM.out; rw [if_pos (by omega)]; omega
      have hp := puts_own [.bool false, .int .i64 0, .int .i64 0, .string ⟨#[]⟩, .int .i64 0, .int .i64 0] w6 _ (M * 6) (show w6.ownsRow B 35 6 (.slice (some ⟨g, 0, none⟩) M cap) M (gflat KLs (ps.eraseIdx i)) from by have := HO6.out.1; unfold OwnG at this; rw [hlen] at this; exact this)
      rw [sets_past _ _ _ (by rw [gflat_len, hlen]; exact Nat.le_refl _)] at hp
      unfold OwnG
      rw [hlen]
      exact hp
    · exact puts_grown _ _ _ ((grown_of' (Below.refl _ w).drew (some g)).trans HO6.out.2)

end Go.Proofs.YtddnofonodgneaaGreatDoor
