/-
  The laws' marks of rows of sessions and of desks, and the looks whether they stand.
-/
import Derived.Test.YtmlijlhlafdkbaaVMark
import Derived.Test.YtmlijlhlafdkbaaVDeskS
import Derived.Deep.RegionWith
import Derived.Deep.RegionHeld3
namespace Go.Proofs.Ytmlijlhlafdkbaa
open Go.RowKit

theorem grown_cell (w : World) (g o : Nat) (v : Value) : w.grownBy (w.setCell ⟨g, o, none⟩ v) (some g) :=
  ⟨rfl, rfl, rfl, by simp, fun k _ hk => heap_setCell_other w ⟨g, o, none⟩ k v (fun e => hk (by simp [e]))⟩
theorem ownsRow_later {w w' : World} {B k n : Nat} {t : TypeId} {v : Value} {xs : List Value} (h : w.ownsRow B t k v n xs) (hb : Below w.heap.size w w') : w'.ownsRow B t k v n xs := by
  refine ⟨h.1, ?_⟩
  rcases h.2 with h' | ⟨g, c, cur, h1, h2, h3, h4⟩
  · exact Or.inl h'
  · refine Or.inr ⟨g, c, cur, h1, h2, ?_, h4⟩
    have hg : g < w.heap.size := by
      rcases Nat.lt_or_ge g w.heap.size with h' | h'
      · exact h'
      · rw [Array.getElem?_eq_none h'] at h3; cases h3
    exact (hb.block g hg).trans h3
theorem grown_of {w w' : World} (h : Below w.heap.size w w') (r : Option Nat) : w.grownBy w' r := ⟨h.os, h.tape, h.output, h.size, fun k hk _ => h.block k hk⟩

/-- The marks of the j-th session. -/
def mkSs (k : Int) (j : Nat) : Ss := ⟨k + 4 * (j : Int), k + 4 * (j : Int) + 1, mtT (k + 4 * (j : Int) + 1 + 1).toNat, k + 4 * (j : Int) + 1 + 1 + 1⟩
set_option maxHeartbeats 2000000 in
theorem markSessionS_any (a : Option Addr) (n cap B : Nat) (ps : List Ss) (k : Int) (w : World) (hn : n = ps.length) (h : OwnG KSs 52 w B (.slice a n cap) ps) (hl : n ≤ 9000000) (k0 : 0 < k) (k1 : k ≤ 9000000000) :
    Calls Try.prog 37 #[.slice a n cap, .int .i64 k] w fun e w' => e = .returned (.int .i64 (k + 4 * n)) ∧ OwnG KSs 52 w' B (.slice a n cap) (mksG (mkSs k) n) ∧ w.grownBy w' (Value.slice a n cap).ownBlock := by
  have hn' : ps.length = n := hn.symm
  clear hn
  by_cases h0 : n = 0
  · subst h0
    have HO := hidP h
    have HZ : Hid (ps = []) := List.length_eq_zero_iff.1 hn'
    clear h hn'
    go_enter Try.func37, Try.ntmps37
    go_wp2
    refine wp_loop_rounds 1 ?_
    rw [rounds_succ]
    go_wp2
    go_ret
    refine ⟨by simp, ?_, World.grownBy.refl _ _⟩
    have := HO.out; rw [HZ.out] at this; simpa [mksG] using this
  · obtain ⟨g, rfl⟩ : ∃ g, a = some ⟨g, 0, none⟩ := by
      rcases h.2 with ⟨hv, _⟩ | ⟨g, cap', cur, hv, _⟩
      · simp at hv; omega
      · simp at hv; exact ⟨g, hv.1⟩
    have HO : Hid (OwnG KSs 52 w B (.slice (some ⟨g, 0, none⟩) n cap) (mksG (mkSs k) 0 ++ ps.drop 0)) := by
      refine hidP ?_; simpa [mksG] using h
    have HN : Hid (ps.length = n) := hn'
    clear h hn'
    go_enter Try.func37, Try.ntmps37
    go_wp2
    go_loopw [1, 5] (fun t1 t5 wr => ∃ i : Nat, i ≤ n ∧ t5 = .int .i64 i ∧ t1 = .int .i64 (k + 4 * (i : Int)) ∧ OwnG KSs 52 wr B (.slice (some ⟨g, 0, none⟩) n cap) (mksG (mkSs k) i ++ ps.drop i) ∧ w.grownBy wr (some g)) (fun _ t5 _ => n - (intOf t5).toNat)
    case atStart => exact ⟨0, Nat.zero_le _, rfl, by simp, HO.out, World.grownBy.refl _ _⟩
    case round =>
      obtain ⟨i, hi, rfl, rfl, hown, hgr⟩ := hrel
      have hlen : n = (mksG (mkSs k) i ++ ps.drop i).length := by rw [List.length_append, mksG_len, List.length_drop, HN.out]; omega
      by_cases hlt : i < n
      · obtain ⟨f0, f1, f2, f3⟩ := frzSs hown i
        have hcs : KSs.cs (mkSs k i) = [.int .i64 (k + 4 * (i : Int)), .int .i64 (k + 4 * (i : Int) + 1)] ++ [.string (mtT (k + 4 * (i : Int) + 1 + 1).toNat), .int .i64 (k + 4 * (i : Int) + 1 + 1 + 1)] := rfl
        have hfl := gflat_set KSs (mksG (mkSs k) i ++ ps.drop i) i (mkSs k i) (by rw [← hlen]; exact hlt)
        rw [mksG_step (mkSs k) n i ps HN.out hlt, hcs] at hfl
        have hlen2 : (mksG (mkSs k) (i + 1) ++ ps.drop (i + 1)).length = n := by rw [List.length_append, mksG_len, List.length_drop, HN.out]; omega
        have hraw : wr.ownsRow B 52 4 (.slice (some ⟨g, 0, none⟩) n cap) n (gflat KSs (mksG (mkSs k) i ++ ps.drop i)) := by
          have := hown; unfold OwnG at this; rw [← hlen] at this; exact this
        have h3 := puts_own [.int .i64 (k + 4 * (i : Int)), .int .i64 (k + 4 * (i : Int) + 1)] wr _ (i * 4) hraw
        obtain ⟨q', hp', _, c0, c1, c2, c3⟩ := rowSs0 hown i (by rw [← hlen]; exact hlt)
        have HF := hidP hfl
        have HL2 := hidP hlen2
        have HG := hidP hgr
        have HM := hidP (markText_int (k + 4 * (i : Int) + 1 + 1) (by omega) (by omega))
        have F3 := hidP (fun (w2 : World) (hb : Below ((wr.setCell ⟨g, i * 4, none⟩ (.int .i64 (k + 4 * (i : Int)))).setCell ⟨g, i * 4 + 1, none⟩ (.int .i64 (k + 4 * (i : Int) + 1))).heap.size ((wr.setCell ⟨g, i * 4, none⟩ (.int .i64 (k + 4 * (i : Int)))).setCell ⟨g, i * 4 + 1, none⟩ (.int .i64 (k + 4 * (i : Int) + 1))) w2) => puts_own [.string (mtT (k + 4 * (i : Int) + 1 + 1).toNat), .int .i64 (k + 4 * (i : Int) + 1 + 1 + 1)] w2 _ (i * 4 + 2) (ownsRow_later (show ((wr.setCell ⟨g, i * 4, none⟩ (.int .i64 (k + 4 * (i : Int)))).setCell ⟨g, i * 4 + 1, none⟩ (.int .i64 (k + 4 * (i : Int) + 1))).ownsRow B 52 4 (.slice (some ⟨g, 0, none⟩) n cap) n _ from h3) hb))
        have Z3 := hidP (fun (w2 : World) (hb : Below ((wr.setCell ⟨g, i * 4, none⟩ (.int .i64 (k + 4 * (i : Int)))).setCell ⟨g, i * 4 + 1, none⟩ (.int .i64 (k + 4 * (i : Int) + 1))).heap.size ((wr.setCell ⟨g, i * 4, none⟩ (.int .i64 (k + 4 * (i : Int)))).setCell ⟨g, i * 4 + 1, none⟩ (.int .i64 (k + 4 * (i : Int) + 1))) w2) (o : Nat) => World.ownsRow.frozenAt (ownsRow_later (show ((wr.setCell ⟨g, i * 4, none⟩ (.int .i64 (k + 4 * (i : Int)))).setCell ⟨g, i * 4 + 1, none⟩ (.int .i64 (k + 4 * (i : Int) + 1))).ownsRow B 52 4 (.slice (some ⟨g, 0, none⟩) n cap) n _ from h3) hb) o)
        have hg3 : g < ((wr.setCell ⟨g, i * 4, none⟩ (.int .i64 (k + 4 * (i : Int)))).setCell ⟨g, i * 4 + 1, none⟩ (.int .i64 (k + 4 * (i : Int) + 1))).heap.size := by simp; exact hp'
        have c2s : ((wr.setCell ⟨g, i * 4, none⟩ (.int .i64 (k + 4 * (i : Int)))).setCell ⟨g, i * 4 + 1, none⟩ (.int .i64 (k + 4 * (i : Int) + 1))).cell? ⟨g, i * 4 + 2, none⟩ = some (.string q'.t) := by simp [go_sem, c2]
        have c3s : ((wr.setCell ⟨g, i * 4, none⟩ (.int .i64 (k + 4 * (i : Int)))).setCell ⟨g, i * 4 + 1, none⟩ (.int .i64 (k + 4 * (i : Int) + 1))).cell? ⟨g, i * 4 + 3, none⟩ = some (.int .i64 q'.u) := by simp [go_sem, c3]
        have C3 := hidP (And.intro hg3 (And.intro c2s c3s))
        clear hown hgr HO hlen hcs hfl hraw h3 hlen2 hg3 c2s c3s
        go_wp2_with fail
        refine (HM.out _).mono ?_
        rintro e w2 ⟨rfl, hb2⟩
        have c2t := (hb2.cell C3.out.1).trans C3.out.2.1
        have c3t := (hb2.cell C3.out.1).trans C3.out.2.2
        have fz2 := Z3.out w2 hb2 (i * 4 + 2)
        have fz3 := Z3.out w2 hb2 (i * 4 + 3)
        have HS := hidP (F3.out w2 hb2)
        have HG2 := hidP (((HG.out.trans (grown_cell _ g _ _)).trans (grown_cell _ g _ _)).trans (grown_of hb2 (some g)))
        clear hb2 F3 Z3 c0 c1 c2 c3 f0 f1 f2 f3
        go_wp2_with fail
        go_roundw
        case rel =>
          refine ⟨i + 1, by omega, by go_num, by go_num, ?_, (HG2.out.trans (grown_cell _ g _ _)).trans (grown_cell _ g _ _)⟩
          unfold OwnG
          rw [HL2.out, ← HF.out]
          exact HS.out
        case measure => simp [intOf]; omega
      · have hin : i = n := by omega
        subst hin
        have HS : Hid (OwnG KSs 52 wr B (.slice (some ⟨g, 0, none⟩) i cap) (mksG (mkSs k) i)) := by
          rw [List.drop_of_length_le (by rw [HN.out]; exact Nat.le_refl _), List.append_nil] at hown
          exact hidP hown
        have HG := hidP hgr
        clear hown hgr HO hlen
        go_wp2
        go_ret
        exact ⟨rfl, HS.out, HG.out⟩

set_option maxRecDepth 10000 in
set_option maxHeartbeats 1000000 in
theorem heldSessionS_any (a : Option Addr) (cap n : Nat) (k : Int) (w : World) (h : RowG KSs w a (mksG (mkSs k) n)) (hl : n ≤ 9000000) (k0 : 0 < k) (k1 : k ≤ 9000000000) :
    Calls Try.prog 38 #[.slice a n cap, .int .i64 k] w fun e w' => e = .returned (.int .i64 (k + 4 * n)) ∧ Below w.heap.size w w' := by
  have HB := hidP h
  clear h
  go_enter Try.func38, Try.ntmps38
  go_wp2
  go_loopw [1, 5] (fun t1 t5 wr => ∃ i : Nat, i ≤ n ∧ t5 = .int .i64 i ∧ t1 = .int .i64 (k + 4 * (i : Int)) ∧ Below w.heap.size w wr) (fun _ t5 _ => n - (intOf t5).toNat)
  case atStart => exact ⟨0, Nat.zero_le _, rfl, by simp, Below.refl _ _⟩
  case round =>
    obtain ⟨i, hi, rfl, rfl, hbel⟩ := hrel
    have HBel := hidP hbel
    by_cases hlt : i < n
    · obtain ⟨p, o, q, rfl, hp, hq, c0, c1, c2, c3⟩ := rowSs HB.out i (by rw [mksG_len]; exact hlt)
      rw [mksG_at (mkSs k) n i hlt] at hq
      cases hq
      have d0 : wr.cell? ⟨p, o + i * 4, none⟩ = some (.int .i64 (k + 4 * (i : Int))) := (hbel.cell hp).trans c0
      have d1 : wr.cell? ⟨p, o + i * 4 + 1, none⟩ = some (.int .i64 (k + 4 * (i : Int) + 1)) := (hbel.cell hp).trans c1
      have d2 : wr.cell? ⟨p, o + i * 4 + 2, none⟩ = some (.string (mtT (k + 4 * (i : Int) + 1 + 1).toNat)) := (hbel.cell hp).trans c2
      have d3 : wr.cell? ⟨p, o + i * 4 + 3, none⟩ = some (.int .i64 (k + 4 * (i : Int) + 1 + 1 + 1)) := (hbel.cell hp).trans c3
      have dL : p < wr.heap.size := Nat.lt_of_lt_of_le hp hbel.size
      clear c0 c1 c2 c3 hbel
      have HM := hidP (markText_int (k + 4 * (i : Int) + 1 + 1) (by omega) (by omega))
      go_wp2_with fail
      have HSx : Hid (∀ x, Below wr.heap.size wr x → (x.cell? ⟨p, o + i * 4 + 2, none⟩ = some (.string (mtT (k + 4 * (i : Int) + 1 + 1).toNat)) ∧ x.cell? ⟨p, o + i * 4 + 3, none⟩ = some (.int .i64 (k + 4 * (i : Int) + 1 + 1 + 1)) ∧ Below wr.heap.size wr x)) := hidP fun x h =>
        ⟨(h.cell dL).trans d2, (h.cell dL).trans d3, h⟩
      refine wp_region_held_drew (S := (fun x => x.cell? ⟨p, o + i * 4 + 2, none⟩ = some (.string (mtT (k + 4 * (i : Int) + 1 + 1).toNat)) ∧ x.cell? ⟨p, o + i * 4 + 3, none⟩ = some (.int .i64 (k + 4 * (i : Int) + 1 + 1 + 1)) ∧ Below wr.heap.size wr x)) (by kernel_rfl) ?_ (fun hHeld => ?_)
      · try dsimp only
        exact HSx.out _ ((Below.refl _ _).drew)
      refine wpAnyH_take (i := 0) (oi := ⟨some 30, _, _, _, _, _⟩) (v := ?_) rfl (by kernel_rfl) (by kernel_rfl) (by kernel_rfl) (fun _ _ _ h => h) (Or.inl ⟨by rfl, ?_⟩) (by assumption) ?_
      rotate_left
      · intro w hSw
        try dsimp only at hSw
        go_simp
        try with_reducible rfl
      simp only [Act.put, List.setIfInBounds_toArray, List.set_cons_zero, List.set_cons_succ]
      refine wpAnyH_take (i := 1) (oi := ⟨some 31, _, _, _, _, _⟩) (v := ?_) rfl (by kernel_rfl) (by kernel_rfl) (by kernel_rfl) (fun _ _ _ h => h) (Or.inl ⟨by rfl, ?_⟩) (by assumption) ?_
      rotate_left
      · intro w hSw
        try dsimp only at hSw
        go_simp
        try with_reducible rfl
      simp only [Act.put, List.setIfInBounds_toArray, List.set_cons_zero, List.set_cons_succ]
      refine wpAnyH_take (i := 2) (oi := ⟨some 32, _, _, _, _, _⟩) (v := ?_) rfl (by kernel_rfl) (by kernel_rfl) (by kernel_rfl) (fun _ _ _ h => h) (Or.inl ⟨by rfl, ?_⟩) (by assumption) ?_
      rotate_left
      · intro w hSw
        try dsimp only at hSw
        go_simp
        try with_reducible rfl
      simp only [Act.put, List.setIfInBounds_toArray, List.set_cons_zero, List.set_cons_succ]
      refine wpAnyH_take (i := 3) (oi := ⟨some 33, _, _, _, _, _⟩) (v := ?_) rfl (by kernel_rfl) (by kernel_rfl) (by kernel_rfl) (fun _ _ _ h => h) (Or.inl ⟨by rfl, ?_⟩) (by assumption) ?_
      rotate_left
      · intro w hSw
        try dsimp only at hSw
        go_simp
        try with_reducible rfl
      simp only [Act.put, List.setIfInBounds_toArray, List.set_cons_zero, List.set_cons_succ]
      refine wpAnyH_take (i := 4) (oi := ⟨some 34, _, _, _, _, _⟩) (v := ?_) rfl (by kernel_rfl) (by kernel_rfl) (by kernel_rfl) (fun _ _ _ h => h) (Or.inl ⟨by rfl, ?_⟩) (by assumption) ?_
      rotate_left
      · intro w hSw
        try dsimp only at hSw
        go_simp
        try with_reducible rfl
      simp only [Act.put, List.setIfInBounds_toArray, List.set_cons_zero, List.set_cons_succ]
      refine wpAnyH_take (i := 5) (oi := ⟨some 35, _, _, _, _, _⟩) (v := ?_) rfl (by kernel_rfl) (by kernel_rfl) (by kernel_rfl) (fun _ _ _ h => h) (Or.inl ⟨by rfl, ?_⟩) (by assumption) ?_
      rotate_left
      · intro w hSw
        try dsimp only at hSw
        go_simp
        try with_reducible rfl
      simp only [Act.put, List.setIfInBounds_toArray, List.set_cons_zero, List.set_cons_succ]
      refine wpAnyH_ready (rs := [6]) (by kernel_rfl) (by simp) ?_
      refine AllReadyH.cons rfl (fun K hK => ?_) AllReadyH.nil
      go_simp
      go_wp2_with (first | (go_at_call 52; refine (HM.out _).mono ?_; rintro e w2 ⟨rfl, hb2⟩; have b2 := (hHeld.2.2).trans (hb2.mono (hHeld.2.2).size)))
      refine hK.out _ _ ?_ (fun hHeld => ?_)
      · try dsimp only
        exact HSx.out _ b2
      clear hK K
      refine wpAnyH_take (i := 7) (oi := ⟨some 37, _, _, _, _, _⟩) (v := ?_) rfl (by kernel_rfl) (by kernel_rfl) (by kernel_rfl) (fun _ _ _ h => h) (Or.inl ⟨by rfl, ?_⟩) (by assumption) ?_
      rotate_left
      · intro w hSw
        try dsimp only at hSw
        go_simp
        try with_reducible rfl
      simp only [Act.put, List.setIfInBounds_toArray, List.set_cons_zero, List.set_cons_succ]
      have HE := hidP (hHeld.2.2)
      refine wpAnyH_done (by kernel_rfl) ?_ _
      have u3 := hHeld.2.1
      clear hHeld d3
      go_wp2_with fail
      go_roundw
      case rel => exact ⟨i + 1, by omega, by go_num, by go_num, HBel.out.trans (HE.out.mono HBel.out.size)⟩
      case measure => simp [intOf]; omega
    · have hin : i = n := by omega
      subst hin
      clear hbel
      go_wp2
      go_ret
      exact ⟨rfl, HBel.out⟩

set_option maxHeartbeats 1000000 in
theorem markDesk_any (a : Option Addr) (n c B : Nat) (N : Int) (ls : List Ss) (k : Int) (w : World) (hn : n = ls.length) (h : OwnG KSs 52 w B (.slice a n c) ls) (hl : n ≤ 9000000) (k0 : 0 < k) (k1 : k ≤ 9000000000) :
    Calls Try.prog 16 #[.agg #[.slice a n c, .int .i64 N], .int .i64 k] w fun e w' => e = .returned (.int .i64 (k + 4 * n)) ∧ OwnG KSs 52 w' B (.slice a n c) (mksG (mkSs k) n) ∧ w.grownBy w' (Value.slice a n c).ownBlock := by
  have HM := hidP (fun W (h' : Below w.heap.size w W) => markSessionS_any a n c B ls k W hn (h.later h') hl k0 k1)
  clear hn h
  go_enter Try.func16, Try.ntmps16
  go_wp2_with fail
  refine (HM.out _ (alloc_below w _)).mono ?_
  rintro e w2 ⟨rfl, ho, hg⟩
  have HO := hidP (And.intro ho hg)
  clear ho hg
  go_wp2_with fail
  go_ret
  exact ⟨rfl, HO.out.1, (grown_of (alloc_below w _) _).trans HO.out.2⟩

set_option maxHeartbeats 1000000 in
theorem heldDesk_any (a : Option Addr) (n c : Nat) (N : Int) (k : Int) (w : World) (h : RowG KSs w a (mksG (mkSs k) n)) (hl : n ≤ 9000000) (k0 : 0 < k) (k1 : k ≤ 9000000000) :
    Calls Try.prog 17 #[.agg #[.slice a n c, .int .i64 N], .int .i64 k] w fun e w' => e = .returned (.int .i64 (k + 4 * n)) ∧ Below w.heap.size w w' := by
  have HM := hidP (fun W (h' : Below w.heap.size w W) => heldSessionS_any a c n k W (h.later h') hl k0 k1)
  have d1 : decide (k + 4 * (n : Int) < 0) = false := decide_eq_false (by omega)
  clear h
  go_enter Try.func17, Try.ntmps17
  go_wp2_with fail
  refine (HM.out _ (alloc_below w _)).mono ?_
  rintro e w2 ⟨rfl, hb2⟩
  have HB2 := hidP hb2
  clear hb2
  go_wp2_with fail
  go_ret
  exact ⟨rfl, (alloc_below w _).trans (HB2.out.mono (alloc_below w _).size)⟩

end Go.Proofs.Ytmlijlhlafdkbaa
