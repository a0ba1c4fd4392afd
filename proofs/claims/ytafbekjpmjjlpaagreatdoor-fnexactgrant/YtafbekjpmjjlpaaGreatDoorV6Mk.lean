/-
  The laws' marks of rows of leases and of addresses, and of books, and the looks whether they stand.
-/
import Derived.Test.YtafbekjpmjjlpaaGreatDoorVMark
import Derived.Test.YtafbekjpmjjlpaaGreatDoorRAdr
import Derived.Deep.RegionWith
import Derived.Deep.RegionHeld3
namespace Go.Proofs.YtafbekjpmjjlpaaGreatDoor
open Go.RowKit

theorem toI64 (x : Int) (h0 : 0 ≤ x) (h1 : x ≤ 90000000000) : (BitVec.ofInt 64 x).toInt = x := by
  rw [BitVec.toInt_ofInt, Int.bmod_def]
  split <;> omega
theorem grown_cell (w : World) (g o : Nat) (v : Value) : w.grownBy (w.setCell ⟨g, o, none⟩ v) (some g) :=
  ⟨rfl, rfl, rfl, by simp, fun k _ hk => heap_setCell_other w ⟨g, o, none⟩ k v (fun e => hk (by simp [e]))⟩
theorem ownsRow_later {w w' : World} {B k n : Nat} {t : TypeId} {v : Value} {xs : List Value} (h : w.ownsRow B t k v n xs) (hb : Below w.heap.size w w') : w'.ownsRow B t k v n xs := by
  refine ⟨h.1, ?_⟩
  rcases h.2 with h' | ⟨g, c, cur, h1, h2, h3, h4⟩
  · exact Or.inl h'
  · refine Or.inr ⟨g, c, cur, h1, h2, ?_, h4⟩
    have hg : g < w.heap.size := by
      rcases Nat.lt_or_ge g w.heap.size with h' | h'
      · exact h'
      · rw [Array.getElem?_eq_none h'] at h3; cases h3
    exact (hb.block g hg).trans h3
theorem grown_of {w w' : World} (h : Below w.heap.size w w') (r : Option Nat) : w.grownBy w' r := ⟨h.os, h.tape, h.output, h.size, fun k hk _ => h.block k hk⟩

/-- The marks of the j-th lease, and of the j-th address. -/
def mkLs (k : Int) (j : Nat) : Ls := ⟨⟨(k + 6 * (j : Int)) % 3 == 0, BitVec.ofInt 64 (k + 6 * (j : Int) + 1), BitVec.ofInt 64 (k + 6 * (j : Int) + 1 + 1)⟩, mtT (k + 6 * (j : Int) + 1 + 1 + 1).toNat, k + 6 * (j : Int) + 1 + 1 + 1 + 1, k + 6 * (j : Int) + 1 + 1 + 1 + 1 + 1⟩
def mkAd (k : Int) (j : Nat) : Ad := ⟨k % 3 == 0, BitVec.ofInt 64 (k + 3 * (j : Int) + 1), BitVec.ofInt 64 (k + 3 * (j : Int) + 1 + 1)⟩
set_option maxHeartbeats 2000000 in
theorem markLeaseS_any (a : Option Addr) (n cap B : Nat) (ps : List Ls) (k : Int) (w : World) (hn : n = ps.length) (h : OwnG KLs 47 w B (.slice a n cap) ps) (hl : n ≤ 9000000) (k0 : 0 < k) (k1 : k ≤ 9000000000) :
    Calls Tryz.prog 26 #[.slice a n cap, .int .i64 k] w fun e w' => e = .returned (.int .i64 (k + 6 * n)) ∧ OwnG KLs 47 w' B (.slice a n cap) (mksG (mkLs k) n) ∧ w.grownBy w' (Value.slice a n cap).ownBlock := by
  have hn' : ps.length = n := hn.symm
  clear hn
  by_cases h0 : n = 0
  · subst h0
    have HO := hidP h
    have HZ : Hid (ps = []) := List.length_eq_zero_iff.1 hn'
    clear h hn'
    go_enter Tryz.func26, Tryz.ntmps26
    go_wp2
    refine wp_loop_rounds 1 ?_
    rw [rounds_succ]
    go_wp2
    go_ret
    refine ⟨by simp, ?_, World.grownBy.refl _ _⟩
    have := HO.out; rw [HZ.out] at this; simpa [mksG] using this
  · obtain ⟨g, rfl⟩ : ∃ g, a = some ⟨g, 0, none⟩ := by
      rcases h.2 with ⟨hv, _⟩ | ⟨g, cap', cur, hv, _⟩
      · simp at hv; omega
      · simp at hv; exact ⟨g, hv.1⟩
    have HO : Hid (OwnG KLs 47 w B (.slice (some ⟨g, 0, none⟩) n cap) (mksG (mkLs k) 0 ++ ps.drop 0)) := by
      refine hidP ?_; simpa [mksG] using h
    have HN : Hid (ps.length = n) := hn'
    clear h hn'
    go_enter Tryz.func26, Tryz.ntmps26
    go_wp2
    go_loopw [1, 5] (fun t1 t5 wr => ∃ i : Nat, i ≤ n ∧ t5 = .int .i64 i ∧ t1 = .int .i64 (k + 6 * (i : Int)) ∧ OwnG KLs 47 wr B (.slice (some ⟨g, 0, none⟩) n cap) (mksG (mkLs k) i ++ ps.drop i) ∧ w.grownBy wr (some g)) (fun _ t5 _ => n - (intOf t5).toNat)
    case atStart => exact ⟨0, Nat.zero_le _, rfl, by simp, HO.out, World.grownBy.refl _ _⟩
    case round =>
      obtain ⟨i, hi, rfl, rfl, hown, hgr⟩ := hrel
      have hlen : n = (mksG (mkLs k) i ++ ps.drop i).length := by rw [List.length_append, mksG_len, List.length_drop, HN.out]; omega
      by_cases hlt : i < n
      · obtain ⟨f0, f1, f2, f3, f4, f5⟩ := frzLs hown i
        have e1 : (mkLs k i).a.H.toInt = k + 6 * (i : Int) + 1 := toI64 _ (by omega) (by omega)
        have e2 : (mkLs k i).a.L.toInt = k + 6 * (i : Int) + 1 + 1 := toI64 _ (by omega) (by omega)
        have e0 : (mkLs k i).a.s = ((k + 6 * (i : Int)) % 3 == 0) := rfl
        have hcs : KLs.cs (mkLs k i) = [.bool ((k + 6 * (i : Int)) % 3 == 0), .int .i64 (k + 6 * (i : Int) + 1), .int .i64 (k + 6 * (i : Int) + 1 + 1)] ++ [.string (mtT (k + 6 * (i : Int) + 1 + 1 + 1).toNat), .int .i64 (k + 6 * (i : Int) + 1 + 1 + 1 + 1), .int .i64 (k + 6 * (i : Int) + 1 + 1 + 1 + 1 + 1)] := by
          show ([.bool (mkLs k i).a.s, .int .i64 (mkLs k i).a.H.toInt, .int .i64 (mkLs k i).a.L.toInt, .string (mkLs k i).t, .int .i64 (mkLs k i).k, .int .i64 (mkLs k i).u] : List Value) = _
          rw [e0, e1, e2]; rfl
        have hfl := gflat_set KLs (mksG (mkLs k) i ++ ps.drop i) i (mkLs k i) (by rw [← hlen]; exact hlt)
        rw [mksG_step (mkLs k) n i ps HN.out hlt, hcs] at hfl
        have hlen2 : (mksG (mkLs k) (i + 1) ++ ps.drop (i + 1)).length = n := by rw [List.length_append, mksG_len, List.length_drop, HN.out]; omega
        have hraw : wr.ownsRow B 47 6 (.slice (some ⟨g, 0, none⟩) n cap) n (gflat KLs (mksG (mkLs k) i ++ ps.drop i)) := by
          have := hown; unfold OwnG at this; rw [← hlen] at this; exact this
        have h3 := puts_own [.bool ((k + 6 * (i : Int)) % 3 == 0), .int .i64 (k + 6 * (i : Int) + 1), .int .i64 (k + 6 * (i : Int) + 1 + 1)] wr _ (i * 6) hraw
        obtain ⟨q', hp', _, c0, c1, c2, c3, c4, c5⟩ := rowLs0 hown i (by rw [← hlen]; exact hlt)
        have HF := hidP hfl
        have HL2 := hidP hlen2
        have HG := hidP hgr
        have HM := hidP (markText_int (k + 6 * (i : Int) + 1 + 1 + 1) (by omega) (by omega))
        have F3 := hidP (fun (w2 : World) (hb : Below (((wr.setCell ⟨g, i * 6, none⟩ (.bool ((k + 6 * (i : Int)) % 3 == 0))).setCell ⟨g, i * 6 + 1, none⟩ (.int .i64 (k + 6 * (i : Int) + 1))).setCell ⟨g, i * 6 + 2, none⟩ (.int .i64 (k + 6 * (i : Int) + 1 + 1))).heap.size (((wr.setCell ⟨g, i * 6, none⟩ (.bool ((k + 6 * (i : Int)) % 3 == 0))).setCell ⟨g, i * 6 + 1, none⟩ (.int .i64 (k + 6 * (i : Int) + 1))).setCell ⟨g, i * 6 + 2, none⟩ (.int .i64 (k + 6 * (i : Int) + 1 + 1))) w2) => puts_own [.string (mtT (k + 6 * (i : Int) + 1 + 1 + 1).toNat), .int .i64 (k + 6 * (i : Int) + 1 + 1 + 1 + 1), .int .i64 (k + 6 * (i : Int) + 1 + 1 + 1 + 1 + 1)] w2 _ (i * 6 + 3) (ownsRow_later (show (((wr.setCell ⟨g, i * 6, none⟩ (.bool ((k + 6 * (i : Int)) % 3 == 0))).setCell ⟨g, i * 6 + 1, none⟩ (.int .i64 (k + 6 * (i : Int) + 1))).setCell ⟨g, i * 6 + 2, none⟩ (.int .i64 (k + 6 * (i : Int) + 1 + 1))).ownsRow B 47 6 (.slice (some ⟨g, 0, none⟩) n cap) n _ from h3) hb))
        have Z3 := hidP (fun (w2 : World) (hb : Below (((wr.setCell ⟨g, i * 6, none⟩ (.bool ((k + 6 * (i : Int)) % 3 == 0))).setCell ⟨g, i * 6 + 1, none⟩ (.int .i64 (k + 6 * (i : Int) + 1))).setCell ⟨g, i * 6 + 2, none⟩ (.int .i64 (k + 6 * (i : Int) + 1 + 1))).heap.size (((wr.setCell ⟨g, i * 6, none⟩ (.bool ((k + 6 * (i : Int)) % 3 == 0))).setCell ⟨g, i * 6 + 1, none⟩ (.int .i64 (k + 6 * (i : Int) + 1))).setCell ⟨g, i * 6 + 2, none⟩ (.int .i64 (k + 6 * (i : Int) + 1 + 1))) w2) (o : Nat) => World.ownsRow.frozenAt (ownsRow_later (show (((wr.setCell ⟨g, i * 6, none⟩ (.bool ((k + 6 * (i : Int)) % 3 == 0))).setCell ⟨g, i * 6 + 1, none⟩ (.int .i64 (k + 6 * (i : Int) + 1))).setCell ⟨g, i * 6 + 2, none⟩ (.int .i64 (k + 6 * (i : Int) + 1 + 1))).ownsRow B 47 6 (.slice (some ⟨g, 0, none⟩) n cap) n _ from h3) hb) o)
        have hg3 : g < (((wr.setCell ⟨g, i * 6, none⟩ (.bool ((k + 6 * (i : Int)) % 3 == 0))).setCell ⟨g, i * 6 + 1, none⟩ (.int .i64 (k + 6 * (i : Int) + 1))).setCell ⟨g, i * 6 + 2, none⟩ (.int .i64 (k + 6 * (i : Int) + 1 + 1))).heap.size := by simp; exact hp'
        have c3s : (((wr.setCell ⟨g, i * 6, none⟩ (.bool ((k + 6 * (i : Int)) % 3 == 0))).setCell ⟨g, i * 6 + 1, none⟩ (.int .i64 (k + 6 * (i : Int) + 1))).setCell ⟨g, i * 6 + 2, none⟩ (.int .i64 (k + 6 * (i : Int) + 1 + 1))).cell? ⟨g, i * 6 + 3, none⟩ = some (.string q'.t) := by simp [go_sem, c3]
        have c4s : (((wr.setCell ⟨g, i * 6, none⟩ (.bool ((k + 6 * (i : Int)) % 3 == 0))).setCell ⟨g, i * 6 + 1, none⟩ (.int .i64 (k + 6 * (i : Int) + 1))).setCell ⟨g, i * 6 + 2, none⟩ (.int .i64 (k + 6 * (i : Int) + 1 + 1))).cell? ⟨g, i * 6 + 4, none⟩ = some (.int .i64 q'.k) := by simp [go_sem, c4]
        have c5s : (((wr.setCell ⟨g, i * 6, none⟩ (.bool ((k + 6 * (i : Int)) % 3 == 0))).setCell ⟨g, i * 6 + 1, none⟩ (.int .i64 (k + 6 * (i : Int) + 1))).setCell ⟨g, i * 6 + 2, none⟩ (.int .i64 (k + 6 * (i : Int) + 1 + 1))).cell? ⟨g, i * 6 + 5, none⟩ = some (.int .i64 q'.u) := by simp [go_sem, c5]
        have C3 := hidP (And.intro hg3 (And.intro c3s (And.intro c4s c5s)))
        clear hown hgr HO hlen e0 e1 e2 hcs hfl hraw h3 hlen2 hg3 c3s c4s c5s
        go_wp2_with fail
        refine (HM.out _).mono ?_
        rintro e w2 ⟨rfl, hb2⟩
        have c3t := (hb2.cell C3.out.1).trans C3.out.2.1
        have c4t := (hb2.cell C3.out.1).trans C3.out.2.2.1
        have c5t := (hb2.cell C3.out.1).trans C3.out.2.2.2
        have fz3 := Z3.out w2 hb2 (i * 6 + 3)
        have fz4 := Z3.out w2 hb2 (i * 6 + 4)
        have fz5 := Z3.out w2 hb2 (i * 6 + 5)
        have HS := hidP (F3.out w2 hb2)
        have HG2 := hidP ((((HG.out.trans (grown_cell _ g _ _)).trans (grown_cell _ g _ _)).trans (grown_cell _ g _ _)).trans (grown_of hb2 (some g)))
        clear hb2 F3 Z3 c0 c1 c2 c3 c4 c5 f0 f1 f2 f3 f4 f5
        go_wp2_with fail
        go_roundw
        case rel =>
          refine ⟨i + 1, by omega, by go_num, by go_num, ?_, ((HG2.out.trans (grown_cell _ g _ _)).trans (grown_cell _ g _ _)).trans (grown_cell _ g _ _)⟩
          unfold OwnG
          rw [HL2.out, ← HF.out]
          exact HS.out
        case measure => simp [intOf]; omega
      · have hin : i = n := by omega
        subst hin
        have HS : Hid (OwnG KLs 47 wr B (.slice (some ⟨g, 0, none⟩) i cap) (mksG (mkLs k) i)) := by
          rw [List.drop_of_length_le (by rw [HN.out]; exact Nat.le_refl _), List.append_nil] at hown
          exact hidP hown
        have HG := hidP hgr
        clear hown hgr HO hlen
        go_wp2
        go_ret
        exact ⟨rfl, HS.out, HG.out⟩

set_option maxRecDepth 10000 in
set_option maxHeartbeats 1000000 in
theorem heldLeaseS_any (a : Option Addr) (cap n : Nat) (k : Int) (w : World) (h : RowG KLs w a (mksG (mkLs k) n)) (hl : n ≤ 9000000) (k0 : 0 < k) (k1 : k ≤ 9000000000) :
    Calls Tryz.prog 27 #[.slice a n cap, .int .i64 k] w fun e w' => e = .returned (.int .i64 (k + 6 * n)) ∧ Below w.heap.size w w' := by
  have HB := hidP h
  clear h
  go_enter Tryz.func27, Tryz.ntmps27
  go_wp2
  go_loopw [1, 5] (fun t1 t5 wr => ∃ i : Nat, i ≤ n ∧ t5 = .int .i64 i ∧ t1 = .int .i64 (k + 6 * (i : Int)) ∧ Below w.heap.size w wr) (fun _ t5 _ => n - (intOf t5).toNat)
  case atStart => exact ⟨0, Nat.zero_le _, rfl, by simp, Below.refl _ _⟩
  case round =>
    obtain ⟨i, hi, rfl, rfl, hbel⟩ := hrel
    have HBel := hidP hbel
    by_cases hlt : i < n
    · obtain ⟨p, o, q, rfl, hp, hq, c0, c1, c2, c3, c4, c5⟩ := rowLs HB.out i (by rw [mksG_len]; exact hlt)
      rw [mksG_at (mkLs k) n i hlt] at hq
      cases hq
      have e1 : (mkLs k i).a.H.toInt = k + 6 * (i : Int) + 1 := toI64 _ (by omega) (by omega)
      have e2 : (mkLs k i).a.L.toInt = k + 6 * (i : Int) + 1 + 1 := toI64 _ (by omega) (by omega)
      have d0 : wr.cell? ⟨p, o + i * 6, none⟩ = some (.bool ((k + 6 * (i : Int)) % 3 == 0)) := (hbel.cell hp).trans c0
      have d1 : wr.cell? ⟨p, o + i * 6 + 1, none⟩ = some (.int .i64 (k + 6 * (i : Int) + 1)) := by rw [← e1]; exact (hbel.cell hp).trans c1
      have d2 : wr.cell? ⟨p, o + i * 6 + 2, none⟩ = some (.int .i64 (k + 6 * (i : Int) + 1 + 1)) := by rw [← e2]; exact (hbel.cell hp).trans c2
      have d3 : wr.cell? ⟨p, o + i * 6 + 3, none⟩ = some (.string (mtT (k + 6 * (i : Int) + 1 + 1 + 1).toNat)) := (hbel.cell hp).trans c3
      have d4 : wr.cell? ⟨p, o + i * 6 + 4, none⟩ = some (.int .i64 (k + 6 * (i : Int) + 1 + 1 + 1 + 1)) := (hbel.cell hp).trans c4
      have d5 : wr.cell? ⟨p, o + i * 6 + 5, none⟩ = some (.int .i64 (k + 6 * (i : Int) + 1 + 1 + 1 + 1 + 1)) := (hbel.cell hp).trans c5
      have dL : p < wr.heap.size := Nat.lt_of_lt_of_le hp hbel.size
      clear e1 e2 c0 c1 c2 c3 c4 c5 hbel
      have HM := hidP (markText_int (k + 6 * (i : Int) + 1 + 1 + 1) (by omega) (by omega))
      go_wp2_with fail
      have HSx : Hid (∀ x, Below wr.heap.size wr x → (x.cell? ⟨p, o + i * 6 + 3, none⟩ = some (.string (mtT (k + 6 * (i : Int) + 1 + 1 + 1).toNat)) ∧ x.cell? ⟨p, o + i * 6 + 4, none⟩ = some (.int .i64 (k + 6 * (i : Int) + 1 + 1 + 1 + 1)) ∧ x.cell? ⟨p, o + i * 6 + 5, none⟩ = some (.int .i64 (k + 6 * (i : Int) + 1 + 1 + 1 + 1 + 1)) ∧ Below wr.heap.size wr x)) := hidP fun x h =>
        ⟨(h.cell dL).trans d3, (h.cell dL).trans d4, (h.cell dL).trans d5, h⟩
      refine wp_region_held_drew (S := (fun x => x.cell? ⟨p, o + i * 6 + 3, none⟩ = some (.string (mtT (k + 6 * (i : Int) + 1 + 1 + 1).toNat)) ∧ x.cell? ⟨p, o + i * 6 + 4, none⟩ = some (.int .i64 (k + 6 * (i : Int) + 1 + 1 + 1 + 1)) ∧ x.cell? ⟨p, o + i * 6 + 5, none⟩ = some (.int .i64 (k + 6 * (i : Int) + 1 + 1 + 1 + 1 + 1)) ∧ Below wr.heap.size wr x)) (by kernel_rfl) ?_ (fun hHeld => ?_)
      · try dsimp only
        exact HSx.out _ ((Below.refl _ _).drew)
      refine wpAnyH_take (i := 0) (oi := ⟨some 44, _, _, _, _, _⟩) (v := ?_) rfl (by kernel_rfl) (by kernel_rfl) (by kernel_rfl) (fun _ _ _ h => h) (Or.inl ⟨by rfl, ?_⟩) (by assumption) ?_
      rotate_left
      · intro w hSw
        try dsimp only at hSw
        go_simp
        try with_reducible rfl
      simp only [Act.put, List.setIfInBounds_toArray, List.set_cons_zero, List.set_cons_succ]
      refine wpAnyH_take (i := 1) (oi := ⟨some 45, _, _, _, _, _⟩) (v := ?_) rfl (by kernel_rfl) (by kernel_rfl) (by kernel_rfl) (fun _ _ _ h => h) (Or.inl ⟨by rfl, ?_⟩) (by assumption) ?_
      rotate_left
      · intro w hSw
        try dsimp only at hSw
        go_simp
        try with_reducible rfl
      simp only [Act.put, List.setIfInBounds_toArray, List.set_cons_zero, List.set_cons_succ]
      refine wpAnyH_take (i := 2) (oi := ⟨some 46, _, _, _, _, _⟩) (v := ?_) rfl (by kernel_rfl) (by kernel_rfl) (by kernel_rfl) (fun _ _ _ h => h) (Or.inl ⟨by rfl, ?_⟩) (by assumption) ?_
      rotate_left
      · intro w hSw
        try dsimp only at hSw
        go_simp
        try with_reducible rfl
      simp only [Act.put, List.setIfInBounds_toArray, List.set_cons_zero, List.set_cons_succ]
      refine wpAnyH_take (i := 3) (oi := ⟨some 47, _, _, _, _, _⟩) (v := ?_) rfl (by kernel_rfl) (by kernel_rfl) (by kernel_rfl) (fun _ _ _ h => h) (Or.inl ⟨by rfl, ?_⟩) (by assumption) ?_
      rotate_left
      · intro w hSw
        try dsimp only at hSw
        go_simp
        try with_reducible rfl
      simp only [Act.put, List.setIfInBounds_toArray, List.set_cons_zero, List.set_cons_succ]
      refine wpAnyH_take (i := 4) (oi := ⟨some 48, _, _, _, _, _⟩) (v := ?_) rfl (by kernel_rfl) (by kernel_rfl) (by kernel_rfl) (fun _ _ _ h => h) (Or.inl ⟨by rfl, ?_⟩) (by assumption) ?_
      rotate_left
      · intro w hSw
        try dsimp only at hSw
        go_simp
        try with_reducible rfl
      simp only [Act.put, List.setIfInBounds_toArray, List.set_cons_zero, List.set_cons_succ]
      refine wpAnyH_take (i := 5) (oi := ⟨some 49, _, _, _, _, _⟩) (v := ?_) rfl (by kernel_rfl) (by kernel_rfl) (by kernel_rfl) (fun _ _ _ h => h) (Or.inl ⟨by rfl, ?_⟩) (by assumption) ?_
      rotate_left
      · intro w hSw
        try dsimp only at hSw
        go_simp
        try with_reducible rfl
      simp only [Act.put, List.setIfInBounds_toArray, List.set_cons_zero, List.set_cons_succ]
      refine wpAnyH_ready (rs := [6]) (by kernel_rfl) (by simp) ?_
      refine AllReadyH.cons rfl (fun K hK => ?_) AllReadyH.nil
      go_simp
      go_wp2_with (first | (go_at_call 42; refine (HM.out _).mono ?_; rintro e w2 ⟨rfl, hb2⟩; have b2 := (hHeld.2.2.2).trans (hb2.mono (hHeld.2.2.2).size)))
      refine hK.out _ _ ?_ (fun hHeld => ?_)
      · try dsimp only
        exact HSx.out _ b2
      clear hK K
      refine wpAnyH_take (i := 7) (oi := ⟨some 51, _, _, _, _, _⟩) (v := ?_) rfl (by kernel_rfl) (by kernel_rfl) (by kernel_rfl) (fun _ _ _ h => h) (Or.inl ⟨by rfl, ?_⟩) (by assumption) ?_
      rotate_left
      · intro w hSw
        try dsimp only at hSw
        go_simp
        try with_reducible rfl
      simp only [Act.put, List.setIfInBounds_toArray, List.set_cons_zero, List.set_cons_succ]
      have HE := hidP (hHeld.2.2.2)
      refine wpAnyH_done (by kernel_rfl) ?_ _
      have u4 := hHeld.2.1
      have u5 := hHeld.2.2.1
      clear hHeld d4 d5
      go_wp2_with fail
      go_roundw
      case rel => exact ⟨i + 1, by omega, by go_num, by go_num, HBel.out.trans (HE.out.mono HBel.out.size)⟩
      case measure => simp [intOf]; omega
    · have hin : i = n := by omega
      subst hin
      clear hbel
      go_wp2
      go_ret
      exact ⟨rfl, HBel.out⟩

set_option maxHeartbeats 1000000 in
theorem markBook_any (a : Option Addr) (n c B : Nat) (T N : Int) (ls : List Ls) (k : Int) (w : World) (hn : n = ls.length) (h : OwnG KLs 47 w B (.slice a n c) ls) (hl : n ≤ 9000000) (k0 : 0 < k) (k1 : k ≤ 9000000000) :
    Calls Tryz.prog 10 #[.agg #[.slice a n c, .int .i64 T, .int .i64 N], .int .i64 k] w fun e w' => e = .returned (.int .i64 (k + 6 * n)) ∧ OwnG KLs 47 w' B (.slice a n c) (mksG (mkLs k) n) ∧ w.grownBy w' (Value.slice a n c).ownBlock := by
  have HM := hidP (fun W (h' : Below w.heap.size w W) => markLeaseS_any a n c B ls k W hn (h.later h') hl k0 k1)
  clear hn h
  go_enter Tryz.func10, Tryz.ntmps10
  go_wp2_with fail
  refine (HM.out _ (alloc_below w _)).mono ?_
  rintro e w2 ⟨rfl, ho, hg⟩
  have HO := hidP (And.intro ho hg)
  clear ho hg
  go_wp2_with fail
  go_ret
  exact ⟨rfl, HO.out.1, (grown_of (alloc_below w _) _).trans HO.out.2⟩

set_option maxHeartbeats 1000000 in
theorem heldBook_any (a : Option Addr) (n c : Nat) (T N : Int) (k : Int) (w : World) (h : RowG KLs w a (mksG (mkLs k) n)) (hl : n ≤ 9000000) (k0 : 0 < k) (k1 : k ≤ 9000000000) :
    Calls Tryz.prog 11 #[.agg #[.slice a n c, .int .i64 T, .int .i64 N], .int .i64 k] w fun e w' => e = .returned (.int .i64 (k + 6 * n)) ∧ Below w.heap.size w w' := by
  have HM := hidP (fun W (h' : Below w.heap.size w W) => heldLeaseS_any a c n k W (h.later h') hl k0 k1)
  have d1 : decide (k + 6 * (n : Int) < 0) = false := decide_eq_false (by omega)
  clear h
  go_enter Tryz.func11, Tryz.ntmps11
  go_wp2_with fail
  refine (HM.out _ (alloc_below w _)).mono ?_
  rintro e w2 ⟨rfl, hb2⟩
  have HB2 := hidP hb2
  clear hb2
  go_wp2_with fail
  go_ret
  exact ⟨rfl, (alloc_below w _).trans (HB2.out.mono (alloc_below w _).size)⟩

end Go.Proofs.YtafbekjpmjjlpaaGreatDoor
