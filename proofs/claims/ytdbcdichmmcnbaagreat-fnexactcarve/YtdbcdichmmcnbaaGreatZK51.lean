/-
  The laws' marks of rows of pools and blocks, and the looks whether they stand.
-/
import Derived.Test.YtdbcdichmmcnbaaGreatZK50
import Derived.Test.YtdbcdichmmcnbaaGreatZK17
import Derived.Test.YtdbcdichmmcnbaaGreatZK16
import Derived.Test.YtdbcdichmmcnbaaGreatZK21
import Derived.Test.YtdbcdichmmcnbaaGreatZK37
import Derived.Test.YtdbcdichmmcnbaaGreatZK1
namespace Go.Proofs.YtdbcdichmmcnbaaGreat
open Go.RowKit

/-- The marks of the j-th pool, and of the j-th block. -/
def mkPl (k : Int) (j : Nat) : Pl := ⟨⟨(k + 5 * (j : Int)) % 3 == 0, BitVec.ofInt 64 (k + 5 * (j : Int) + 1), BitVec.ofInt 64 (k + 5 * (j : Int) + 1 + 1), k + 5 * (j : Int) + 1 + 1 + 1⟩, k + 5 * (j : Int) + 1 + 1 + 1 + 1⟩
def mkBk (k : Int) (j : Nat) : Bk := ⟨⟨(k + 5 * (j : Int)) % 3 == 0, BitVec.ofInt 64 (k + 5 * (j : Int) + 1), BitVec.ofInt 64 (k + 5 * (j : Int) + 1 + 1), k + 5 * (j : Int) + 1 + 1 + 1⟩, mtT (k + 5 * (j : Int) + 1 + 1 + 1 + 1).toNat⟩
theorem ownsRow_later {w w' : World} {B k n : Nat} {t : TypeId} {v : Value} {xs : List Value} (h : w.ownsRow B t k v n xs) (hb : Below w.heap.size w w') : w'.ownsRow B t k v n xs := by
  refine ⟨h.1, ?_⟩
  rcases h.2 with h' | ⟨g, c, cur, h1, h2, h3, h4⟩
  · exact Or.inl h'
  · refine Or.inr ⟨g, c, cur, h1, h2, ?_, h4⟩
    have hg : g < w.heap.size := by
      rcases Nat.lt_or_ge g w.heap.size with h' | h'
      · exact h'
      · rw [Array.getElem?_eq_none h'] at h3; cases h3
    exact (hb.block g hg).trans h3
theorem grown_of {w w' : World} (h : Below w.heap.size w w') (r : Option Nat) : w.grownBy w' r := ⟨h.os, h.tape, h.output, h.size, fun k hk _ => h.block k hk⟩

set_option maxHeartbeats 2000000 in
theorem markPoolS_any (a : Option Addr) (n cap B : Nat) (ps : List Pl) (k : Int) (w : World) (hn : n = ps.length) (h : OwnG KPl 46 w B (.slice a n cap) ps) (hl : n ≤ 9000000000) (k0 : 0 < k) (k1 : k ≤ 9000000000) :
    Calls Tryz.prog 73 #[.slice a n cap, .int .i64 k] w fun e w' => e = .returned (.int .i64 (k + 5 * n)) ∧ OwnG KPl 46 w' B (.slice a n cap) (mksG (mkPl k) n) ∧ w.grownBy w' (Value.slice a n cap).ownBlock := by
  have hn' : ps.length = n := hn.symm
  clear hn
  by_cases h0 : n = 0
  · subst h0
    have HO := hidP h
    have HZ : Hid (ps = []) := List.length_eq_zero_iff.1 hn'
    clear h hn'
    go_enter Tryz.func73, Tryz.ntmps73
    go_wp2
    refine wp_loop_rounds 1 ?_
    rw [rounds_succ]
    go_wp2
    go_ret
    refine ⟨by simp, ?_, World.grownBy.refl _ _⟩
    have := HO.out; rw [HZ.out] at this; simpa [mksG] using this
  · obtain ⟨g, rfl⟩ : ∃ g, a = some ⟨g, 0, none⟩ := by
      rcases h.2 with ⟨hv, _⟩ | ⟨g, cap', cur, hv, _⟩
      · simp at hv; omega
      · simp at hv; exact ⟨g, hv.1⟩
    have HO : Hid (OwnG KPl 46 w B (.slice (some ⟨g, 0, none⟩) n cap) (mksG (mkPl k) 0 ++ ps.drop 0)) := by
      refine hidP ?_; simpa [mksG] using h
    have HN : Hid (ps.length = n) := hn'
    clear h hn'
    go_enter Tryz.func73, Tryz.ntmps73
    go_wp2
    go_loopw [1, 5] (fun t1 t5 wr => ∃ i : Nat, i ≤ n ∧ t5 = .int .i64 i ∧ t1 = .int .i64 (k + 5 * i) ∧ OwnG KPl 46 wr B (.slice (some ⟨g, 0, none⟩) n cap) (mksG (mkPl k) i ++ ps.drop i) ∧ w.grownBy wr (some g)) (fun _ t5 _ => n - (intOf t5).toNat)
    case atStart => exact ⟨0, Nat.zero_le _, rfl, by simp, HO.out, World.grownBy.refl _ _⟩
    case round =>
      obtain ⟨i, hi, rfl, rfl, hown, hgr⟩ := hrel
      have hlen : n = (mksG (mkPl k) i ++ ps.drop i).length := by rw [List.length_append, mksG_len, List.length_drop, HN.out]; omega
      by_cases hlt : i < n
      · obtain ⟨f0, f1, f2, f3, f4⟩ := frzPl hown i
        have e1 : (mkPl k i).p.H.toInt = k + 5 * (i : Int) + 1 := toI64 _ (by omega) (by omega)
        have e2 : (mkPl k i).p.L.toInt = k + 5 * (i : Int) + 1 + 1 := toI64 _ (by omega) (by omega)
        have e3 : (mkPl k i).p.b = k + 5 * (i : Int) + 1 + 1 + 1 := rfl
        have e0 : (mkPl k i).p.s = ((k + 5 * (i : Int)) % 3 == 0) := rfl
        have e4 : (mkPl k i).n = k + 5 * (i : Int) + 1 + 1 + 1 + 1 := rfl
        have hput' := putPl hown hlen i hlt (mkPl k i)
        rw [mksG_step (mkPl k) n i ps HN.out hlt, e0, e1, e2, e3, e4] at hput'
        clear e0 e1 e2 e3 e4
        obtain ⟨q', hp', _, c0, c1, c2, c3, c4⟩ := rowPl0 hown i (by rw [← hlen]; exact hlt)
        have HS := hidP hput'
        have HG := hidP hgr
        clear hown hgr HO hput' hlen
        go_wp2_with fail
        go_roundw
        case rel => exact ⟨i + 1, by omega, by go_num, by go_num, HS.out, ((((HG.out.trans (grown_cell _ g _ _)).trans (grown_cell _ g _ _)).trans (grown_cell _ g _ _)).trans (grown_cell _ g _ _)).trans (grown_cell _ g _ _)⟩
        case measure => simp [intOf]; omega
      · have hin : i = n := by omega
        subst hin
        have HS : Hid (OwnG KPl 46 wr B (.slice (some ⟨g, 0, none⟩) i cap) (mksG (mkPl k) i)) := by
          rw [List.drop_of_length_le (by rw [HN.out]; exact Nat.le_refl _), List.append_nil] at hown
          exact hidP hown
        have HG := hidP hgr
        clear hown hgr HO hlen
        go_wp2
        go_ret
        exact ⟨rfl, HS.out, HG.out⟩

set_option maxRecDepth 10000 in
set_option maxHeartbeats 1000000 in
theorem heldPoolS_any (a : Option Addr) (cap n : Nat) (k : Int) (w : World) (h : RowG KPl w a (mksG (mkPl k) n)) (hl : n ≤ 9000000000) (k0 : 0 < k) (k1 : k ≤ 9000000000) :
    Calls Tryz.prog 75 #[.slice a n cap, .int .i64 k] w fun e w' => e = .returned (.int .i64 (k + 5 * n)) ∧ Below w.heap.size w w' := by
  have HB := hidP h
  clear h
  go_enter Tryz.func75, Tryz.ntmps75
  go_wp2
  go_loopw [1, 5] (fun t1 t5 wr => ∃ i : Nat, i ≤ n ∧ t5 = .int .i64 i ∧ t1 = .int .i64 (k + 5 * i) ∧ Below w.heap.size w wr) (fun _ t5 _ => n - (intOf t5).toNat)
  case atStart => exact ⟨0, Nat.zero_le _, rfl, by simp, Below.refl _ _⟩
  case round =>
    obtain ⟨i, hi, rfl, rfl, hbel⟩ := hrel
    have HBel := hidP hbel
    by_cases hlt : i < n
    · obtain ⟨p, o, q, rfl, hp, hq, c0, c1, c2, c3, c4⟩ := rowPl HB.out i (by rw [mksG_len]; exact hlt)
      rw [mksG_at (mkPl k) n i hlt] at hq
      cases hq
      have e1 : (mkPl k i).p.H.toInt = k + 5 * (i : Int) + 1 := toI64 _ (by omega) (by omega)
      have e2 : (mkPl k i).p.L.toInt = k + 5 * (i : Int) + 1 + 1 := toI64 _ (by omega) (by omega)
      have d0 : wr.cell? ⟨p, o + i * 5, none⟩ = some (.bool ((k + 5 * (i : Int)) % 3 == 0)) := (hbel.cell hp).trans c0
      have d1 : wr.cell? ⟨p, o + i * 5 + 1, none⟩ = some (.int .i64 (k + 5 * (i : Int) + 1)) := by rw [← e1]; exact (hbel.cell hp).trans c1
      have d2 : wr.cell? ⟨p, o + i * 5 + 2, none⟩ = some (.int .i64 (k + 5 * (i : Int) + 1 + 1)) := by rw [← e2]; exact (hbel.cell hp).trans c2
      have d3 : wr.cell? ⟨p, o + i * 5 + 3, none⟩ = some (.int .i64 (k + 5 * (i : Int) + 1 + 1 + 1)) := (hbel.cell hp).trans c3
      have d4 : wr.cell? ⟨p, o + i * 5 + 4, none⟩ = some (.int .i64 (k + 5 * (i : Int) + 1 + 1 + 1 + 1)) := (hbel.cell hp).trans c4
      have dL : p < wr.heap.size := Nat.lt_of_lt_of_le hp hbel.size
      clear e1 e2 c0 c1 c2 c3 c4 hbel
      go_wp2
      go_roundw
      case rel => exact ⟨i + 1, by omega, by go_num, by go_num, HBel.out⟩
      case measure => simp [intOf]; omega
    · have hin : i = n := by omega
      subst hin
      clear hbel
      go_wp2
      go_ret
      exact ⟨rfl, HBel.out⟩

set_option maxHeartbeats 2000000 in
theorem markBlockS_any (a : Option Addr) (n cap B : Nat) (ps : List Bk) (k : Int) (w : World) (hn : n = ps.length) (h : OwnG KBk 38 w B (.slice a n cap) ps) (hl : n ≤ 9000000000) (k0 : 0 < k) (k1 : k ≤ 9000000000) :
    Calls Tryz.prog 74 #[.slice a n cap, .int .i64 k] w fun e w' => e = .returned (.int .i64 (k + 5 * n)) ∧ OwnG KBk 38 w' B (.slice a n cap) (mksG (mkBk k) n) ∧ w.grownBy w' (Value.slice a n cap).ownBlock := by
  have hn' : ps.length = n := hn.symm
  clear hn
  by_cases h0 : n = 0
  · subst h0
    have HO := hidP h
    have HZ : Hid (ps = []) := List.length_eq_zero_iff.1 hn'
    clear h hn'
    go_enter Tryz.func74, Tryz.ntmps74
    go_wp2
    refine wp_loop_rounds 1 ?_
    rw [rounds_succ]
    go_wp2
    go_ret
    refine ⟨by simp, ?_, World.grownBy.refl _ _⟩
    have := HO.out; rw [HZ.out] at this; simpa [mksG] using this
  · obtain ⟨g, rfl⟩ : ∃ g, a = some ⟨g, 0, none⟩ := by
      rcases h.2 with ⟨hv, _⟩ | ⟨g, cap', cur, hv, _⟩
      · simp at hv; omega
      · simp at hv; exact ⟨g, hv.1⟩
    have HO : Hid (OwnG KBk 38 w B (.slice (some ⟨g, 0, none⟩) n cap) (mksG (mkBk k) 0 ++ ps.drop 0)) := by
      refine hidP ?_; simpa [mksG] using h
    have HN : Hid (ps.length = n) := hn'
    clear h hn'
    go_enter Tryz.func74, Tryz.ntmps74
    go_wp2
    go_loopw [1, 5] (fun t1 t5 wr => ∃ i : Nat, i ≤ n ∧ t5 = .int .i64 i ∧ t1 = .int .i64 (k + 5 * i) ∧ OwnG KBk 38 wr B (.slice (some ⟨g, 0, none⟩) n cap) (mksG (mkBk k) i ++ ps.drop i) ∧ w.grownBy wr (some g)) (fun _ t5 _ => n - (intOf t5).toNat)
    case atStart => exact ⟨0, Nat.zero_le _, rfl, by simp, HO.out, World.grownBy.refl _ _⟩
    case round =>
      obtain ⟨i, hi, rfl, rfl, hown, hgr⟩ := hrel
      have hlen : n = (mksG (mkBk k) i ++ ps.drop i).length := by rw [List.length_append, mksG_len, List.length_drop, HN.out]; omega
      by_cases hlt : i < n
      · obtain ⟨f0, f1, f2, f3, f4⟩ := frzBk hown i
        have e1 : (mkBk k i).p.H.toInt = k + 5 * (i : Int) + 1 := toI64 _ (by omega) (by omega)
        have e2 : (mkBk k i).p.L.toInt = k + 5 * (i : Int) + 1 + 1 := toI64 _ (by omega) (by omega)
        have e3 : (mkBk k i).p.b = k + 5 * (i : Int) + 1 + 1 + 1 := rfl
        have e0 : (mkBk k i).p.s = ((k + 5 * (i : Int)) % 3 == 0) := rfl
        have hcs : KBk.cs (mkBk k i) = [.bool ((k + 5 * (i : Int)) % 3 == 0), .int .i64 (k + 5 * (i : Int) + 1), .int .i64 (k + 5 * (i : Int) + 1 + 1), .int .i64 (k + 5 * (i : Int) + 1 + 1 + 1)] ++ [.string (mtT (k + 5 * (i : Int) + 1 + 1 + 1 + 1).toNat)] := by
          show ([.bool (mkBk k i).p.s, .int .i64 (mkBk k i).p.H.toInt, .int .i64 (mkBk k i).p.L.toInt, .int .i64 (mkBk k i).p.b, .string (mkBk k i).t] : List Value) = _
          rw [e0, e1, e2, e3]; rfl
        have hfl := gflat_set KBk (mksG (mkBk k) i ++ ps.drop i) i (mkBk k i) (by rw [← hlen]; exact hlt)
        rw [mksG_step (mkBk k) n i ps HN.out hlt, hcs] at hfl
        have hlen2 : (mksG (mkBk k) (i + 1) ++ ps.drop (i + 1)).length = n := by rw [List.length_append, mksG_len, List.length_drop, HN.out]; omega
        have hraw : wr.ownsRow B 38 5 (.slice (some ⟨g, 0, none⟩) n cap) n (gflat KBk (mksG (mkBk k) i ++ ps.drop i)) := by
          have := hown; unfold OwnG at this; rw [← hlen] at this; exact this
        have h4 := puts_own [.bool ((k + 5 * (i : Int)) % 3 == 0), .int .i64 (k + 5 * (i : Int) + 1), .int .i64 (k + 5 * (i : Int) + 1 + 1), .int .i64 (k + 5 * (i : Int) + 1 + 1 + 1)] wr _ (i * 5) hraw
        obtain ⟨q', hp', _, c0, c1, c2, c3, c4⟩ := rowBk0 hown i (by rw [← hlen]; exact hlt)
        have c4' := World.ownsRow.cellAt h4 (i * 5 + 4) (by omega)
        have HF := hidP hfl
        have H4 := hidP h4
        have HL2 := hidP hlen2
        have HG := hidP hgr
        have HM := hidP (markText_int (k + 5 * (i : Int) + 1 + 1 + 1 + 1) (by omega) (by omega))
        have F4 := hidP (fun (w2 : World) (hb : Below ((((wr.setCell ⟨g, i * 5, none⟩ (.bool ((k + 5 * (i : Int)) % 3 == 0))).setCell ⟨g, i * 5 + 1, none⟩ (.int .i64 (k + 5 * (i : Int) + 1))).setCell ⟨g, i * 5 + 2, none⟩ (.int .i64 (k + 5 * (i : Int) + 1 + 1))).setCell ⟨g, i * 5 + 3, none⟩ (.int .i64 (k + 5 * (i : Int) + 1 + 1 + 1))).heap.size ((((wr.setCell ⟨g, i * 5, none⟩ (.bool ((k + 5 * (i : Int)) % 3 == 0))).setCell ⟨g, i * 5 + 1, none⟩ (.int .i64 (k + 5 * (i : Int) + 1))).setCell ⟨g, i * 5 + 2, none⟩ (.int .i64 (k + 5 * (i : Int) + 1 + 1))).setCell ⟨g, i * 5 + 3, none⟩ (.int .i64 (k + 5 * (i : Int) + 1 + 1 + 1))) w2) => And.intro (World.ownsRow.stored (ownsRow_later (show ((((wr.setCell ⟨g, i * 5, none⟩ (.bool ((k + 5 * (i : Int)) % 3 == 0))).setCell ⟨g, i * 5 + 1, none⟩ (.int .i64 (k + 5 * (i : Int) + 1))).setCell ⟨g, i * 5 + 2, none⟩ (.int .i64 (k + 5 * (i : Int) + 1 + 1))).setCell ⟨g, i * 5 + 3, none⟩ (.int .i64 (k + 5 * (i : Int) + 1 + 1 + 1))).ownsRow B 38 5 (.slice (some ⟨g, 0, none⟩) n cap) n _ from h4) hb) (i * 5 + 4) (.string (mtT (k + 5 * (i : Int) + 1 + 1 + 1 + 1).toNat))).1 (World.ownsRow.frozenAt (ownsRow_later (show ((((wr.setCell ⟨g, i * 5, none⟩ (.bool ((k + 5 * (i : Int)) % 3 == 0))).setCell ⟨g, i * 5 + 1, none⟩ (.int .i64 (k + 5 * (i : Int) + 1))).setCell ⟨g, i * 5 + 2, none⟩ (.int .i64 (k + 5 * (i : Int) + 1 + 1))).setCell ⟨g, i * 5 + 3, none⟩ (.int .i64 (k + 5 * (i : Int) + 1 + 1 + 1))).ownsRow B 38 5 (.slice (some ⟨g, 0, none⟩) n cap) n _ from h4) hb) (i * 5 + 4)))
        have hg4 : g < ((((wr.setCell ⟨g, i * 5, none⟩ (.bool ((k + 5 * (i : Int)) % 3 == 0))).setCell ⟨g, i * 5 + 1, none⟩ (.int .i64 (k + 5 * (i : Int) + 1))).setCell ⟨g, i * 5 + 2, none⟩ (.int .i64 (k + 5 * (i : Int) + 1 + 1))).setCell ⟨g, i * 5 + 3, none⟩ (.int .i64 (k + 5 * (i : Int) + 1 + 1 + 1))).heap.size := by simp; exact hp'
        have c4s : ((((wr.setCell ⟨g, i * 5, none⟩ (.bool ((k + 5 * (i : Int)) % 3 == 0))).setCell ⟨g, i * 5 + 1, none⟩ (.int .i64 (k + 5 * (i : Int) + 1))).setCell ⟨g, i * 5 + 2, none⟩ (.int .i64 (k + 5 * (i : Int) + 1 + 1))).setCell ⟨g, i * 5 + 3, none⟩ (.int .i64 (k + 5 * (i : Int) + 1 + 1 + 1))).cell? ⟨g, i * 5 + 4, none⟩ = some (.string q'.t) := by simp [go_sem, c4]
        have C4 := hidP (And.intro hg4 c4s)
        clear hown hgr HO hlen e0 e1 e2 e3 hcs hfl hraw h4 hlen2 c4' hg4 c4s
        go_wp2_with fail
        refine (HM.out _).mono ?_
        rintro e w2 ⟨rfl, hb2⟩
        have c4t := (hb2.cell C4.out.1).trans C4.out.2
        have fz := (F4.out w2 hb2).2
        have HS := hidP (F4.out w2 hb2).1
        have HG2 := hidP (((((HG.out.trans (grown_cell _ g _ _)).trans (grown_cell _ g _ _)).trans (grown_cell _ g _ _)).trans (grown_cell _ g _ _)).trans (grown_of hb2 (some g)))
        clear hb2 F4
        go_wp2_with fail
        go_roundw
        case rel =>
          refine ⟨i + 1, by omega, by go_num, by go_num, ?_, HG2.out.trans (grown_cell _ g _ _)⟩
          unfold OwnG
          rw [HL2.out, ← HF.out]
          exact HS.out
        case measure => simp [intOf]; omega
      · have hin : i = n := by omega
        subst hin
        have HS : Hid (OwnG KBk 38 wr B (.slice (some ⟨g, 0, none⟩) i cap) (mksG (mkBk k) i)) := by
          rw [List.drop_of_length_le (by rw [HN.out]; exact Nat.le_refl _), List.append_nil] at hown
          exact hidP hown
        have HG := hidP hgr
        clear hown hgr HO hlen
        go_wp2
        go_ret
        exact ⟨rfl, HS.out, HG.out⟩

set_option maxRecDepth 10000 in
set_option maxHeartbeats 1000000 in
theorem heldBlockS_any (a : Option Addr) (cap n : Nat) (k : Int) (w : World) (h : RowG KBk w a (mksG (mkBk k) n)) (hl : n ≤ 9000000000) (k0 : 0 < k) (k1 : k ≤ 9000000000) :
    Calls Tryz.prog 76 #[.slice a n cap, .int .i64 k] w fun e w' => e = .returned (.int .i64 (k + 5 * n)) ∧ Below w.heap.size w w' := by
  have HB := hidP h
  clear h
  go_enter Tryz.func76, Tryz.ntmps76
  go_wp2
  go_loopw [1, 5] (fun t1 t5 wr => ∃ i : Nat, i ≤ n ∧ t5 = .int .i64 i ∧ t1 = .int .i64 (k + 5 * i) ∧ Below w.heap.size w wr) (fun _ t5 _ => n - (intOf t5).toNat)
  case atStart => exact ⟨0, Nat.zero_le _, rfl, by simp, Below.refl _ _⟩
  case round =>
    obtain ⟨i, hi, rfl, rfl, hbel⟩ := hrel
    have HBel := hidP hbel
    by_cases hlt : i < n
    · obtain ⟨p, o, q, rfl, hp, hq, c0, c1, c2, c3, c4⟩ := rowBk HB.out i (by rw [mksG_len]; exact hlt)
      rw [mksG_at (mkBk k) n i hlt] at hq
      cases hq
      have e1 : (mkBk k i).p.H.toInt = k + 5 * (i : Int) + 1 := toI64 _ (by omega) (by omega)
      have e2 : (mkBk k i).p.L.toInt = k + 5 * (i : Int) + 1 + 1 := toI64 _ (by omega) (by omega)
      have d0 : wr.cell? ⟨p, o + i * 5, none⟩ = some (.bool ((k + 5 * (i : Int)) % 3 == 0)) := (hbel.cell hp).trans c0
      have d1 : wr.cell? ⟨p, o + i * 5 + 1, none⟩ = some (.int .i64 (k + 5 * (i : Int) + 1)) := by rw [← e1]; exact (hbel.cell hp).trans c1
      have d2 : wr.cell? ⟨p, o + i * 5 + 2, none⟩ = some (.int .i64 (k + 5 * (i : Int) + 1 + 1)) := by rw [← e2]; exact (hbel.cell hp).trans c2
      have d3 : wr.cell? ⟨p, o + i * 5 + 3, none⟩ = some (.int .i64 (k + 5 * (i : Int) + 1 + 1 + 1)) := (hbel.cell hp).trans c3
      have d4 : wr.cell? ⟨p, o + i * 5 + 4, none⟩ = some (.string (mtT (k + 5 * (i : Int) + 1 + 1 + 1 + 1).toNat)) := (hbel.cell hp).trans c4
      have dL : p < wr.heap.size := Nat.lt_of_lt_of_le hp hbel.size
      clear e1 e2 c0 c1 c2 c3 c4 hbel
      have HM := hidP (markText_int (k + 5 * (i : Int) + 1 + 1 + 1 + 1) (by omega) (by omega))
      go_wp2_with fail
      have HSx : Hid (∀ x, Below wr.heap.size wr x → (x.cell? ⟨p, o + i * 5 + 4, none⟩ = some (.string (mtT (k + 5 * (i : Int) + 1 + 1 + 1 + 1).toNat)) ∧ Below wr.heap.size wr x)) := hidP fun x h =>
        ⟨(h.cell dL).trans d4, h⟩
      refine wp_region_held_drew (S := (fun x => x.cell? ⟨p, o + i * 5 + 4, none⟩ = some (.string (mtT (k + 5 * (i : Int) + 1 + 1 + 1 + 1).toNat)) ∧ Below wr.heap.size wr x)) (by kernel_rfl) ?_ (fun hHeld => ?_)
      · try dsimp only
        exact HSx.out _ (Below.refl _ _).drew
      refine tk 0 57 rfl ?_
      simp only [pa]
      refine tk 1 58 rfl ?_
      simp only [pa]
      refine tk 2 59 rfl ?_
      simp only [pa]
      refine tk 3 60 rfl ?_
      simp only [pa]
      refine tk 4 61 rfl ?_
      simp only [pa]
      refine tk 5 62 rfl ?_
      simp only [pa]
      refine wpAnyH_ready (rs := [6]) (by kernel_rfl) (by simp) ?_
      refine AllReadyH.cons rfl (fun K hK => ?_) AllReadyH.nil
      go_simp
      go_wp2_with (first | (go_at_call 114; refine (HM.out _).mono ?_; rintro e w2 ⟨rfl, hb2⟩; have b2 := (hHeld.2).trans (hb2.mono (hHeld.2).size)))
      refine hK.out _ _ ?_ (fun hHeld => ?_)
      · try dsimp only
        exact HSx.out _ b2
      clear hK K
      refine tk 7 64 rfl ?_
      simp only [pa]
      have HE := hidP (hHeld.2)
      refine wpAnyH_done (by kernel_rfl) ?_ _
      clear hHeld
      go_wp2_with fail
      go_roundw
      case rel => exact ⟨i + 1, by omega, by go_num, by go_num, HBel.out.trans (HE.out.mono HBel.out.size)⟩
      case measure => simp [intOf]; omega
    · have hin : i = n := by omega
      subst hin
      clear hbel
      go_wp2
      go_ret
      exact ⟨rfl, HBel.out⟩

end Go.Proofs.YtdbcdichmmcnbaaGreat
