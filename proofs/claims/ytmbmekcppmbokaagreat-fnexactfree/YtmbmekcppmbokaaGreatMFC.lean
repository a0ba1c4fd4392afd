/-
  The laws' markText: the figures of a number behind an m; nothing old in memory turns.
-/
import Derived.Test.YtmbmekcppmbokaaGreatGRow
import Derived.Laws.BytesArg
import Derived.Test.YtmbmekcppmbokaaGreatPTo
import Derived.Test.YtmbmekcppmbokaaGreatBEqP
import Derived.Test.YtmbmekcppmbokaaGreatRPool
import Derived.Test.YtmbmekcppmbokaaGreatRBlock
import Derived.Test.YtmbmekcppmbokaaGreatVPool
import Derived.Test.YtmbmekcppmbokaaGreatVBlocks
import Derived.Test.YtmbmekcppmbokaaGreatMFB
import Derived.ProofKit
import Derived.Lib.SmallJoins
import Derived.Carry
import Derived.Deep.Slices
import Derived.ChangeMaps5
import Derived.Deep.DeepCutAuto
import Derived.Test.YtmbmekcppmbokaaGreatPOpen
namespace Go.Proofs.YtmbmekcppmbokaaGreat
open Go.RowKit

/-- The figures of k ahead of out. -/
def mtR (k : Nat) (out : ByteArray) : ByteArray := if _h : k = 0 then out else mtR (k / 10) (strOfNums [48 + (k : Int) % 10] ++ out)
  termination_by k
  decreasing_by omega
theorem mtR_zero (out : ByteArray) : mtR 0 out = out := by unfold mtR; rw [dif_pos rfl]
theorem mtR_step {k : Nat} (h : k ≠ 0) (out : ByteArray) : mtR k out = mtR (k / 10) (strOfNums [48 + (k : Int) % 10] ++ out) := by conv => lhs; unfold mtR; rw [dif_neg h]
def mtT (k : Nat) : ByteArray := ⟨#[109]⟩ ++ mtR k ⟨#[]⟩
theorem ret_ba9 {a b : ByteArray} (h : a = b) : Ending.returned (.string a) = .returned (.string b) := by rw [h]
theorem ba_size (a b : ByteArray) : (a ++ b).size = a.size + b.size := by simp

theorem cvt1 (w : World) (c : Int) : (convert 127 9 (.slice (some ⟨w.heap.size, 0, none⟩) 1 1)).run Tryz.prog (w.alloc (.cells #[.int .u8 c] 5)) = .ok (.string (strOfNums [c])) (w.alloc (.cells #[.int .u8 c] 5)) :=
  run_convert_bytes_arg _ 127 5 Tryz.underlying127 Tryz.underlying5 w.heap.size 0 1 1 [c] rfl (by
    intro i hi
    have : i = 0 := by omega
    subst this
    simp [go_sem]) 9 Tryz.underlying9

set_option maxHeartbeats 1000000 in
theorem markText_any (k : Nat) (hk : 0 < k) (h9 : k ≤ 90000000000) (w : World) :
    Calls Tryz.prog 74 #[.int .i64 k] w fun e w' => e = .returned (.string (mtT k)) ∧ Below w.heap.size w w' := by
  have d1 : decide ((k : Int) ≤ 0) = false := decide_eq_false (by omega)
  go_enter Tryz.func74, Tryz.ntmps74
  go_wp2_with fail
  go_loopw [0, 3] (fun t0 t3 wr => ∃ (J : Int) (m : Nat) (out : ByteArray), t0 = .int .i64 J ∧ t3 = .string out ∧ 0 ≤ J ∧ J ≤ 90000000000 ∧ J.toNat < 10 ^ m ∧ out.size + m ≤ 20 ∧ mtR k ⟨#[]⟩ = mtR J.toNat out ∧ Below w.heap.size w wr) (fun t0 _ _ => (intOf t0).toNat)
  case atStart => exact ⟨k, 19, ⟨#[]⟩, rfl, rfl, by omega, by omega, by omega, by show 0 + 19 ≤ 20; omega, rfl, Below.refl _ _⟩
  case round =>
    obtain ⟨J, m, out, rfl, rfl, hJ0, hj9, hjm, hsz, heq, hbel⟩ := hrel
    have HM := hidP (And.intro hjm hsz)
    have hsz2 : out.size ≤ 20 := by omega
    clear hjm hsz
    by_cases h0 : J = 0
    · subst h0
      have HE : Hid (mtR k ⟨#[]⟩ = out) := hidP (heq.trans (mtR_zero out))
      have HB := hidP hbel
      clear heq hbel
      go_wp2_with fail
      go_ret
      exact ⟨ret_ba9 (by unfold mtT; rw [HE.out]), HB.out⟩
    · have g1 : decide ((0 : Int) < J) = true := decide_eq_true (by omega)
      have hst := mtR_step (k := J.toNat) (by omega) out
      rw [show ((J.toNat : Nat) : Int) = J by omega] at hst
      rw [hst] at heq
      clear hst
      have HE := hidP heq
      have HB := hidP hbel
      have hcv := cvt1 wr (48 + J % 10)
      have hw8 : IntKind.u8.wrap (48 + J % 10) = 48 + J % 10 := by simp [IntKind.wrap, IntKind.bits, IntKind.signed]; omega
      have hss : (strOfNums [48 + J % 10]).size = 1 := rfl
      clear heq hbel
      have HJ := hidP (And.intro hJ0 hj9)
      go_wp2_with fail
      go_roundw
      case rel =>
        have h10 : (J / 10).toNat = J.toNat / 10 := by have := HJ.out; omega
        have hm : m ≠ 0 := by
          intro h; have h1 := HM.out.1; rw [h] at h1; have h2 := HJ.out; omega
        refine ⟨J / 10, m - 1, _, rfl, rfl, by have := HJ.out; omega, by have := HJ.out; omega, ?_, ?_, ?_, HB.out.alloc HB.out.size _⟩
        · rw [h10]
          apply Nat.div_lt_of_lt_mul
          have := HM.out.1
          rw [show m = (m - 1) + 1 by omega, Nat.pow_succ, Nat.mul_comm] at this
          exact this
        · rw [ba_size, hss]; have := HM.out.2; omega
        · rw [h10]; exact HE.out
      case measure => simp [intOf]; have := HJ.out; omega

theorem markText_int (J : Int) (h0 : 0 < J) (h9 : J ≤ 90000000000) (w : World) :
    Calls Tryz.prog 74 #[.int .i64 J] w fun e w' => e = .returned (.string (mtT J.toNat)) ∧ Below w.heap.size w w' := by
  have := markText_any J.toNat (by omega) (by omega) w
  rw [show ((J.toNat : Nat) : Int) = J by omega] at this
  exact this

end Go.Proofs.YtmbmekcppmbokaaGreat

/-
  The laws' look at two rows of prefixes that are alike, the marks, and the look whether they stand.
-/
namespace Go.Proofs.YtmbmekcppmbokaaGreat
open Go.RowKit

/-- The marks of the j-th prefix. -/
def mkP (k : Int) (j : Nat) : Pf := ⟨(k + 4 * (j : Int)) % 3 == 0, BitVec.ofInt 64 (k + 4 * (j : Int) + 1), BitVec.ofInt 64 (k + 4 * (j : Int) + 1 + 1), k + 4 * (j : Int) + 1 + 1 + 1⟩
def mksP (k : Int) (n : Nat) : List Pf := (List.range n).map (mkP k)
theorem mksP_len (k : Int) (n : Nat) : (mksP k n).length = n := by simp [mksP]
theorem mksP_at (k : Int) (n j : Nat) (h : j < n) : (mksP k n)[j]? = some (mkP k j) := by simp [mksP, h]
theorem mksP_step (k : Int) (n i : Nat) (ps : List Pf) (hl : ps.length = n) (hi : i < n) : (mksP k i ++ ps.drop i).set i (mkP k i) = mksP k (i + 1) ++ ps.drop (i + 1) := by
  have e : mksP k (i + 1) = mksP k i ++ [mkP k i] := by simp [mksP, List.range_succ]
  have hd : ps.drop i = ps[i] :: ps.drop (i + 1) := List.drop_eq_getElem_cons (by omega)
  rw [e, hd, List.set_append_right _ _ (by simp [mksP])]
  have e0 : i - (mksP k i).length = 0 := by rw [mksP_len]; omega
  rw [e0, List.set_cons_zero, List.append_assoc]
  rfl
theorem toI64 (x : Int) (h0 : 0 ≤ x) (h1 : x ≤ 90000000000) : (BitVec.ofInt 64 x).toInt = x := by
  rw [BitVec.toInt_ofInt, Int.bmod_def]
  split <;> omega

theorem grown_cell (w : World) (g o : Nat) (v : Value) : w.grownBy (w.setCell ⟨g, o, none⟩ v) (some g) :=
  ⟨rfl, rfl, rfl, by simp, fun k _ hk => heap_setCell_other w ⟨g, o, none⟩ k v (fun e => hk (by simp [e]))⟩

end Go.Proofs.YtmbmekcppmbokaaGreat

/-
  The laws' marks of rows of pools and blocks, and the looks whether they stand.
-/
namespace Go.Proofs.YtmbmekcppmbokaaGreat
open Go.RowKit

/-- The marks of the j-th pool, and of the j-th block. -/
def mkPl (k : Int) (j : Nat) : Pl := ⟨⟨(k + 5 * (j : Int)) % 3 == 0, BitVec.ofInt 64 (k + 5 * (j : Int) + 1), BitVec.ofInt 64 (k + 5 * (j : Int) + 1 + 1), k + 5 * (j : Int) + 1 + 1 + 1⟩, k + 5 * (j : Int) + 1 + 1 + 1 + 1⟩
def mkBk (k : Int) (j : Nat) : Bk := ⟨⟨(k + 5 * (j : Int)) % 3 == 0, BitVec.ofInt 64 (k + 5 * (j : Int) + 1), BitVec.ofInt 64 (k + 5 * (j : Int) + 1 + 1), k + 5 * (j : Int) + 1 + 1 + 1⟩, mtT (k + 5 * (j : Int) + 1 + 1 + 1 + 1).toNat⟩
theorem ownsRow_later {w w' : World} {B k n : Nat} {t : TypeId} {v : Value} {xs : List Value} (h : w.ownsRow B t k v n xs) (hb : Below w.heap.size w w') : w'.ownsRow B t k v n xs := by
  refine ⟨h.1, ?_⟩
  rcases h.2 with h' | ⟨g, c, cur, h1, h2, h3, h4⟩
  · exact Or.inl h'
  · refine Or.inr ⟨g, c, cur, h1, h2, ?_, h4⟩
    have hg : g < w.heap.size := by
      rcases Nat.lt_or_ge g w.heap.size with h' | h'
      · exact h'
      · rw [Array.getElem?_eq_none h'] at h3; cases h3
    exact (hb.block g hg).trans h3
theorem grown_of {w w' : World} (h : Below w.heap.size w w') (r : Option Nat) : w.grownBy w' r := ⟨h.os, h.tape, h.output, h.size, fun k hk _ => h.block k hk⟩

set_option maxHeartbeats 2000000 in
theorem markPoolS_any (a : Option Addr) (n cap B : Nat) (ps : List Pl) (k : Int) (w : World) (hn : n = ps.length) (h : OwnG KPl 60 w B (.slice a n cap) ps) (hl : n ≤ 9000000000) (k0 : 0 < k) (k1 : k ≤ 9000000000) :
    Calls Tryz.prog 41 #[.slice a n cap, .int .i64 k] w fun e w' => e = .returned (.int .i64 (k + 5 * n)) ∧ OwnG KPl 60 w' B (.slice a n cap) (mksG (mkPl k) n) ∧ w.grownBy w' (Value.slice a n cap).ownBlock := by
  have hn' : ps.length = n := hn.symm
  clear hn
  by_cases h0 : n = 0
  · subst h0
    have HO := hidP h
    have HZ : Hid (ps = []) := List.length_eq_zero_iff.1 hn'
    clear h hn'
    go_enter Tryz.func41, Tryz.ntmps41
    go_wp2
    refine wp_loop_rounds 1 ?_
    rw [rounds_succ]
    go_wp2
    go_ret
    refine ⟨by simp, ?_, World.grownBy.refl _ _⟩
    have := HO.out; rw [HZ.out] at this; simpa [mksG] using this
  · obtain ⟨g, rfl⟩ : ∃ g, a = some ⟨g, 0, none⟩ := by
      rcases h.2 with ⟨hv, _⟩ | ⟨g, cap', cur, hv, _⟩
      · simp at hv; omega
      · simp at hv; exact ⟨g, hv.1⟩
    have HO : Hid (OwnG KPl 60 w B (.slice (some ⟨g, 0, none⟩) n cap) (mksG (mkPl k) 0 ++ ps.drop 0)) := by
      refine hidP ?_; simpa [mksG] using h
    have HN : Hid (ps.length = n) := hn'
    clear h hn'
    go_enter Tryz.func41, Tryz.ntmps41
    go_wp2
    go_loopw [1, 5] (fun t1 t5 wr => ∃ i : Nat, i ≤ n ∧ t5 = .int .i64 i ∧ t1 = .int .i64 (k + 5 * i) ∧ OwnG KPl 60 wr B (.slice (some ⟨g, 0, none⟩) n cap) (mksG (mkPl k) i ++ ps.drop i) ∧ w.grownBy wr (some g)) (fun _ t5 _ => n - (intOf t5).toNat)
    case atStart => exact ⟨0, Nat.zero_le _, rfl, by simp, HO.out, World.grownBy.refl _ _⟩
    case round =>
      obtain ⟨i, hi, rfl, rfl, hown, hgr⟩ := hrel
      have hlen : n = (mksG (mkPl k) i ++ ps.drop i).length := by rw [List.length_append, mksG_len, List.length_drop, HN.out]; omega
      by_cases hlt : i < n
      · obtain ⟨f0, f1, f2, f3, f4⟩ := frzPl hown i
        have e1 : (mkPl k i).p.H.toInt = k + 5 * (i : Int) + 1 := toI64 _ (by omega) (by omega)
        have e2 : (mkPl k i).p.L.toInt = k + 5 * (i : Int) + 1 + 1 := toI64 _ (by omega) (by omega)
        have e3 : (mkPl k i).p.b = k + 5 * (i : Int) + 1 + 1 + 1 := rfl
        have e0 : (mkPl k i).p.s = ((k + 5 * (i : Int)) % 3 == 0) := rfl
        have e4 : (mkPl k i).n = k + 5 * (i : Int) + 1 + 1 + 1 + 1 := rfl
        have hput' := putPl hown hlen i hlt (mkPl k i)
        rw [mksG_step (mkPl k) n i ps HN.out hlt, e0, e1, e2, e3, e4] at hput'
        clear e0 e1 e2 e3 e4
        obtain ⟨q', hp', _, c0, c1, c2, c3, c4⟩ := rowPl0 hown i (by rw [← hlen]; exact hlt)
        have HS := hidP hput'
        have HG := hidP hgr
        clear hown hgr HO hput' hlen
        go_wp2_with fail
        go_roundw
        case rel => exact ⟨i + 1, by omega, by go_num, by go_num, HS.out, ((((HG.out.trans (grown_cell _ g _ _)).trans (grown_cell _ g _ _)).trans (grown_cell _ g _ _)).trans (grown_cell _ g _ _)).trans (grown_cell _ g _ _)⟩
        case measure => simp [intOf]; omega
      · have hin : i = n := by omega
        subst hin
        have HS : Hid (OwnG KPl 60 wr B (.slice (some ⟨g, 0, none⟩) i cap) (mksG (mkPl k) i)) := by
          rw [List.drop_of_length_le (by rw [HN.out]; exact Nat.le_refl _), List.append_nil] at hown
          exact hidP hown
        have HG := hidP hgr
        clear hown hgr HO hlen
        go_wp2
        go_ret
        exact ⟨rfl, HS.out, HG.out⟩

set_option maxRecDepth 10000 in
set_option maxHeartbeats 1000000 in
theorem heldPoolS_any (a : Option Addr) (cap n : Nat) (k : Int) (w : World) (h : RowG KPl w a (mksG (mkPl k) n)) (hl : n ≤ 9000000000) (k0 : 0 < k) (k1 : k ≤ 9000000000) :
    Calls Tryz.prog 43 #[.slice a n cap, .int .i64 k] w fun e w' => e = .returned (.int .i64 (k + 5 * n)) ∧ Below w.heap.size w w' := by
  have HB := hidP h
  clear h
  go_enter Tryz.func43, Tryz.ntmps43
  go_wp2
  go_loopw [1, 5] (fun t1 t5 wr => ∃ i : Nat, i ≤ n ∧ t5 = .int .i64 i ∧ t1 = .int .i64 (k + 5 * i) ∧ Below w.heap.size w wr) (fun _ t5 _ => n - (intOf t5).toNat)
  case atStart => exact ⟨0, Nat.zero_le _, rfl, by simp, Below.refl _ _⟩
  case round =>
    obtain ⟨i, hi, rfl, rfl, hbel⟩ := hrel
    have HBel := hidP hbel
    by_cases hlt : i < n
    · obtain ⟨p, o, q, rfl, hp, hq, c0, c1, c2, c3, c4⟩ := rowPl HB.out i (by rw [mksG_len]; exact hlt)
      rw [mksG_at (mkPl k) n i hlt] at hq
      cases hq
      have e1 : (mkPl k i).p.H.toInt = k + 5 * (i : Int) + 1 := toI64 _ (by omega) (by omega)
      have e2 : (mkPl k i).p.L.toInt = k + 5 * (i : Int) + 1 + 1 := toI64 _ (by omega) (by omega)
      have d0 : wr.cell? ⟨p, o + i * 5, none⟩ = some (.bool ((k + 5 * (i : Int)) % 3 == 0)) := (hbel.cell hp).trans c0
      have d1 : wr.cell? ⟨p, o + i * 5 + 1, none⟩ = some (.int .i64 (k + 5 * (i : Int) + 1)) := by rw [← e1]; exact (hbel.cell hp).trans c1
      have d2 : wr.cell? ⟨p, o + i * 5 + 2, none⟩ = some (.int .i64 (k + 5 * (i : Int) + 1 + 1)) := by rw [← e2]; exact (hbel.cell hp).trans c2
      have d3 : wr.cell? ⟨p, o + i * 5 + 3, none⟩ = some (.int .i64 (k + 5 * (i : Int) + 1 + 1 + 1)) := (hbel.cell hp).trans c3
      have d4 : wr.cell? ⟨p, o + i * 5 + 4, none⟩ = some (.int .i64 (k + 5 * (i : Int) + 1 + 1 + 1 + 1)) := (hbel.cell hp).trans c4
      have dL : p < wr.heap.size := Nat.lt_of_lt_of_le hp hbel.size
      clear e1 e2 c0 c1 c2 c3 c4 hbel
      go_wp2
      go_roundw
      case rel => exact ⟨i + 1, by omega, by go_num, by go_num, HBel.out⟩
      case measure => simp [intOf]; omega
    · have hin : i = n := by omega
      subst hin
      clear hbel
      go_wp2
      go_ret
      exact ⟨rfl, HBel.out⟩

set_option maxHeartbeats 2000000 in
theorem markBlockS_any (a : Option Addr) (n cap B : Nat) (ps : List Bk) (k : Int) (w : World) (hn : n = ps.length) (h : OwnG KBk 62 w B (.slice a n cap) ps) (hl : n ≤ 9000000000) (k0 : 0 < k) (k1 : k ≤ 9000000000) :
    Calls Tryz.prog 42 #[.slice a n cap, .int .i64 k] w fun e w' => e = .returned (.int .i64 (k + 5 * n)) ∧ OwnG KBk 62 w' B (.slice a n cap) (mksG (mkBk k) n) ∧ w.grownBy w' (Value.slice a n cap).ownBlock := by
  have hn' : ps.length = n := hn.symm
  clear hn
  by_cases h0 : n = 0
  · subst h0
    have HO := hidP h
    have HZ : Hid (ps = []) := List.length_eq_zero_iff.1 hn'
    clear h hn'
    go_enter Tryz.func42, Tryz.ntmps42
    go_wp2
    refine wp_loop_rounds 1 ?_
    rw [rounds_succ]
    go_wp2
    go_ret
    refine ⟨by simp, ?_, World.grownBy.refl _ _⟩
    have := HO.out; rw [HZ.out] at this; simpa [mksG] using this
  · obtain ⟨g, rfl⟩ : ∃ g, a = some ⟨g, 0, none⟩ := by
      rcases h.2 with ⟨hv, _⟩ | ⟨g, cap', cur, hv, _⟩
      · simp at hv; omega
      · simp at hv; exact ⟨g, hv.1⟩
    have HO : Hid (OwnG KBk 62 w B (.slice (some ⟨g, 0, none⟩) n cap) (mksG (mkBk k) 0 ++ ps.drop 0)) := by
      refine hidP ?_; simpa [mksG] using h
    have HN : Hid (ps.length = n) := hn'
    clear h hn'
    go_enter Tryz.func42, Tryz.ntmps42
    go_wp2
    go_loopw [1, 5] (fun t1 t5 wr => ∃ i : Nat, i ≤ n ∧ t5 = .int .i64 i ∧ t1 = .int .i64 (k + 5 * i) ∧ OwnG KBk 62 wr B (.slice (some ⟨g, 0, none⟩) n cap) (mksG (mkBk k) i ++ ps.drop i) ∧ w.grownBy wr (some g)) (fun _ t5 _ => n - (intOf t5).toNat)
    case atStart => exact ⟨0, Nat.zero_le _, rfl, by simp, HO.out, World.grownBy.refl _ _⟩
    case round =>
      obtain ⟨i, hi, rfl, rfl, hown, hgr⟩ := hrel
      have hlen : n = (mksG (mkBk k) i ++ ps.drop i).length := by rw [List.length_append, mksG_len, List.length_drop, HN.out]; omega
      by_cases hlt : i < n
      · obtain ⟨f0, f1, f2, f3, f4⟩ := frzBk hown i
        have e1 : (mkBk k i).p.H.toInt = k + 5 * (i : Int) + 1 := toI64 _ (by omega) (by omega)
        have e2 : (mkBk k i).p.L.toInt = k + 5 * (i : Int) + 1 + 1 := toI64 _ (by omega) (by omega)
        have e3 : (mkBk k i).p.b = k + 5 * (i : Int) + 1 + 1 + 1 := rfl
        have e0 : (mkBk k i).p.s = ((k + 5 * (i : Int)) % 3 == 0) := rfl
        have hcs : KBk.cs (mkBk k i) = [.bool ((k + 5 * (i : Int)) % 3 == 0), .int .i64 (k + 5 * (i : Int) + 1), .int .i64 (k + 5 * (i : Int) + 1 + 1), .int .i64 (k + 5 * (i : Int) + 1 + 1 + 1)] ++ [.string (mtT (k + 5 * (i : Int) + 1 + 1 + 1 + 1).toNat)] := by
          show ([.bool (mkBk k i).p.s, .int .i64 (mkBk k i).p.H.toInt, .int .i64 (mkBk k i).p.L.toInt, .int .i64 (mkBk k i).p.b, .string (mkBk k i).t] : List Value) = _
          rw [e0, e1, e2, e3]; rfl
        have hfl := gflat_set KBk (mksG (mkBk k) i ++ ps.drop i) i (mkBk k i) (by rw [← hlen]; exact hlt)
        rw [mksG_step (mkBk k) n i ps HN.out hlt, hcs] at hfl
        have hlen2 : (mksG (mkBk k) (i + 1) ++ ps.drop (i + 1)).length = n := by rw [List.length_append, mksG_len, List.length_drop, HN.out]; omega
        have hraw : wr.ownsRow B 62 5 (.slice (some ⟨g, 0, none⟩) n cap) n (gflat KBk (mksG (mkBk k) i ++ ps.drop i)) := by
          have := hown; unfold OwnG at this; rw [← hlen] at this; exact this
        have h4 := puts_own [.bool ((k + 5 * (i : Int)) % 3 == 0), .int .i64 (k + 5 * (i : Int) + 1), .int .i64 (k + 5 * (i : Int) + 1 + 1), .int .i64 (k + 5 * (i : Int) + 1 + 1 + 1)] wr _ (i * 5) hraw
        obtain ⟨q', hp', _, c0, c1, c2, c3, c4⟩ := rowBk0 hown i (by rw [← hlen]; exact hlt)
        have c4' := World.ownsRow.cellAt h4 (i * 5 + 4) (by omega)
        have HF := hidP hfl
        have H4 := hidP h4
        have HL2 := hidP hlen2
        have HG := hidP hgr
        have HM := hidP (markText_int (k + 5 * (i : Int) + 1 + 1 + 1 + 1) (by omega) (by omega))
        have F4 := hidP (fun (w2 : World) (hb : Below ((((wr.setCell ⟨g, i * 5, none⟩ (.bool ((k + 5 * (i : Int)) % 3 == 0))).setCell ⟨g, i * 5 + 1, none⟩ (.int .i64 (k + 5 * (i : Int) + 1))).setCell ⟨g, i * 5 + 2, none⟩ (.int .i64 (k + 5 * (i : Int) + 1 + 1))).setCell ⟨g, i * 5 + 3, none⟩ (.int .i64 (k + 5 * (i : Int) + 1 + 1 + 1))).heap.size ((((wr.setCell ⟨g, i * 5, none⟩ (.bool ((k + 5 * (i : Int)) % 3 == 0))).setCell ⟨g, i * 5 + 1, none⟩ (.int .i64 (k + 5 * (i : Int) + 1))).setCell ⟨g, i * 5 + 2, none⟩ (.int .i64 (k + 5 * (i : Int) + 1 + 1))).setCell ⟨g, i * 5 + 3, none⟩ (.int .i64 (k + 5 * (i : Int) + 1 + 1 + 1))) w2) => And.intro (World.ownsRow.stored (ownsRow_later (show ((((wr.setCell ⟨g, i * 5, none⟩ (.bool ((k + 5 * (i : Int)) % 3 == 0))).setCell ⟨g, i * 5 + 1, none⟩ (.int .i64 (k + 5 * (i : Int) + 1))).setCell ⟨g, i * 5 + 2, none⟩ (.int .i64 (k + 5 * (i : Int) + 1 + 1))).setCell ⟨g, i * 5 + 3, none⟩ (.int .i64 (k + 5 * (i : Int) + 1 + 1 + 1))).ownsRow B 62 5 (.slice (some ⟨g, 0, none⟩) n cap) n _ from h4) hb) (i * 5 + 4) (.string (mtT (k + 5 * (i : Int) + 1 + 1 + 1 + 1).toNat))).1 (World.ownsRow.frozenAt (ownsRow_later (show ((((wr.setCell ⟨g, i * 5, none⟩ (.bool ((k + 5 * (i : Int)) % 3 == 0))).setCell ⟨g, i * 5 + 1, none⟩ (.int .i64 (k + 5 * (i : Int) + 1))).setCell ⟨g, i * 5 + 2, none⟩ (.int .i64 (k + 5 * (i : Int) + 1 + 1))).setCell ⟨g, i * 5 + 3, none⟩ (.int .i64 (k + 5 * (i : Int) + 1 + 1 + 1))).ownsRow B 62 5 (.slice (some ⟨g, 0, none⟩) n cap) n _ from h4) hb) (i * 5 + 4)))
        have hg4 : g < ((((wr.setCell ⟨g, i * 5, none⟩ (.bool ((k + 5 * (i : Int)) % 3 == 0))).setCell ⟨g, i * 5 + 1, none⟩ (.int .i64 (k + 5 * (i : Int) + 1))).setCell ⟨g, i * 5 + 2, none⟩ (.int .i64 (k + 5 * (i : Int) + 1 + 1))).setCell ⟨g, i * 5 + 3, none⟩ (.int .i64 (k + 5 * (i : Int) + 1 + 1 + 1))).heap.size := by simp; exact hp'
        have c4s : ((((wr.setCell ⟨g, i * 5, none⟩ (.bool ((k + 5 * (i : Int)) % 3 == 0))).setCell ⟨g, i * 5 + 1, none⟩ (.int .i64 (k + 5 * (i : Int) + 1))).setCell ⟨g, i * 5 + 2, none⟩ (.int .i64 (k + 5 * (i : Int) + 1 + 1))).setCell ⟨g, i * 5 + 3, none⟩ (.int .i64 (k + 5 * (i : Int) + 1 + 1 + 1))).cell? ⟨g, i * 5 + 4, none⟩ = some (.string q'.t) := by simp [go_sem, c4]
        have C4 := hidP (And.intro hg4 c4s)
        clear hown hgr HO hlen e0 e1 e2 e3 hcs hfl hraw h4 hlen2 c4' hg4 c4s
        go_wp2_with fail
        refine (HM.out _).mono ?_
        rintro e w2 ⟨rfl, hb2⟩
        have c4t := (hb2.cell C4.out.1).trans C4.out.2
        have fz := (F4.out w2 hb2).2
        have HS := hidP (F4.out w2 hb2).1
        have HG2 := hidP (((((HG.out.trans (grown_cell _ g _ _)).trans (grown_cell _ g _ _)).trans (grown_cell _ g _ _)).trans (grown_cell _ g _ _)).trans (grown_of hb2 (some g)))
        clear hb2 F4
        go_wp2_with fail
        go_roundw
        case rel =>
          refine ⟨i + 1, by omega, by go_num, by go_num, ?_, HG2.out.trans (grown_cell _ g _ _)⟩
          unfold OwnG
          rw [HL2.out, ← HF.out]
          exact HS.out
        case measure => simp [intOf]; omega
      · have hin : i = n := by omega
        subst hin
        have HS : Hid (OwnG KBk 62 wr B (.slice (some ⟨g, 0, none⟩) i cap) (mksG (mkBk k) i)) := by
          rw [List.drop_of_length_le (by rw [HN.out]; exact Nat.le_refl _), List.append_nil] at hown
          exact hidP hown
        have HG := hidP hgr
        clear hown hgr HO hlen
        go_wp2
        go_ret
        exact ⟨rfl, HS.out, HG.out⟩

set_option maxRecDepth 10000 in
set_option maxHeartbeats 1000000 in
theorem heldBlockS_any (a : Option Addr) (cap n : Nat) (k : Int) (w : World) (h : RowG KBk w a (mksG (mkBk k) n)) (hl : n ≤ 9000000000) (k0 : 0 < k) (k1 : k ≤ 9000000000) :
    Calls Tryz.prog 44 #[.slice a n cap, .int .i64 k] w fun e w' => e = .returned (.int .i64 (k + 5 * n)) ∧ Below w.heap.size w w' := by
  have HB := hidP h
  clear h
  go_enter Tryz.func44, Tryz.ntmps44
  go_wp2
  go_loopw [1, 5] (fun t1 t5 wr => ∃ i : Nat, i ≤ n ∧ t5 = .int .i64 i ∧ t1 = .int .i64 (k + 5 * i) ∧ Below w.heap.size w wr) (fun _ t5 _ => n - (intOf t5).toNat)
  case atStart => exact ⟨0, Nat.zero_le _, rfl, by simp, Below.refl _ _⟩
  case round =>
    obtain ⟨i, hi, rfl, rfl, hbel⟩ := hrel
    have HBel := hidP hbel
    by_cases hlt : i < n
    · obtain ⟨p, o, q, rfl, hp, hq, c0, c1, c2, c3, c4⟩ := rowBk HB.out i (by rw [mksG_len]; exact hlt)
      rw [mksG_at (mkBk k) n i hlt] at hq
      cases hq
      have e1 : (mkBk k i).p.H.toInt = k + 5 * (i : Int) + 1 := toI64 _ (by omega) (by omega)
      have e2 : (mkBk k i).p.L.toInt = k + 5 * (i : Int) + 1 + 1 := toI64 _ (by omega) (by omega)
      have d0 : wr.cell? ⟨p, o + i * 5, none⟩ = some (.bool ((k + 5 * (i : Int)) % 3 == 0)) := (hbel.cell hp).trans c0
      have d1 : wr.cell? ⟨p, o + i * 5 + 1, none⟩ = some (.int .i64 (k + 5 * (i : Int) + 1)) := by rw [← e1]; exact (hbel.cell hp).trans c1
      have d2 : wr.cell? ⟨p, o + i * 5 + 2, none⟩ = some (.int .i64 (k + 5 * (i : Int) + 1 + 1)) := by rw [← e2]; exact (hbel.cell hp).trans c2
      have d3 : wr.cell? ⟨p, o + i * 5 + 3, none⟩ = some (.int .i64 (k + 5 * (i : Int) + 1 + 1 + 1)) := (hbel.cell hp).trans c3
      have d4 : wr.cell? ⟨p, o + i * 5 + 4, none⟩ = some (.string (mtT (k + 5 * (i : Int) + 1 + 1 + 1 + 1).toNat)) := (hbel.cell hp).trans c4
      have dL : p < wr.heap.size := Nat.lt_of_lt_of_le hp hbel.size
      clear e1 e2 c0 c1 c2 c3 c4 hbel
      have HM := hidP (markText_int (k + 5 * (i : Int) + 1 + 1 + 1 + 1) (by omega) (by omega))
      go_wp2_with fail
      have HSx : Hid (∀ x, Below wr.heap.size wr x → (x.cell? ⟨p, o + i * 5 + 4, none⟩ = some (.string (mtT (k + 5 * (i : Int) + 1 + 1 + 1 + 1).toNat)) ∧ Below wr.heap.size wr x)) := hidP fun x h =>
        ⟨(h.cell dL).trans d4, h⟩
      refine wp_region_held_drew (S := (fun x => x.cell? ⟨p, o + i * 5 + 4, none⟩ = some (.string (mtT (k + 5 * (i : Int) + 1 + 1 + 1 + 1).toNat)) ∧ Below wr.heap.size wr x)) (by kernel_rfl) ?_ (fun hHeld => ?_)
      · try dsimp only
        exact HSx.out _ (Below.refl _ _).drew
      refine wpAnyH_take (i := 0) (oi := ⟨some 57, _, _, _, _, _⟩) (v := ?_) rfl (by kernel_rfl) (by kernel_rfl) (by kernel_rfl) (fun _ _ _ h => h) (Or.inl ⟨by rfl, ?_⟩) (by assumption) ?_
      rotate_left
      · intro w hSw
        try dsimp only at hSw
        go_simp
        try with_reducible rfl
      simp only [Act.put, List.setIfInBounds_toArray, List.set_cons_zero, List.set_cons_succ]
      refine wpAnyH_take (i := 1) (oi := ⟨some 58, _, _, _, _, _⟩) (v := ?_) rfl (by kernel_rfl) (by kernel_rfl) (by kernel_rfl) (fun _ _ _ h => h) (Or.inl ⟨by rfl, ?_⟩) (by assumption) ?_
      rotate_left
      · intro w hSw
        try dsimp only at hSw
        go_simp
        try with_reducible rfl
      simp only [Act.put, List.setIfInBounds_toArray, List.set_cons_zero, List.set_cons_succ]
      refine wpAnyH_take (i := 2) (oi := ⟨some 59, _, _, _, _, _⟩) (v := ?_) rfl (by kernel_rfl) (by kernel_rfl) (by kernel_rfl) (fun _ _ _ h => h) (Or.inl ⟨by rfl, ?_⟩) (by assumption) ?_
      rotate_left
      · intro w hSw
        try dsimp only at hSw
        go_simp
        try with_reducible rfl
      simp only [Act.put, List.setIfInBounds_toArray, List.set_cons_zero, List.set_cons_succ]
      refine wpAnyH_take (i := 3) (oi := ⟨some 60, _, _, _, _, _⟩) (v := ?_) rfl (by kernel_rfl) (by kernel_rfl) (by kernel_rfl) (fun _ _ _ h => h) (Or.inl ⟨by rfl, ?_⟩) (by assumption) ?_
      rotate_left
      · intro w hSw
        try dsimp only at hSw
        go_simp
        try with_reducible rfl
      simp only [Act.put, List.setIfInBounds_toArray, List.set_cons_zero, List.set_cons_succ]
      refine wpAnyH_take (i := 4) (oi := ⟨some 61, _, _, _, _, _⟩) (v := ?_) rfl (by kernel_rfl) (by kernel_rfl) (by kernel_rfl) (fun _ _ _ h => h) (Or.inl ⟨by rfl, ?_⟩) (by assumption) ?_
      rotate_left
      · intro w hSw
        try dsimp only at hSw
        go_simp
        try with_reducible rfl
      simp only [Act.put, List.setIfInBounds_toArray, List.set_cons_zero, List.set_cons_succ]
      refine wpAnyH_take (i := 5) (oi := ⟨some 62, _, _, _, _, _⟩) (v := ?_) rfl (by kernel_rfl) (by kernel_rfl) (by kernel_rfl) (fun _ _ _ h => h) (Or.inl ⟨by rfl, ?_⟩) (by assumption) ?_
      rotate_left
      · intro w hSw
        try dsimp only at hSw
        go_simp
        try with_reducible rfl
      simp only [Act.put, List.setIfInBounds_toArray, List.set_cons_zero, List.set_cons_succ]
      refine wpAnyH_ready (rs := [6]) (by kernel_rfl) (by simp) ?_
      refine AllReadyH.cons rfl (fun K hK => ?_) AllReadyH.nil
      go_simp
      go_wp2_with (first | (go_at_call 74; refine (HM.out _).mono ?_; rintro e w2 ⟨rfl, hb2⟩; have b2 := (hHeld.2).trans (hb2.mono (hHeld.2).size)))
      refine hK.out _ _ ?_ (fun hHeld => ?_)
      · try dsimp only
        exact HSx.out _ b2
      clear hK K
      refine wpAnyH_take (i := 7) (oi := ⟨some 64, _, _, _, _, _⟩) (v := ?_) rfl (by kernel_rfl) (by kernel_rfl) (by kernel_rfl) (fun _ _ _ h => h) (Or.inl ⟨by rfl, ?_⟩) (by assumption) ?_
      rotate_left
      · intro w hSw
        try dsimp only at hSw
        go_simp
        try with_reducible rfl
      simp only [Act.put, List.setIfInBounds_toArray, List.set_cons_zero, List.set_cons_succ]
      have HE := hidP (hHeld.2)
      refine wpAnyH_done (by kernel_rfl) ?_ _
      clear hHeld
      go_wp2_with fail
      go_roundw
      case rel => exact ⟨i + 1, by omega, by go_num, by go_num, HBel.out.trans (HE.out.mono HBel.out.size)⟩
      case measure => simp [intOf]; omega
    · have hin : i = n := by omega
      subst hin
      clear hbel
      go_wp2
      go_ret
      exact ⟨rfl, HBel.out⟩

end Go.Proofs.YtmbmekcppmbokaaGreat

/-
  The laws' marks of a plan, and the look whether they stand.
-/
namespace Go.Proofs.YtmbmekcppmbokaaGreat
open Go.RowKit

set_option maxHeartbeats 1000000 in
theorem markPlan_any (ap : Option Addr) (np cp : Nat) (ab : Option Addr) (nb cb : Nat) (ps : List Pl) (bs : List Bk) (B : Nat) (k : Int) (w : World) (hnp : np = ps.length) (hnb : nb = bs.length) (hO1 : OwnG KPl 60 w B (.slice ap np cp) ps) (hO2 : OwnG KBk 62 w B (.slice ab nb cb) bs) (hne : ∀ k, (Value.slice ap np cp).ownBlock = some k → (Value.slice ab nb cb).ownBlock ≠ some k) (h1 : np ≤ 2000000) (h2 : nb ≤ 2000000) (k0 : 0 < k) (k1 : k ≤ 1000) :
    Calls Tryz.prog 12 #[.agg #[.slice ap np cp, .slice ab nb cb], .int .i64 k] w fun e w' => e = .returned (.int .i64 (k + 5 * np + 5 * nb)) ∧ OwnG KPl 60 w' B (.slice ap np cp) (mksG (mkPl k) np) ∧ OwnG KBk 62 w' B (.slice ab nb cb) (mksG (mkBk (k + 5 * np)) nb) ∧ ∃ wm, w.grownBy wm (Value.slice ap np cp).ownBlock ∧ wm.grownBy w' (Value.slice ab nb cb).ownBlock := by
  have hl1 := fun k hk => (OwnG.lt hO1 k hk).2
  have HO := hidP (And.intro hO1 hO2)
  have HNE := hidP hne
  have HN := hidP (And.intro hnp hnb)
  have HL1 := hidP hl1
  clear hO1 hO2 hne hnp hnb hl1
  go_enter Tryz.func12, Tryz.ntmps12
  go_wp2_with fail
  obtain ⟨u0, u1⟩ := box2 (u := .slice ap np cp) (v := .slice ab nb cb) w 34
  have uB := alloc_below w (.cells #[.slice ap np cp, .slice ab nb cb] 34)
  have uL := alloc_lt w (.cells #[.slice ap np cp, .slice ab nb cb] 34)
  have uS : (w.alloc (.cells #[.slice ap np cp, .slice ab nb cb] 34)).heap.size = w.heap.size + 1 := by simp
  generalize w.alloc (.cells #[.slice ap np cp, .slice ab nb cb] 34) = W1 at *
  refine (markPoolS_any ap np cp B ps k W1 HN.out.1 (HO.out.1.later uB) (by omega) k0 (by omega)).mono ?_
  rintro e w2 ⟨rfl, o2, g2⟩
  have hob := OwnG.grown (HO.out.2.later uB) g2 (fun j hj h => HNE.out j h hj)
  have c1 : w2.cell? ⟨w.heap.size, 1, none⟩ = some (.slice ab nb cb) := (World.cell?_of_block (g2.block w.heap.size uL (fun e => by have := HL1.out _ e.symm; omega))).trans u1
  have G2 := hidP ((grown_of uB _).trans g2)
  have O2 := hidP (And.intro o2 hob)
  clear g2 o2 hob uB uS u0 u1 uL
  go_wp2_with fail
  refine (markBlockS_any ab nb cb B bs (k + 5 * np) w2 HN.out.2 O2.out.2 (by omega) (by omega) (by omega)).mono ?_
  rintro e w3 ⟨rfl, o3, g3⟩
  have op := OwnG.grown O2.out.1 g3 (fun j hj h => HNE.out j hj h)
  have F := hidP (And.intro op (And.intro o3 g3))
  clear op o3 g3 c1
  go_wp2_with fail
  go_ret
  exact ⟨rfl, F.out.1, F.out.2.1, w2, G2.out, F.out.2.2⟩

set_option maxHeartbeats 1000000 in
theorem heldPlan_any (ap : Option Addr) (np cp : Nat) (ab : Option Addr) (nb cb : Nat) (k : Int) (w : World) (hP : RowG KPl w ap (mksG (mkPl k) np)) (hK : RowG KBk w ab (mksG (mkBk (k + 5 * np)) nb)) (h1 : np ≤ 2000000) (h2 : nb ≤ 2000000) (k0 : 0 < k) (k1 : k ≤ 1000) :
    Calls Tryz.prog 13 #[.agg #[.slice ap np cp, .slice ab nb cb], .int .i64 k] w fun e w' => e = .returned (.int .i64 (k + 5 * np + 5 * nb)) ∧ Below w.heap.size w w' := by
  have HP := hidP (fun W h => heldPoolS_any ap cp np k W (hP.later h) (by omega) k0 (by omega))
  have HB := hidP (fun W h => heldBlockS_any ab cb nb (k + 5 * np) W (hK.later h) (by omega) (by omega) (by omega))
  have d1 : decide (k + 5 * (np : Int) < 0) = false := decide_eq_false (by omega)
  have d2 : decide (k + 5 * (np : Int) + 5 * (nb : Int) < 0) = false := decide_eq_false (by omega)
  have d3 : ¬ (k + 5 * (np : Int) < 0) := by omega
  have d4 : ¬ (k + 5 * (np : Int) + 5 * (nb : Int) < 0) := by omega
  clear hP hK
  go_enter Tryz.func13, Tryz.ntmps13
  go_wp2_with fail
  obtain ⟨u0, u1⟩ := box2 (u := .slice ap np cp) (v := .slice ab nb cb) w 34
  have uB := alloc_below w (.cells #[.slice ap np cp, .slice ab nb cb] 34)
  have uL := alloc_lt w (.cells #[.slice ap np cp, .slice ab nb cb] 34)
  have uS : (w.alloc (.cells #[.slice ap np cp, .slice ab nb cb] 34)).heap.size = w.heap.size + 1 := by simp
  generalize w.alloc (.cells #[.slice ap np cp, .slice ab nb cb] 34) = W1 at *
  have HU := hidP uB
  refine (HP.out _ uB).mono ?_
  rintro e w2 ⟨rfl, hb2⟩
  have c1 := (hb2.cell uL).trans u1
  have B2 := hidP (HU.out.trans (hb2.mono HU.out.size))
  clear uB uS u0 u1 hb2
  go_wp2_with fail
  refine (HB.out _ B2.out).mono ?_
  rintro e w3 ⟨rfl, hb3⟩
  have B3 := hidP (B2.out.trans (hb3.mono B2.out.size))
  clear hb3
  go_wp2_with fail
  go_ret
  exact ⟨rfl, B3.out⟩

end Go.Proofs.YtmbmekcppmbokaaGreat

/-
  For every plan and every prefix the two Free answer alike, in rows of their own, and leave the plan as it was, so the exact law of Free returns true; no condition.
-/
namespace Go.Proofs.YtmbmekcppmbokaaGreat
open Go.ChangeShapes Go.WideShapes Go.ChangeAt Go.RowKit Go.Joins Go.Deep

theorem slice_of {H : Type} {enc : TypeId × Value → H} {W : World} {t e : TypeId} {n : Nat} {u : Value} {y : DataW H × List MemPlace} (ht : Tryz.prog.underlying t = some (.slice e)) (h : DataW.trod enc Tryz.prog W 0 (fun _ => true) true n t [u] = some y) : ∃ a l c, u = .slice a l c := by
  rcases open_slice ht h with ⟨hcs, _⟩ | ⟨a', len', cap', m, n', D, Plc, hcs, _⟩
  · simp at hcs; exact ⟨_, _, _, hcs⟩
  · simp at hcs; exact ⟨_, _, _, hcs⟩
theorem Tryz.cellsPn : Tryz.prog.cellsOf 25 = 2 := by kernel_rfl
set_option maxRecDepth 100000 in
/-- A plan that came in. -/
theorem openPlan {H : Type} {enc : TypeId × Value → H} {W : World} {r : Reach} {b0 : Nat} {v : Value} {d : DataW H} {p : List MemPlace} (hv : Value.okWide Tryz.prog W r b0 25 v)
    (h : DataW.Trod enc Tryz.prog W 0 (fun _ => true) true 25 v d p) : ∃ (ap : Option Addr) (np cp : Nat) (ab : Option Addr) (nb cb : Nat) (ps : List Pl) (bs : List Bk), v = .agg #[.slice ap np cp, .slice ab nb cb] ∧ np = ps.length ∧ nb = bs.length ∧ RowG KPl W ap ps ∧ RowG KBk W ab bs ∧ np ≤ 9223372036854775807 ∧ nb ≤ 9223372036854775807 ∧ ∀ q ∈ bs, q.t.size ≤ 9223372036854775807 := by
  obtain ⟨v0, v1, y0, y1, n, rfl, rfl, rfl, t0, t1⟩ := open_agg2 Tryz.underlying25 (by kernel_rfl) Tryz.cellsPn hv h
  obtain ⟨ap, np, cp, rfl⟩ := slice_of Tryz.underlying22 t0
  obtain ⟨ab, nb, cb, rfl⟩ := slice_of Tryz.underlying23 t1
  obtain ⟨ps, e1, l1, r1⟩ := openPl (enc := enc) (W := W) (a := ap) (len := np) (cap := cp) (d := y0.1) (p := y0.2) ⟨n, by simpa [Value.cells] using t0⟩
  obtain ⟨bs, e2, l2, r2, s2⟩ := openBk2 (enc := enc) (W := W) (a := ab) (len := nb) (cap := cb) (d := y1.1) (p := y1.2) ⟨n, by simpa [Value.cells] using t1⟩
  exact ⟨ap, np, cp, ab, nb, cb, ps, bs, rfl, e1.symm, e2.symm, r1, r2, l1, l2, s2⟩

theorem trodAll_nil {H : Type} {enc : TypeId × Value → H} {P : Program} {W : World} {base : Nat} {sp : Nat → Bool} {held : Bool} {ts : List TypeId} {vs : List Value} {ds : List (DataW H)} {p : List MemPlace} (h : DataW.TrodAll enc P W base sp held ts vs ds (p ++ [])) : DataW.TrodAll enc P W base sp held ts vs ds p := by
  rw [List.append_nil] at h; exact h
theorem trodAll_nil3 {H : Type} {enc : TypeId × Value → H} {P : Program} {W : World} {base : Nat} {sp : Nat → Bool} {held : Bool} {ts : List TypeId} {vs : List Value} {ds : List (DataW H)} {p : List MemPlace} (h : DataW.TrodAll enc P W base sp held ts vs ds (p ++ ([] ++ []))) : DataW.TrodAll enc P W base sp held ts vs ds p := by
  rw [List.append_nil, List.append_nil] at h; exact h
theorem drew_cell (w : World) (a : Addr) : w.drew.cell? a = w.cell? a := rfl
theorem drew_frozen (w : World) (a : Addr) : w.drew.frozen? a = w.frozen? a := rfl
theorem drew_size_lt {w : World} {n : Nat} (h : n < w.heap.size) : n < w.drew.heap.size := h
theorem OwnG.put2 {α : Type} {K : Kd α} {t : TypeId} {w : World} {B x : Nat} {v u u' : Value} {ps : List α} (h : OwnG K t w B v ps) (hx : ∀ k, v.ownBlock = some k → k ≠ x) : OwnG K t ((w.setCell ⟨x, 0, none⟩ u).setCell ⟨x, 1, none⟩ u') B v ps :=
  OwnG.grown (OwnG.grown h (grown_cellG w x 0 u) (fun k hk e => hx k hk (by simpa using e.symm))) (grown_cellG _ x 1 u') (fun k hk e => hx k hk (by simpa using e.symm))
theorem frzZ2 (w : World) (t : TypeId) (o : Nat) : (w.alloc (.cells #[.slice none 0 0, .slice none 0 0] t)).frozen? ⟨w.heap.size, o, none⟩ = false := frz2 w t _ _ o

set_option maxRecDepth 10000 in
set_option maxHeartbeats 8000000 in
theorem lawFree (pt : Pf) (ow : ByteArray) (how : ow.size ≤ 9223372036854775807) (ap : Option Addr) (np cp : Nat) (ab : Option Addr) (nb cb : Nat) (ps : List Pl) (bs : List Bk) (w : World) (hnp : np = ps.length) (hnb : nb = bs.length) (hP : RowG KPl w ap ps) (hK : RowG KBk w ab bs) (h9 : np ≤ 9223372036854775807) (h9' : nb ≤ 9223372036854775807) (hst : ∀ q ∈ bs, q.t.size ≤ 9223372036854775807) :
    Calls Tryz.prog 4 #[.agg #[.slice ap np cp, .slice ab nb cb], .agg #[.bool pt.s, .int .i64 pt.H.toInt, .int .i64 pt.L.toInt, .int .i64 pt.b], .string ow] w fun e w' => e = .returned (.bool true) ∧ Below w.heap.size w w' := by
  by_cases hos : 1048576 < ow.size
  · have dO : decide ((1048576 : Int) < (ow.size : Int)) = true := decide_eq_true (by omega)
    clear hP hK hnp hnb hst
    go_enter Tryz.func4, Tryz.ntmps4
    go_wp2_with fail
    go_ret
    exact ⟨rfl, ((Below.refl _ _).alloc (Nat.le_refl _) _).alloc (by simp) _⟩
  have dO : decide ((1048576 : Int) < (ow.size : Int)) = false := decide_eq_false (by omega)
  have HSz := hidP (fun W h => szPlan_any ap np cp ab nb cb ps bs W hnp hnb (hK.later h) h9 h9' hst)
  by_cases ht : totP ps bs ≤ 1048576
  · rw [szT_yes ht] at HSz
    have hl : np ≤ 1048576 := by unfold totP at ht; omega
    have hl' : nb ≤ 1048576 := by unfold totP at ht; omega
    have HTo := hidP (fun W h => toPlan_any ap np cp ab nb cb ps bs W hnp hnb (hP.later h) (hK.later h) hl hl')
    have HTp := hidP (toPrefix_any pt.s pt.H.toInt pt.L.toInt pt.b)
    obtain ⟨PS, NP, BS, NB, C, hNP, hNB, hL1, hL2, hSpec, hImpl⟩ := free_both pt ow how np nb ps bs hnp hnb hl hl' hst
    have HSp := hidP hSpec
    have HIm := hidP hImpl
    have HEq := hidP (fun W g h g' h' e1 e2 e3 e4 => eqPlan_same (some ⟨g, 0, none⟩) (some ⟨g', 0, none⟩) np np np (some ⟨h, 0, none⟩) (some ⟨h', 0, none⟩) nb nb nb ps bs W hnp hnb e1 e2 e3 e4 (by omega) (by omega))
    have HEr := hidP (fun W a c b d a' c' b' d' e1 e2 e3 e4 => eqPlan_same a a' NP c c' b b' NB d d' PS BS W hNP hNB e1 e2 e3 e4 (by omega) (by omega))
    have HMk := hidP (fun W g h B o1 o2 ne => markPlan_any (some ⟨g, 0, none⟩) np np (some ⟨h, 0, none⟩) nb nb ps bs B 1 W hnp hnb o1 o2 ne (by omega) (by omega) (by omega) (by omega))
    have HMr := hidP (fun W a c b d B o1 o2 ne => markPlan_any a NP c b NB d PS BS B 1 W hNP hNB o1 o2 ne (by omega) (by omega) (by omega) (by omega))
    have HHd := hidP (fun W a c b d e1 e2 => heldPlan_any a NP c b NB d 1 W e1 e2 (by omega) (by omega) (by omega) (by omega))
    have d1 : decide (1048576 - totP ps bs < 0) = false := decide_eq_false (by omega)
    have d2 : ¬ (1048576 - totP ps bs < 0) := by omega
    generalize 1048576 - totP ps bs = z at *
    have d3 : decide ((1 : Int) + 5 * (np : Int) + 5 * (nb : Int) < 0) = false := decide_eq_false (by omega)
    have d4 : ¬ ((1 : Int) + 5 * (np : Int) + 5 * (nb : Int) < 0) := by omega
    have d5 : decide ((1 : Int) + 5 * (NP : Int) + 5 * (NB : Int) < 0) = false := decide_eq_false (by omega)
    have d6 : ¬ ((1 : Int) + 5 * (NP : Int) + 5 * (NB : Int) < 0) := by omega
    clear hP hK hnp hnb hst ht hNP hNB hSpec hImpl
    go_enter Tryz.func4, Tryz.ntmps4
    go_wp2_with fail
    obtain ⟨u0, u1⟩ := box2 (u := .slice ap np cp) (v := .slice ab nb cb) w 25
    have uB := alloc_below w (.cells #[.slice ap np cp, .slice ab nb cb] 25)
    have uL := alloc_lt w (.cells #[.slice ap np cp, .slice ab nb cb] 25)
    have uS : (w.alloc (.cells #[.slice ap np cp, .slice ab nb cb] 25)).heap.size = w.heap.size + 1 := by simp
    generalize w.alloc (.cells #[.slice ap np cp, .slice ab nb cb] 25) = W1 at *
    obtain ⟨y0, y1, y2, y3⟩ := box4 (p := pt) W1 29
    have yB := alloc_below W1 (.cells #[.bool pt.s, .int .i64 pt.H.toInt, .int .i64 pt.L.toInt, .int .i64 pt.b] 29)
    have yL := alloc_lt W1 (.cells #[.bool pt.s, .int .i64 pt.H.toInt, .int .i64 pt.L.toInt, .int .i64 pt.b] 29)
    have yS : (W1.alloc (.cells #[.bool pt.s, .int .i64 pt.H.toInt, .int .i64 pt.L.toInt, .int .i64 pt.b] 29)).heap.size = W1.heap.size + 1 := by simp
    generalize W1.alloc (.cells #[.bool pt.s, .int .i64 pt.H.toInt, .int .i64 pt.L.toInt, .int .i64 pt.b] 29) = W2 at *
    rw [uS] at y0 y1 y2 y3 yL yS
    have s0 := (yB.cell uL).trans u0
    have s1 := (yB.cell uL).trans u1
    have sL : w.heap.size < W2.heap.size := by omega
    have accW := hidP (uB.trans (yB.mono uB.size))
    clear uB uS yB yS u0 u1 uL
    refine (HSz.out _ accW.out).mono ?_
    rintro e w2 ⟨rfl, hb2⟩
    have lp0_w2 := (hb2.cell sL).trans s0
    have lp1_w2 := (hb2.cell sL).trans s1
    have lpL_w2 : w.heap.size < w2.heap.size := Nat.lt_of_lt_of_le sL hb2.size
    have lq0_w2 := (hb2.cell yL).trans y0
    have lq1_w2 := (hb2.cell yL).trans y1
    have lq2_w2 := (hb2.cell yL).trans y2
    have lq3_w2 := (hb2.cell yL).trans y3
    have lqL_w2 : w.heap.size + 1 < w2.heap.size := Nat.lt_of_lt_of_le yL hb2.size
    have acc_w2 := hidP (accW.out.trans (hb2.mono accW.out.size))
    have sz_w2 := hb2.size
    clear s0 s1 sL y0 y1 y2 y3 yL hb2 accW
    go_upto_region 7 with fail
    go_cut [8, 9] (fun t8 t9 X => ∃ (p : Nat) (a : Option Addr) (c : Nat) (b : Option Addr) (d : Nat), t8 = .pointer (some ⟨p, 0, none⟩) ∧ t9 = .int .i64 C ∧ w2.heap.size ≤ p ∧ p < X.heap.size ∧ X.cell? ⟨p, 0, none⟩ = some (.slice a NP c) ∧ X.cell? ⟨p, 1, none⟩ = some (.slice b NB d) ∧ OwnG KPl 60 X w2.heap.size (.slice a NP c) PS ∧ OwnG KBk 62 X w2.heap.size (.slice b NB d) BS ∧ (∀ k, (Value.slice a NP c).ownBlock = some k → (Value.slice b NB d).ownBlock ≠ some k) ∧ (∀ k, (Value.slice a NP c).ownBlock = some k → k ≠ p) ∧ (∀ k, (Value.slice b NB d).ownBlock = some k → k ≠ p) ∧ Below w2.heap.size w2 X)
    case first =>
      have HSx : Hid (∀ x, Below w2.heap.size w2 x → (x.cell? ⟨w.heap.size, 0, none⟩ = some (.slice ap np cp) ∧ x.cell? ⟨w.heap.size, 1, none⟩ = some (.slice ab nb cb) ∧ x.cell? ⟨w.heap.size + 1, 0, none⟩ = some (.bool pt.s) ∧ x.cell? ⟨w.heap.size + 1, 1, none⟩ = some (.int .i64 pt.H.toInt) ∧ x.cell? ⟨w.heap.size + 1, 2, none⟩ = some (.int .i64 pt.L.toInt) ∧ x.cell? ⟨w.heap.size + 1, 3, none⟩ = some (.int .i64 pt.b) ∧ Below w2.heap.size w2 x)) := hidP fun x h =>
        ⟨(h.cell lpL_w2).trans lp0_w2, (h.cell lpL_w2).trans lp1_w2, (h.cell lqL_w2).trans lq0_w2, (h.cell lqL_w2).trans lq1_w2, (h.cell lqL_w2).trans lq2_w2, (h.cell lqL_w2).trans lq3_w2, h⟩
      refine wp_region_held_drew (S := (fun x => x.cell? ⟨w.heap.size, 0, none⟩ = some (.slice ap np cp) ∧ x.cell? ⟨w.heap.size, 1, none⟩ = some (.slice ab nb cb) ∧ x.cell? ⟨w.heap.size + 1, 0, none⟩ = some (.bool pt.s) ∧ x.cell? ⟨w.heap.size + 1, 1, none⟩ = some (.int .i64 pt.H.toInt) ∧ x.cell? ⟨w.heap.size + 1, 2, none⟩ = some (.int .i64 pt.L.toInt) ∧ x.cell? ⟨w.heap.size + 1, 3, none⟩ = some (.int .i64 pt.b) ∧ Below w2.heap.size w2 x)) (by kernel_rfl) ?_ (fun hHeld => ?_)
      · try dsimp only
        exact HSx.out _ (Below.refl _ _).drew
      refine wpAnyH_take (i := 0) (oi := ⟨some 27, _, _, _, _, _⟩) (v := ?_) rfl (by kernel_rfl) (by kernel_rfl) (by kernel_rfl) (fun _ _ _ h => h) (Or.inl ⟨by rfl, ?_⟩) (by assumption) ?_
      rotate_left
      · intro w hSw
        try dsimp only at hSw
        go_simp
        try with_reducible rfl
      simp only [Act.put, List.setIfInBounds_toArray, List.set_cons_zero, List.set_cons_succ]
      refine wpAnyH_take (i := 2) (oi := ⟨some 29, _, _, _, _, _⟩) (v := ?_) rfl (by kernel_rfl) (by kernel_rfl) (by kernel_rfl) (fun _ _ _ h => h) (Or.inl ⟨by rfl, ?_⟩) (by assumption) ?_
      rotate_left
      · intro w hSw
        try dsimp only at hSw
        go_simp
        try with_reducible rfl
      simp only [Act.put, List.setIfInBounds_toArray, List.set_cons_zero, List.set_cons_succ]
      refine wpAnyH_take (i := 4) (oi := ⟨some 31, _, _, _, _, _⟩) (v := ?_) rfl (by kernel_rfl) (by kernel_rfl) (by kernel_rfl) (fun _ _ _ h => h) (Or.inl ⟨by rfl, ?_⟩) (by assumption) ?_
      rotate_left
      · intro w hSw
        try dsimp only at hSw
        go_simp
        try with_reducible rfl
      simp only [Act.put, List.setIfInBounds_toArray, List.set_cons_zero, List.set_cons_succ]
      refine wpAnyH_ready (rs := [1, 9]) (by kernel_rfl) (by simp) ?_
      refine AllReadyH.cons rfl (fun K hK => ?_) (AllReadyH.cons rfl (fun K hK => ?_) AllReadyH.nil)
      · go_simp
        go_wp2_with (first | (go_at_call 7; refine (HTo.out _ (acc_w2.out.trans ((hHeld.2.2.2.2.2.2).mono acc_w2.out.size))).mono ?_; rintro e w3 ⟨g3, h3, rfl, og3, oh3, gh3, hb3⟩; have b3 := (hHeld.2.2.2.2.2.2).trans (hb3.mono (hHeld.2.2.2.2.2.2).size)))
        refine hK.out _ _ ?_ (fun hHeld => ?_)
        · try dsimp only
          exact HSx.out _ b3
        clear hK K
        refine wpAnyH_ready (rs := [3, 9]) (by kernel_rfl) (by simp) ?_
        refine AllReadyH.cons rfl (fun K hK => ?_) (AllReadyH.cons rfl (fun K hK => ?_) AllReadyH.nil)
        · go_simp
          go_wp2_with (first | (go_at_call 8; refine (HTp.out _).mono ?_; rintro e w4 ⟨rfl, hb4⟩; have b4 := (hHeld.2.2.2.2.2.2).trans (hb4.mono (hHeld.2.2.2.2.2.2).size)))
          refine hK.out _ _ ?_ (fun hHeld => ?_)
          · try dsimp only
            exact HSx.out _ b4
          clear hK K
          refine wpAnyH_ready (rs := [5, 9]) (by kernel_rfl) (by simp) ?_
          refine AllReadyH.cons rfl (fun K hK => ?_) (AllReadyH.cons rfl (fun K hK => ?_) AllReadyH.nil)
          · go_simp
            go_wp2_with (first | (go_at_call 14; refine (HSp.out g3 h3 _ (RowG.later og3.row hb4) (RowG.later oh3.row hb4)).mono ?_; rintro e w5 ⟨ra5, rc5, rb5, rd5, rfl, op5, ob5, ne5, hb5⟩; have b5 := (hHeld.2.2.2.2.2.2).trans (hb5.mono (hHeld.2.2.2.2.2.2).size)))
            refine hK.out _ _ ?_ (fun hHeld => ?_)
            · try dsimp only
              exact HSx.out _ b5
            clear hK K
            refine wpAnyH_take (i := 6) (oi := ⟨some 26, _, _, _, _, _⟩) (v := ?_) rfl (by kernel_rfl) (by kernel_rfl) (by kernel_rfl) (fun _ _ _ h => h) (Or.inl ⟨by rfl, ?_⟩) (by assumption) ?_
            rotate_left
            · intro w hSw
              try dsimp only at hSw
              go_simp
              try with_reducible rfl
            simp only [Act.put, List.setIfInBounds_toArray, List.set_cons_zero, List.set_cons_succ]
            refine wpAnyH_take (i := 7) (oi := ⟨some 33, _, _, _, _, _⟩) (v := ?_) rfl (by kernel_rfl) (by kernel_rfl) (by kernel_rfl) (fun _ _ _ h => h) (Or.inl ⟨by rfl, ?_⟩) (by assumption) ?_
            rotate_left
            · intro w hSw
              try dsimp only at hSw
              go_simp
              try with_reducible rfl
            simp only [Act.put, List.setIfInBounds_toArray, List.set_cons_zero, List.set_cons_succ]
            refine wpAnyH_take (i := 8) (oi := ⟨some 34, _, _, _, _, _⟩) (v := ?_) rfl (by kernel_rfl) (by kernel_rfl) (by kernel_rfl) (fun _ _ _ h => h) (Or.inl ⟨by rfl, ?_⟩) (by assumption) ?_
            rotate_left
            · intro w hSw
              try dsimp only at hSw
              go_simp
              try with_reducible rfl
            simp only [Act.put, List.setIfInBounds_toArray, List.set_cons_zero, List.set_cons_succ]
            refine wpAnyH_ready (rs := [9]) (by kernel_rfl) (by simp) ?_
            refine AllReadyH.cons rfl (fun K hK => ?_) AllReadyH.nil
            go_simp
            obtain ⟨z6x0, z6x1⟩ := box2 (u := .slice none 0 0) (v := .slice none 0 0) w5 34
            have z6F := frzZ2 w5 34
            have z6B := alloc_below w5 (.cells #[.slice none 0 0, .slice none 0 0] 34)
            have z6L := alloc_lt w5 (.cells #[.slice none 0 0, .slice none 0 0] 34)
            have z6M := (hHeld.2.2.2.2.2.2).trans (z6B.mono (hHeld.2.2.2.2.2.2).size)
            generalize w5.alloc (.cells #[.slice none 0 0, .slice none 0 0] 34) = w6 at *
            refine hK.out _ _ ?_ (fun hHeld => ?_)
            · try dsimp only
              exact HSx.out _ z6M
            clear hK K
            have bl6 : w2.heap.size ≤ w5.heap.size := b5.size
            refine wpAnyH_ready (rs := [10]) (by kernel_rfl) (by simp) ?_
            refine AllReadyH.cons rfl (fun K hK => ?_) AllReadyH.nil
            go_simp
            refine hK.out _ _ ?_ (fun hHeld => ?_)
            · try dsimp only
              refine HSx.out _ ?_
              repeat (with_reducible refine Below.setCell ?_ ?_ _; rotate_left; (focus (exact (bl6))))
              exact (hHeld.2.2.2.2.2.2)
            clear hK K
            refine wpAnyH_take (i := 11) (oi := ⟨some 9, _, _, _, _, _⟩) (v := ?_) rfl (by kernel_rfl) (by kernel_rfl) (by kernel_rfl) (fun _ _ _ h => h) (Or.inl ⟨by rfl, ?_⟩) (by assumption) ?_
            rotate_left
            · intro w hSw
              try dsimp only at hSw
              go_simp
              try with_reducible rfl
            simp only [Act.put, List.setIfInBounds_toArray, List.set_cons_zero, List.set_cons_succ]
            have HE := hidP (hHeld.2.2.2.2.2.2)
            refine wpAnyH_done (by kernel_rfl) ?_ _
            clear hHeld
            have lo := fun k hk => OwnG.lt op5 k hk
            have lo' := fun k hk => OwnG.lt ob5 k hk
            have lb : w2.heap.size ≤ w4.heap.size := by first | exact b4.size | exact z4M.size
            have HF := hidP (And.intro (OwnG.mono (OwnG.later op5 z6B) lb) (And.intro (OwnG.mono (OwnG.later ob5 z6B) lb) ne5))
            have HLo := hidP (And.intro lo lo')
            clear lo lo' op5 ob5 ne5
            go_wp2_with fail
            go_meet
            refine ⟨_, ra5, rc5, rb5, rd5, rfl, rfl, bl6, ?_, ?_, ?_, OwnG.put2 HF.out.1 (fun k hk => by have := HLo.out.1 k hk; omega), OwnG.put2 HF.out.2.1 (fun k hk => by have := HLo.out.2 k hk; omega), HF.out.2.2, (fun k hk => by have := HLo.out.1 k hk; omega), (fun k hk => by have := HLo.out.2 k hk; omega), HE.out⟩
            · simp; exact z6L
            all_goals (simp [go_sem, z6x0, z6x1])
          · go_simp
            obtain ⟨z5x0, z5x1⟩ := box2 (u := .slice none 0 0) (v := .slice none 0 0) w4 34
            have z5F := frzZ2 w4 34
            have z5B := alloc_below w4 (.cells #[.slice none 0 0, .slice none 0 0] 34)
            have z5L := alloc_lt w4 (.cells #[.slice none 0 0, .slice none 0 0] 34)
            have z5M := (hHeld.2.2.2.2.2.2).trans (z5B.mono (hHeld.2.2.2.2.2.2).size)
            generalize w4.alloc (.cells #[.slice none 0 0, .slice none 0 0] 34) = w5 at *
            refine hK.out _ _ ?_ (fun hHeld => ?_)
            · try dsimp only
              exact HSx.out _ z5M
            clear hK K
            have bl5 : w2.heap.size ≤ w4.heap.size := b4.size
            refine wpAnyH_ready (rs := [5]) (by kernel_rfl) (by simp) ?_
            refine AllReadyH.cons rfl (fun K hK => ?_) AllReadyH.nil
            go_simp
            go_wp2_with (first | (go_at_call 14; refine (HSp.out g3 h3 _ (RowG.later (RowG.later og3.row hb4) z5B) (RowG.later (RowG.later oh3.row hb4) z5B)).mono ?_; rintro e w6 ⟨ra6, rc6, rb6, rd6, rfl, op6, ob6, ne6, hb6⟩; have b6 := (hHeld.2.2.2.2.2.2).trans (hb6.mono (hHeld.2.2.2.2.2.2).size)))
            refine hK.out _ _ ?_ (fun hHeld => ?_)
            · try dsimp only
              exact HSx.out _ b6
            clear hK K
            have z6x0 := (hb6.cell z5L).trans z5x0
            have z6x1 := (hb6.cell z5L).trans z5x1
            have z6F : ∀ o, w6.frozen? ⟨w4.heap.size, o, none⟩ = false := fun o => (hb6.frozen z5L).trans (z5F o)
            have z6L : w4.heap.size < w6.heap.size := Nat.lt_of_lt_of_le z5L hb6.size
            clear z5x0 z5x1 z5F
            refine wpAnyH_take (i := 6) (oi := ⟨some 26, _, _, _, _, _⟩) (v := ?_) rfl (by kernel_rfl) (by kernel_rfl) (by kernel_rfl) (fun _ _ _ h => h) (Or.inl ⟨by rfl, ?_⟩) (by assumption) ?_
            rotate_left
            · intro w hSw
              try dsimp only at hSw
              go_simp
              try with_reducible rfl
            simp only [Act.put, List.setIfInBounds_toArray, List.set_cons_zero, List.set_cons_succ]
            refine wpAnyH_take (i := 7) (oi := ⟨some 33, _, _, _, _, _⟩) (v := ?_) rfl (by kernel_rfl) (by kernel_rfl) (by kernel_rfl) (fun _ _ _ h => h) (Or.inl ⟨by rfl, ?_⟩) (by assumption) ?_
            rotate_left
            · intro w hSw
              try dsimp only at hSw
              go_simp
              try with_reducible rfl
            simp only [Act.put, List.setIfInBounds_toArray, List.set_cons_zero, List.set_cons_succ]
            refine wpAnyH_take (i := 8) (oi := ⟨some 34, _, _, _, _, _⟩) (v := ?_) rfl (by kernel_rfl) (by kernel_rfl) (by kernel_rfl) (fun _ _ _ h => h) (Or.inl ⟨by rfl, ?_⟩) (by assumption) ?_
            rotate_left
            · intro w hSw
              try dsimp only at hSw
              go_simp
              try with_reducible rfl
            simp only [Act.put, List.setIfInBounds_toArray, List.set_cons_zero, List.set_cons_succ]
            refine wpAnyH_ready (rs := [10]) (by kernel_rfl) (by simp) ?_
            refine AllReadyH.cons rfl (fun K hK => ?_) AllReadyH.nil
            go_simp
            refine hK.out _ _ ?_ (fun hHeld => ?_)
            · try dsimp only
              refine HSx.out _ ?_
              repeat (with_reducible refine Below.setCell ?_ ?_ _; rotate_left; (focus (exact (bl5))))
              exact (hHeld.2.2.2.2.2.2)
            clear hK K
            refine wpAnyH_take (i := 11) (oi := ⟨some 9, _, _, _, _, _⟩) (v := ?_) rfl (by kernel_rfl) (by kernel_rfl) (by kernel_rfl) (fun _ _ _ h => h) (Or.inl ⟨by rfl, ?_⟩) (by assumption) ?_
            rotate_left
            · intro w hSw
              try dsimp only at hSw
              go_simp
              try with_reducible rfl
            simp only [Act.put, List.setIfInBounds_toArray, List.set_cons_zero, List.set_cons_succ]
            have HE := hidP (hHeld.2.2.2.2.2.2)
            refine wpAnyH_done (by kernel_rfl) ?_ _
            clear hHeld
            have lo := fun k hk => OwnG.lt op6 k hk
            have lo' := fun k hk => OwnG.lt ob6 k hk
            have lb : w2.heap.size ≤ w5.heap.size := by first | exact b5.size | exact z5M.size
            have pl : w4.heap.size < w5.heap.size := z5L
            have HF := hidP (And.intro (OwnG.mono op6 lb) (And.intro (OwnG.mono ob6 lb) ne6))
            have HLo := hidP (And.intro lo lo')
            clear lo lo' op6 ob6 ne6
            go_wp2_with fail
            go_meet
            refine ⟨_, ra6, rc6, rb6, rd6, rfl, rfl, bl5, ?_, ?_, ?_, OwnG.put2 HF.out.1 (fun k hk => by have := HLo.out.1 k hk; omega), OwnG.put2 HF.out.2.1 (fun k hk => by have := HLo.out.2 k hk; omega), HF.out.2.2, (fun k hk => by have := HLo.out.1 k hk; omega), (fun k hk => by have := HLo.out.2 k hk; omega), HE.out⟩
            · simp; exact z6L
            all_goals (simp [go_sem, z6x0, z6x1])
        · go_simp
          obtain ⟨z4x0, z4x1⟩ := box2 (u := .slice none 0 0) (v := .slice none 0 0) w3 34
          have z4F := frzZ2 w3 34
          have z4B := alloc_below w3 (.cells #[.slice none 0 0, .slice none 0 0] 34)
          have z4L := alloc_lt w3 (.cells #[.slice none 0 0, .slice none 0 0] 34)
          have z4M := (hHeld.2.2.2.2.2.2).trans (z4B.mono (hHeld.2.2.2.2.2.2).size)
          generalize w3.alloc (.cells #[.slice none 0 0, .slice none 0 0] 34) = w4 at *
          refine hK.out _ _ ?_ (fun hHeld => ?_)
          · try dsimp only
            exact HSx.out _ z4M
          clear hK K
          have bl4 : w2.heap.size ≤ w3.heap.size := b3.size
          refine wpAnyH_ready (rs := [3]) (by kernel_rfl) (by simp) ?_
          refine AllReadyH.cons rfl (fun K hK => ?_) AllReadyH.nil
          go_simp
          go_wp2_with (first | (go_at_call 8; refine (HTp.out _).mono ?_; rintro e w5 ⟨rfl, hb5⟩; have b5 := (hHeld.2.2.2.2.2.2).trans (hb5.mono (hHeld.2.2.2.2.2.2).size)))
          refine hK.out _ _ ?_ (fun hHeld => ?_)
          · try dsimp only
            exact HSx.out _ b5
          clear hK K
          have z5x0 := (hb5.cell z4L).trans z4x0
          have z5x1 := (hb5.cell z4L).trans z4x1
          have z5F : ∀ o, w5.frozen? ⟨w3.heap.size, o, none⟩ = false := fun o => (hb5.frozen z4L).trans (z4F o)
          have z5L : w3.heap.size < w5.heap.size := Nat.lt_of_lt_of_le z4L hb5.size
          clear z4x0 z4x1 z4F
          refine wpAnyH_ready (rs := [5]) (by kernel_rfl) (by simp) ?_
          refine AllReadyH.cons rfl (fun K hK => ?_) AllReadyH.nil
          go_simp
          go_wp2_with (first | (go_at_call 14; refine (HSp.out g3 h3 _ (RowG.later (RowG.later og3.row z4B) hb5) (RowG.later (RowG.later oh3.row z4B) hb5)).mono ?_; rintro e w6 ⟨ra6, rc6, rb6, rd6, rfl, op6, ob6, ne6, hb6⟩; have b6 := (hHeld.2.2.2.2.2.2).trans (hb6.mono (hHeld.2.2.2.2.2.2).size)))
          refine hK.out _ _ ?_ (fun hHeld => ?_)
          · try dsimp only
            exact HSx.out _ b6
          clear hK K
          have z6x0 := (hb6.cell z5L).trans z5x0
          have z6x1 := (hb6.cell z5L).trans z5x1
          have z6F : ∀ o, w6.frozen? ⟨w3.heap.size, o, none⟩ = false := fun o => (hb6.frozen z5L).trans (z5F o)
          have z6L : w3.heap.size < w6.heap.size := Nat.lt_of_lt_of_le z5L hb6.size
          clear z5x0 z5x1 z5F
          refine wpAnyH_take (i := 6) (oi := ⟨some 26, _, _, _, _, _⟩) (v := ?_) rfl (by kernel_rfl) (by kernel_rfl) (by kernel_rfl) (fun _ _ _ h => h) (Or.inl ⟨by rfl, ?_⟩) (by assumption) ?_
          rotate_left
          · intro w hSw
            try dsimp only at hSw
            go_simp
            try with_reducible rfl
          simp only [Act.put, List.setIfInBounds_toArray, List.set_cons_zero, List.set_cons_succ]
          refine wpAnyH_take (i := 7) (oi := ⟨some 33, _, _, _, _, _⟩) (v := ?_) rfl (by kernel_rfl) (by kernel_rfl) (by kernel_rfl) (fun _ _ _ h => h) (Or.inl ⟨by rfl, ?_⟩) (by assumption) ?_
          rotate_left
          · intro w hSw
            try dsimp only at hSw
            go_simp
            try with_reducible rfl
          simp only [Act.put, List.setIfInBounds_toArray, List.set_cons_zero, List.set_cons_succ]
          refine wpAnyH_take (i := 8) (oi := ⟨some 34, _, _, _, _, _⟩) (v := ?_) rfl (by kernel_rfl) (by kernel_rfl) (by kernel_rfl) (fun _ _ _ h => h) (Or.inl ⟨by rfl, ?_⟩) (by assumption) ?_
          rotate_left
          · intro w hSw
            try dsimp only at hSw
            go_simp
            try with_reducible rfl
          simp only [Act.put, List.setIfInBounds_toArray, List.set_cons_zero, List.set_cons_succ]
          refine wpAnyH_ready (rs := [10]) (by kernel_rfl) (by simp) ?_
          refine AllReadyH.cons rfl (fun K hK => ?_) AllReadyH.nil
          go_simp
          refine hK.out _ _ ?_ (fun hHeld => ?_)
          · try dsimp only
            refine HSx.out _ ?_
            repeat (with_reducible refine Below.setCell ?_ ?_ _; rotate_left; (focus (exact (bl4))))
            exact (hHeld.2.2.2.2.2.2)
          clear hK K
          refine wpAnyH_take (i := 11) (oi := ⟨some 9, _, _, _, _, _⟩) (v := ?_) rfl (by kernel_rfl) (by kernel_rfl) (by kernel_rfl) (fun _ _ _ h => h) (Or.inl ⟨by rfl, ?_⟩) (by assumption) ?_
          rotate_left
          · intro w hSw
            try dsimp only at hSw
            go_simp
            try with_reducible rfl
          simp only [Act.put, List.setIfInBounds_toArray, List.set_cons_zero, List.set_cons_succ]
          have HE := hidP (hHeld.2.2.2.2.2.2)
          refine wpAnyH_done (by kernel_rfl) ?_ _
          clear hHeld
          have lo := fun k hk => OwnG.lt op6 k hk
          have lo' := fun k hk => OwnG.lt ob6 k hk
          have lb : w2.heap.size ≤ w5.heap.size := by first | exact b5.size | exact z5M.size
          have pl : w3.heap.size < w5.heap.size := z5L
          have HF := hidP (And.intro (OwnG.mono op6 lb) (And.intro (OwnG.mono ob6 lb) ne6))
          have HLo := hidP (And.intro lo lo')
          clear lo lo' op6 ob6 ne6
          go_wp2_with fail
          go_meet
          refine ⟨_, ra6, rc6, rb6, rd6, rfl, rfl, bl4, ?_, ?_, ?_, OwnG.put2 HF.out.1 (fun k hk => by have := HLo.out.1 k hk; omega), OwnG.put2 HF.out.2.1 (fun k hk => by have := HLo.out.2 k hk; omega), HF.out.2.2, (fun k hk => by have := HLo.out.1 k hk; omega), (fun k hk => by have := HLo.out.2 k hk; omega), HE.out⟩
          · simp; exact z6L
          all_goals (simp [go_sem, z6x0, z6x1])
      · go_simp
        obtain ⟨z3x0, z3x1⟩ := box2 (u := .slice none 0 0) (v := .slice none 0 0) w2 34
        have z3F := frzZ2 w2 34
        have z3B := alloc_below w2 (.cells #[.slice none 0 0, .slice none 0 0] 34)
        have z3L := alloc_lt w2 (.cells #[.slice none 0 0, .slice none 0 0] 34)
        have z3x0 := (drew_cell (w2.alloc (.cells #[.slice none 0 0, .slice none 0 0] 34)) _).trans z3x0
        have z3x1 := (drew_cell (w2.alloc (.cells #[.slice none 0 0, .slice none 0 0] 34)) _).trans z3x1
        have z3F := fun o => (drew_frozen (w2.alloc (.cells #[.slice none 0 0, .slice none 0 0] 34)) _).trans (z3F o)
        have z3L := drew_size_lt z3L
        have z3M := z3B.drew
        generalize (w2.alloc (.cells #[.slice none 0 0, .slice none 0 0] 34)).drew = w3 at *
        refine hK.out _ _ ?_ (fun hHeld => ?_)
        · try dsimp only
          exact HSx.out _ z3M
        clear hK K
        have bl3 : w2.heap.size ≤ w2.heap.size := Nat.le_refl _
        refine wpAnyH_ready (rs := [1]) (by kernel_rfl) (by simp) ?_
        refine AllReadyH.cons rfl (fun K hK => ?_) AllReadyH.nil
        go_simp
        go_wp2_with (first | (go_at_call 7; refine (HTo.out _ (acc_w2.out.trans ((hHeld.2.2.2.2.2.2).mono acc_w2.out.size))).mono ?_; rintro e w4 ⟨g4, h4, rfl, og4, oh4, gh4, hb4⟩; have b4 := (hHeld.2.2.2.2.2.2).trans (hb4.mono (hHeld.2.2.2.2.2.2).size)))
        refine hK.out _ _ ?_ (fun hHeld => ?_)
        · try dsimp only
          exact HSx.out _ b4
        clear hK K
        have z4x0 := (hb4.cell z3L).trans z3x0
        have z4x1 := (hb4.cell z3L).trans z3x1
        have z4F : ∀ o, w4.frozen? ⟨w2.heap.size, o, none⟩ = false := fun o => (hb4.frozen z3L).trans (z3F o)
        have z4L : w2.heap.size < w4.heap.size := Nat.lt_of_lt_of_le z3L hb4.size
        clear z3x0 z3x1 z3F
        refine wpAnyH_ready (rs := [3]) (by kernel_rfl) (by simp) ?_
        refine AllReadyH.cons rfl (fun K hK => ?_) AllReadyH.nil
        go_simp
        go_wp2_with (first | (go_at_call 8; refine (HTp.out _).mono ?_; rintro e w5 ⟨rfl, hb5⟩; have b5 := (hHeld.2.2.2.2.2.2).trans (hb5.mono (hHeld.2.2.2.2.2.2).size)))
        refine hK.out _ _ ?_ (fun hHeld => ?_)
        · try dsimp only
          exact HSx.out _ b5
        clear hK K
        have z5x0 := (hb5.cell z4L).trans z4x0
        have z5x1 := (hb5.cell z4L).trans z4x1
        have z5F : ∀ o, w5.frozen? ⟨w2.heap.size, o, none⟩ = false := fun o => (hb5.frozen z4L).trans (z4F o)
        have z5L : w2.heap.size < w5.heap.size := Nat.lt_of_lt_of_le z4L hb5.size
        clear z4x0 z4x1 z4F
        refine wpAnyH_ready (rs := [5]) (by kernel_rfl) (by simp) ?_
        refine AllReadyH.cons rfl (fun K hK => ?_) AllReadyH.nil
        go_simp
        go_wp2_with (first | (go_at_call 14; refine (HSp.out g4 h4 _ (RowG.later og4.row hb5) (RowG.later oh4.row hb5)).mono ?_; rintro e w6 ⟨ra6, rc6, rb6, rd6, rfl, op6, ob6, ne6, hb6⟩; have b6 := (hHeld.2.2.2.2.2.2).trans (hb6.mono (hHeld.2.2.2.2.2.2).size)))
        refine hK.out _ _ ?_ (fun hHeld => ?_)
        · try dsimp only
          exact HSx.out _ b6
        clear hK K
        have z6x0 := (hb6.cell z5L).trans z5x0
        have z6x1 := (hb6.cell z5L).trans z5x1
        have z6F : ∀ o, w6.frozen? ⟨w2.heap.size, o, none⟩ = false := fun o => (hb6.frozen z5L).trans (z5F o)
        have z6L : w2.heap.size < w6.heap.size := Nat.lt_of_lt_of_le z5L hb6.size
        clear z5x0 z5x1 z5F
        refine wpAnyH_take (i := 6) (oi := ⟨some 26, _, _, _, _, _⟩) (v := ?_) rfl (by kernel_rfl) (by kernel_rfl) (by kernel_rfl) (fun _ _ _ h => h) (Or.inl ⟨by rfl, ?_⟩) (by assumption) ?_
        rotate_left
        · intro w hSw
          try dsimp only at hSw
          go_simp
          try with_reducible rfl
        simp only [Act.put, List.setIfInBounds_toArray, List.set_cons_zero, List.set_cons_succ]
        refine wpAnyH_take (i := 7) (oi := ⟨some 33, _, _, _, _, _⟩) (v := ?_) rfl (by kernel_rfl) (by kernel_rfl) (by kernel_rfl) (fun _ _ _ h => h) (Or.inl ⟨by rfl, ?_⟩) (by assumption) ?_
        rotate_left
        · intro w hSw
          try dsimp only at hSw
          go_simp
          try with_reducible rfl
        simp only [Act.put, List.setIfInBounds_toArray, List.set_cons_zero, List.set_cons_succ]
        refine wpAnyH_take (i := 8) (oi := ⟨some 34, _, _, _, _, _⟩) (v := ?_) rfl (by kernel_rfl) (by kernel_rfl) (by kernel_rfl) (fun _ _ _ h => h) (Or.inl ⟨by rfl, ?_⟩) (by assumption) ?_
        rotate_left
        · intro w hSw
          try dsimp only at hSw
          go_simp
          try with_reducible rfl
        simp only [Act.put, List.setIfInBounds_toArray, List.set_cons_zero, List.set_cons_succ]
        refine wpAnyH_ready (rs := [10]) (by kernel_rfl) (by simp) ?_
        refine AllReadyH.cons rfl (fun K hK => ?_) AllReadyH.nil
        go_simp
        refine hK.out _ _ ?_ (fun hHeld => ?_)
        · try dsimp only
          refine HSx.out _ ?_
          repeat (with_reducible refine Below.setCell ?_ ?_ _; rotate_left; (focus (exact (bl3))))
          exact (hHeld.2.2.2.2.2.2)
        clear hK K
        refine wpAnyH_take (i := 11) (oi := ⟨some 9, _, _, _, _, _⟩) (v := ?_) rfl (by kernel_rfl) (by kernel_rfl) (by kernel_rfl) (fun _ _ _ h => h) (Or.inl ⟨by rfl, ?_⟩) (by assumption) ?_
        rotate_left
        · intro w hSw
          try dsimp only at hSw
          go_simp
          try with_reducible rfl
        simp only [Act.put, List.setIfInBounds_toArray, List.set_cons_zero, List.set_cons_succ]
        have HE := hidP (hHeld.2.2.2.2.2.2)
        refine wpAnyH_done (by kernel_rfl) ?_ _
        clear hHeld
        have lo := fun k hk => OwnG.lt op6 k hk
        have lo' := fun k hk => OwnG.lt ob6 k hk
        have lb : w2.heap.size ≤ w5.heap.size := by first | exact b5.size | exact z5M.size
        have pl : w2.heap.size < w5.heap.size := z5L
        have HF := hidP (And.intro (OwnG.mono op6 lb) (And.intro (OwnG.mono ob6 lb) ne6))
        have HLo := hidP (And.intro lo lo')
        clear lo lo' op6 ob6 ne6
        go_wp2_with fail
        go_meet
        refine ⟨_, ra6, rc6, rb6, rd6, rfl, rfl, bl3, ?_, ?_, ?_, OwnG.put2 HF.out.1 (fun k hk => by have := HLo.out.1 k hk; omega), OwnG.put2 HF.out.2.1 (fun k hk => by have := HLo.out.2 k hk; omega), HF.out.2.2, (fun k hk => by have := HLo.out.1 k hk; omega), (fun k hk => by have := HLo.out.2 k hk; omega), HE.out⟩
        · simp; exact z6L
        all_goals (simp [go_sem, z6x0, z6x1])
    case rest =>
      obtain ⟨p1, a1, c1, b1, d1', rfl, rfl, hp1, qL, q0, q1, op1, ob1, ne1, np1, nb1, hX⟩ := hcut
      have qLo := qL
      have hSB := hidP (fun j hj => (OwnG.lt op1 j hj).2)
      have hTB := hidP (fun j hj => (OwnG.lt ob1 j hj).2)
      have oS_1 := hidP op1
      have oT_1 := hidP ob1
      have lp0_wc := (hX.cell lpL_w2).trans lp0_w2
      have lp1_wc := (hX.cell lpL_w2).trans lp1_w2
      have lpL_wc : w.heap.size < wc.heap.size := Nat.lt_of_lt_of_le lpL_w2 hX.size
      have lq0_wc := (hX.cell lqL_w2).trans lq0_w2
      have lq1_wc := (hX.cell lqL_w2).trans lq1_w2
      have lq2_wc := (hX.cell lqL_w2).trans lq2_w2
      have lq3_wc := (hX.cell lqL_w2).trans lq3_w2
      have lqL_wc : w.heap.size + 1 < wc.heap.size := Nat.lt_of_lt_of_le lqL_w2 hX.size
      have acc_wc := hidP (acc_w2.out.trans (hX.mono acc_w2.out.size))
      have sz_wc := hX.size
      have szA : w.heap.size + 1 < wc.heap.size := lqL_wc
      clear lp0_w2 lp1_w2 lpL_w2 lq0_w2 lq1_w2 lq2_w2 lq3_w2 lqL_w2 hX op1 ob1 ne1 np1 nb1 acc_w2
      go_wp2_with fail
      refine (HTo.out _ acc_wc.out).mono ?_
      rintro e w5 ⟨g2, h2, rfl, og2, oh2, gh2, hb5⟩
      have lg2 := OwnG.lt og2 g2 rfl
      have lh2 := OwnG.lt oh2 h2 rfl
      have lp0_w5 := (hb5.cell lpL_wc).trans lp0_wc
      have lp1_w5 := (hb5.cell lpL_wc).trans lp1_wc
      have lpL_w5 : w.heap.size < w5.heap.size := Nat.lt_of_lt_of_le lpL_wc hb5.size
      have lq0_w5 := (hb5.cell lqL_wc).trans lq0_wc
      have lq1_w5 := (hb5.cell lqL_wc).trans lq1_wc
      have lq2_w5 := (hb5.cell lqL_wc).trans lq2_wc
      have lq3_w5 := (hb5.cell lqL_wc).trans lq3_wc
      have lqL_w5 : w.heap.size + 1 < w5.heap.size := Nat.lt_of_lt_of_le lqL_wc hb5.size
      have q0_w5 := (hb5.cell qL).trans q0
      have q1_w5 := (hb5.cell qL).trans q1
      have qL_w5 : p1 < w5.heap.size := Nat.lt_of_lt_of_le qL hb5.size
      have oS_w5 := hidP (OwnG.later oS_1.out hb5)
      have oT_w5 := hidP (OwnG.later oT_1.out hb5)
      have acc_w5 := hidP (acc_wc.out.trans (hb5.mono acc_wc.out.size))
      have sz_w5 := hb5.size
      have oG_w5 := hidP og2
      have oH_w5 := hidP oh2
      clear lp0_wc lp1_wc lpL_wc lq0_wc lq1_wc lq2_wc lq3_wc lqL_wc q0 q1 qL oS_1 oT_1 hb5 og2 oh2 acc_wc
      go_upto_region 9 with fail
      obtain ⟨v0, v1⟩ := box2 (u := .slice (some ⟨g2, 0, none⟩) np np) (v := .slice (some ⟨h2, 0, none⟩) nb nb) w5 34
      have vB := alloc_below w5 (.cells #[.slice (some ⟨g2, 0, none⟩) np np, .slice (some ⟨h2, 0, none⟩) nb nb] 34)
      have vL := alloc_lt w5 (.cells #[.slice (some ⟨g2, 0, none⟩) np np, .slice (some ⟨h2, 0, none⟩) nb nb] 34)
      have vS : (w5.alloc (.cells #[.slice (some ⟨g2, 0, none⟩) np np, .slice (some ⟨h2, 0, none⟩) nb nb] 34)).heap.size = w5.heap.size + 1 := by simp
      generalize w5.alloc (.cells #[.slice (some ⟨g2, 0, none⟩) np np, .slice (some ⟨h2, 0, none⟩) nb nb] 34) = W6 at *
      have lp0_W6 := (vB.cell lpL_w5).trans lp0_w5
      have lp1_W6 := (vB.cell lpL_w5).trans lp1_w5
      have lpL_W6 : w.heap.size < W6.heap.size := Nat.lt_of_lt_of_le lpL_w5 vB.size
      have lq0_W6 := (vB.cell lqL_w5).trans lq0_w5
      have lq1_W6 := (vB.cell lqL_w5).trans lq1_w5
      have lq2_W6 := (vB.cell lqL_w5).trans lq2_w5
      have lq3_W6 := (vB.cell lqL_w5).trans lq3_w5
      have lqL_W6 : w.heap.size + 1 < W6.heap.size := Nat.lt_of_lt_of_le lqL_w5 vB.size
      have q0_W6 := (vB.cell qL_w5).trans q0_w5
      have q1_W6 := (vB.cell qL_w5).trans q1_w5
      have qL_W6 : p1 < W6.heap.size := Nat.lt_of_lt_of_le qL_w5 vB.size
      have oS_W6 := hidP (OwnG.later oS_w5.out vB)
      have oT_W6 := hidP (OwnG.later oT_w5.out vB)
      have oG_W6 := hidP (OwnG.later oG_w5.out vB)
      have oH_W6 := hidP (OwnG.later oH_w5.out vB)
      have acc_W6 := hidP (acc_w5.out.trans (vB.mono acc_w5.out.size))
      have sz_W6 := vB.size
      clear lp0_w5 lp1_w5 lpL_w5 lq0_w5 lq1_w5 lq2_w5 lq3_w5 lqL_w5 q0_w5 q1_w5 qL_w5 oS_w5 oT_w5 oG_w5 oH_w5 vB vS acc_w5
      go_cut [11, 12] (fun t11 t12 X => ∃ (p : Nat) (a : Option Addr) (c : Nat) (b : Option Addr) (d : Nat), t11 = .pointer (some ⟨p, 0, none⟩) ∧ t12 = .int .i64 C ∧ W6.heap.size ≤ p ∧ p < X.heap.size ∧ X.cell? ⟨p, 0, none⟩ = some (.slice a NP c) ∧ X.cell? ⟨p, 1, none⟩ = some (.slice b NB d) ∧ OwnG KPl 60 X W6.heap.size (.slice a NP c) PS ∧ OwnG KBk 62 X W6.heap.size (.slice b NB d) BS ∧ (∀ k, (Value.slice a NP c).ownBlock = some k → (Value.slice b NB d).ownBlock ≠ some k) ∧ (∀ k, (Value.slice a NP c).ownBlock = some k → k ≠ p) ∧ (∀ k, (Value.slice b NB d).ownBlock = some k → k ≠ p) ∧ Below W6.heap.size W6 X)
      case first =>
        have HSx : Hid (∀ x, Below W6.heap.size W6 x → (x.cell? ⟨w5.heap.size, 0, none⟩ = some (.slice (some ⟨g2, 0, none⟩) np np) ∧ x.cell? ⟨w5.heap.size, 1, none⟩ = some (.slice (some ⟨h2, 0, none⟩) nb nb) ∧ x.cell? ⟨w.heap.size + 1, 0, none⟩ = some (.bool pt.s) ∧ x.cell? ⟨w.heap.size + 1, 1, none⟩ = some (.int .i64 pt.H.toInt) ∧ x.cell? ⟨w.heap.size + 1, 2, none⟩ = some (.int .i64 pt.L.toInt) ∧ x.cell? ⟨w.heap.size + 1, 3, none⟩ = some (.int .i64 pt.b) ∧ Below W6.heap.size W6 x)) := hidP fun x h =>
          ⟨(h.cell vL).trans v0, (h.cell vL).trans v1, (h.cell lqL_W6).trans lq0_W6, (h.cell lqL_W6).trans lq1_W6, (h.cell lqL_W6).trans lq2_W6, (h.cell lqL_W6).trans lq3_W6, h⟩
        refine wp_region_held_drew (S := (fun x => x.cell? ⟨w5.heap.size, 0, none⟩ = some (.slice (some ⟨g2, 0, none⟩) np np) ∧ x.cell? ⟨w5.heap.size, 1, none⟩ = some (.slice (some ⟨h2, 0, none⟩) nb nb) ∧ x.cell? ⟨w.heap.size + 1, 0, none⟩ = some (.bool pt.s) ∧ x.cell? ⟨w.heap.size + 1, 1, none⟩ = some (.int .i64 pt.H.toInt) ∧ x.cell? ⟨w.heap.size + 1, 2, none⟩ = some (.int .i64 pt.L.toInt) ∧ x.cell? ⟨w.heap.size + 1, 3, none⟩ = some (.int .i64 pt.b) ∧ Below W6.heap.size W6 x)) (by kernel_rfl) ?_ (fun hHeld => ?_)
        · try dsimp only
          exact HSx.out _ (Below.refl _ _).drew
        refine wpAnyH_take (i := 0) (oi := ⟨some 38, _, _, _, _, _⟩) (v := ?_) rfl (by kernel_rfl) (by kernel_rfl) (by kernel_rfl) (fun _ _ _ h => h) (Or.inl ⟨by rfl, ?_⟩) (by assumption) ?_
        rotate_left
        · intro w hSw
          try dsimp only at hSw
          go_simp
          try with_reducible rfl
        simp only [Act.put, List.setIfInBounds_toArray, List.set_cons_zero, List.set_cons_succ]
        refine wpAnyH_take (i := 1) (oi := ⟨some 39, _, _, _, _, _⟩) (v := ?_) rfl (by kernel_rfl) (by kernel_rfl) (by kernel_rfl) (fun _ _ _ h => h) (Or.inl ⟨by rfl, ?_⟩) (by assumption) ?_
        rotate_left
        · intro w hSw
          try dsimp only at hSw
          go_simp
          try with_reducible rfl
        simp only [Act.put, List.setIfInBounds_toArray, List.set_cons_zero, List.set_cons_succ]
        refine wpAnyH_take (i := 3) (oi := ⟨some 41, _, _, _, _, _⟩) (v := ?_) rfl (by kernel_rfl) (by kernel_rfl) (by kernel_rfl) (fun _ _ _ h => h) (Or.inl ⟨by rfl, ?_⟩) (by assumption) ?_
        rotate_left
        · intro w hSw
          try dsimp only at hSw
          go_simp
          try with_reducible rfl
        simp only [Act.put, List.setIfInBounds_toArray, List.set_cons_zero, List.set_cons_succ]
        refine wpAnyH_ready (rs := [2, 8]) (by kernel_rfl) (by simp) ?_
        refine AllReadyH.cons rfl (fun K hK => ?_) (AllReadyH.cons rfl (fun K hK => ?_) AllReadyH.nil)
        · go_simp
          go_wp2_with (first | (go_at_call 8; refine (HTp.out _).mono ?_; rintro e w7 ⟨rfl, hb7⟩; have b7 := (hHeld.2.2.2.2.2.2).trans (hb7.mono (hHeld.2.2.2.2.2.2).size)))
          refine hK.out _ _ ?_ (fun hHeld => ?_)
          · try dsimp only
            exact HSx.out _ b7
          clear hK K
          refine wpAnyH_ready (rs := [4, 8]) (by kernel_rfl) (by simp) ?_
          refine AllReadyH.cons rfl (fun K hK => ?_) (AllReadyH.cons rfl (fun K hK => ?_) AllReadyH.nil)
          · go_simp
            go_wp2_with (first | (go_at_call 15; refine (HIm.out g2 h2 _ (oG_W6.out.row.later (hHeld.2.2.2.2.2.2)) (oH_W6.out.row.later (hHeld.2.2.2.2.2.2))).mono ?_; rintro e w8 ⟨ra8, rc8, rb8, rd8, rfl, op8, ob8, ne8, hb8⟩; have b8 := (hHeld.2.2.2.2.2.2).trans (hb8.mono (hHeld.2.2.2.2.2.2).size)))
            refine hK.out _ _ ?_ (fun hHeld => ?_)
            · try dsimp only
              exact HSx.out _ b8
            clear hK K
            refine wpAnyH_take (i := 5) (oi := ⟨some 37, _, _, _, _, _⟩) (v := ?_) rfl (by kernel_rfl) (by kernel_rfl) (by kernel_rfl) (fun _ _ _ h => h) (Or.inl ⟨by rfl, ?_⟩) (by assumption) ?_
            rotate_left
            · intro w hSw
              try dsimp only at hSw
              go_simp
              try with_reducible rfl
            simp only [Act.put, List.setIfInBounds_toArray, List.set_cons_zero, List.set_cons_succ]
            refine wpAnyH_take (i := 6) (oi := ⟨some 43, _, _, _, _, _⟩) (v := ?_) rfl (by kernel_rfl) (by kernel_rfl) (by kernel_rfl) (fun _ _ _ h => h) (Or.inl ⟨by rfl, ?_⟩) (by assumption) ?_
            rotate_left
            · intro w hSw
              try dsimp only at hSw
              go_simp
              try with_reducible rfl
            simp only [Act.put, List.setIfInBounds_toArray, List.set_cons_zero, List.set_cons_succ]
            refine wpAnyH_take (i := 7) (oi := ⟨some 44, _, _, _, _, _⟩) (v := ?_) rfl (by kernel_rfl) (by kernel_rfl) (by kernel_rfl) (fun _ _ _ h => h) (Or.inl ⟨by rfl, ?_⟩) (by assumption) ?_
            rotate_left
            · intro w hSw
              try dsimp only at hSw
              go_simp
              try with_reducible rfl
            simp only [Act.put, List.setIfInBounds_toArray, List.set_cons_zero, List.set_cons_succ]
            refine wpAnyH_ready (rs := [8]) (by kernel_rfl) (by simp) ?_
            refine AllReadyH.cons rfl (fun K hK => ?_) AllReadyH.nil
            go_simp
            obtain ⟨z9x0, z9x1⟩ := box2 (u := .slice none 0 0) (v := .slice none 0 0) w8 34
            have z9F := frzZ2 w8 34
            have z9B := alloc_below w8 (.cells #[.slice none 0 0, .slice none 0 0] 34)
            have z9L := alloc_lt w8 (.cells #[.slice none 0 0, .slice none 0 0] 34)
            have z9M := (hHeld.2.2.2.2.2.2).trans (z9B.mono (hHeld.2.2.2.2.2.2).size)
            generalize w8.alloc (.cells #[.slice none 0 0, .slice none 0 0] 34) = w9 at *
            refine hK.out _ _ ?_ (fun hHeld => ?_)
            · try dsimp only
              exact HSx.out _ z9M
            clear hK K
            have bl9 : W6.heap.size ≤ w8.heap.size := b8.size
            refine wpAnyH_ready (rs := [9]) (by kernel_rfl) (by simp) ?_
            refine AllReadyH.cons rfl (fun K hK => ?_) AllReadyH.nil
            go_simp
            refine hK.out _ _ ?_ (fun hHeld => ?_)
            · try dsimp only
              refine HSx.out _ ?_
              repeat (with_reducible refine Below.setCell ?_ ?_ _; rotate_left; (focus (exact (bl9))))
              exact (hHeld.2.2.2.2.2.2)
            clear hK K
            refine wpAnyH_take (i := 10) (oi := ⟨some 12, _, _, _, _, _⟩) (v := ?_) rfl (by kernel_rfl) (by kernel_rfl) (by kernel_rfl) (fun _ _ _ h => h) (Or.inl ⟨by rfl, ?_⟩) (by assumption) ?_
            rotate_left
            · intro w hSw
              try dsimp only at hSw
              go_simp
              try with_reducible rfl
            simp only [Act.put, List.setIfInBounds_toArray, List.set_cons_zero, List.set_cons_succ]
            have HE := hidP (hHeld.2.2.2.2.2.2)
            refine wpAnyH_done (by kernel_rfl) ?_ _
            clear hHeld
            have lo := fun k hk => OwnG.lt op8 k hk
            have lo' := fun k hk => OwnG.lt ob8 k hk
            have lb : W6.heap.size ≤ w7.heap.size := by first | exact b7.size | exact z7M.size
            have HF := hidP (And.intro (OwnG.mono (OwnG.later op8 z9B) lb) (And.intro (OwnG.mono (OwnG.later ob8 z9B) lb) ne8))
            have HLo := hidP (And.intro lo lo')
            clear lo lo' op8 ob8 ne8
            go_wp2_with fail
            go_meet
            refine ⟨_, ra8, rc8, rb8, rd8, rfl, rfl, bl9, ?_, ?_, ?_, OwnG.put2 HF.out.1 (fun k hk => by have := HLo.out.1 k hk; omega), OwnG.put2 HF.out.2.1 (fun k hk => by have := HLo.out.2 k hk; omega), HF.out.2.2, (fun k hk => by have := HLo.out.1 k hk; omega), (fun k hk => by have := HLo.out.2 k hk; omega), HE.out⟩
            · simp; exact z9L
            all_goals (simp [go_sem, z9x0, z9x1])
          · go_simp
            obtain ⟨z8x0, z8x1⟩ := box2 (u := .slice none 0 0) (v := .slice none 0 0) w7 34
            have z8F := frzZ2 w7 34
            have z8B := alloc_below w7 (.cells #[.slice none 0 0, .slice none 0 0] 34)
            have z8L := alloc_lt w7 (.cells #[.slice none 0 0, .slice none 0 0] 34)
            have z8M := (hHeld.2.2.2.2.2.2).trans (z8B.mono (hHeld.2.2.2.2.2.2).size)
            generalize w7.alloc (.cells #[.slice none 0 0, .slice none 0 0] 34) = w8 at *
            refine hK.out _ _ ?_ (fun hHeld => ?_)
            · try dsimp only
              exact HSx.out _ z8M
            clear hK K
            have bl8 : W6.heap.size ≤ w7.heap.size := b7.size
            refine wpAnyH_ready (rs := [4]) (by kernel_rfl) (by simp) ?_
            refine AllReadyH.cons rfl (fun K hK => ?_) AllReadyH.nil
            go_simp
            go_wp2_with (first | (go_at_call 15; refine (HIm.out g2 h2 _ (oG_W6.out.row.later (hHeld.2.2.2.2.2.2)) (oH_W6.out.row.later (hHeld.2.2.2.2.2.2))).mono ?_; rintro e w9 ⟨ra9, rc9, rb9, rd9, rfl, op9, ob9, ne9, hb9⟩; have b9 := (hHeld.2.2.2.2.2.2).trans (hb9.mono (hHeld.2.2.2.2.2.2).size)))
            refine hK.out _ _ ?_ (fun hHeld => ?_)
            · try dsimp only
              exact HSx.out _ b9
            clear hK K
            have z9x0 := (hb9.cell z8L).trans z8x0
            have z9x1 := (hb9.cell z8L).trans z8x1
            have z9F : ∀ o, w9.frozen? ⟨w7.heap.size, o, none⟩ = false := fun o => (hb9.frozen z8L).trans (z8F o)
            have z9L : w7.heap.size < w9.heap.size := Nat.lt_of_lt_of_le z8L hb9.size
            clear z8x0 z8x1 z8F
            refine wpAnyH_take (i := 5) (oi := ⟨some 37, _, _, _, _, _⟩) (v := ?_) rfl (by kernel_rfl) (by kernel_rfl) (by kernel_rfl) (fun _ _ _ h => h) (Or.inl ⟨by rfl, ?_⟩) (by assumption) ?_
            rotate_left
            · intro w hSw
              try dsimp only at hSw
              go_simp
              try with_reducible rfl
            simp only [Act.put, List.setIfInBounds_toArray, List.set_cons_zero, List.set_cons_succ]
            refine wpAnyH_take (i := 6) (oi := ⟨some 43, _, _, _, _, _⟩) (v := ?_) rfl (by kernel_rfl) (by kernel_rfl) (by kernel_rfl) (fun _ _ _ h => h) (Or.inl ⟨by rfl, ?_⟩) (by assumption) ?_
            rotate_left
            · intro w hSw
              try dsimp only at hSw
              go_simp
              try with_reducible rfl
            simp only [Act.put, List.setIfInBounds_toArray, List.set_cons_zero, List.set_cons_succ]
            refine wpAnyH_take (i := 7) (oi := ⟨some 44, _, _, _, _, _⟩) (v := ?_) rfl (by kernel_rfl) (by kernel_rfl) (by kernel_rfl) (fun _ _ _ h => h) (Or.inl ⟨by rfl, ?_⟩) (by assumption) ?_
            rotate_left
            · intro w hSw
              try dsimp only at hSw
              go_simp
              try with_reducible rfl
            simp only [Act.put, List.setIfInBounds_toArray, List.set_cons_zero, List.set_cons_succ]
            refine wpAnyH_ready (rs := [9]) (by kernel_rfl) (by simp) ?_
            refine AllReadyH.cons rfl (fun K hK => ?_) AllReadyH.nil
            go_simp
            refine hK.out _ _ ?_ (fun hHeld => ?_)
            · try dsimp only
              refine HSx.out _ ?_
              repeat (with_reducible refine Below.setCell ?_ ?_ _; rotate_left; (focus (exact (bl8))))
              exact (hHeld.2.2.2.2.2.2)
            clear hK K
            refine wpAnyH_take (i := 10) (oi := ⟨some 12, _, _, _, _, _⟩) (v := ?_) rfl (by kernel_rfl) (by kernel_rfl) (by kernel_rfl) (fun _ _ _ h => h) (Or.inl ⟨by rfl, ?_⟩) (by assumption) ?_
            rotate_left
            · intro w hSw
              try dsimp only at hSw
              go_simp
              try with_reducible rfl
            simp only [Act.put, List.setIfInBounds_toArray, List.set_cons_zero, List.set_cons_succ]
            have HE := hidP (hHeld.2.2.2.2.2.2)
            refine wpAnyH_done (by kernel_rfl) ?_ _
            clear hHeld
            have lo := fun k hk => OwnG.lt op9 k hk
            have lo' := fun k hk => OwnG.lt ob9 k hk
            have lb : W6.heap.size ≤ w8.heap.size := by first | exact b8.size | exact z8M.size
            have pl : w7.heap.size < w8.heap.size := z8L
            have HF := hidP (And.intro (OwnG.mono op9 lb) (And.intro (OwnG.mono ob9 lb) ne9))
            have HLo := hidP (And.intro lo lo')
            clear lo lo' op9 ob9 ne9
            go_wp2_with fail
            go_meet
            refine ⟨_, ra9, rc9, rb9, rd9, rfl, rfl, bl8, ?_, ?_, ?_, OwnG.put2 HF.out.1 (fun k hk => by have := HLo.out.1 k hk; omega), OwnG.put2 HF.out.2.1 (fun k hk => by have := HLo.out.2 k hk; omega), HF.out.2.2, (fun k hk => by have := HLo.out.1 k hk; omega), (fun k hk => by have := HLo.out.2 k hk; omega), HE.out⟩
            · simp; exact z9L
            all_goals (simp [go_sem, z9x0, z9x1])
        · go_simp
          obtain ⟨z7x0, z7x1⟩ := box2 (u := .slice none 0 0) (v := .slice none 0 0) W6 34
          have z7F := frzZ2 W6 34
          have z7B := alloc_below W6 (.cells #[.slice none 0 0, .slice none 0 0] 34)
          have z7L := alloc_lt W6 (.cells #[.slice none 0 0, .slice none 0 0] 34)
          have z7x0 := (drew_cell (W6.alloc (.cells #[.slice none 0 0, .slice none 0 0] 34)) _).trans z7x0
          have z7x1 := (drew_cell (W6.alloc (.cells #[.slice none 0 0, .slice none 0 0] 34)) _).trans z7x1
          have z7F := fun o => (drew_frozen (W6.alloc (.cells #[.slice none 0 0, .slice none 0 0] 34)) _).trans (z7F o)
          have z7L := drew_size_lt z7L
          have z7M := z7B.drew
          generalize (W6.alloc (.cells #[.slice none 0 0, .slice none 0 0] 34)).drew = w7 at *
          refine hK.out _ _ ?_ (fun hHeld => ?_)
          · try dsimp only
            exact HSx.out _ z7M
          clear hK K
          have bl7 : W6.heap.size ≤ W6.heap.size := Nat.le_refl _
          refine wpAnyH_ready (rs := [2]) (by kernel_rfl) (by simp) ?_
          refine AllReadyH.cons rfl (fun K hK => ?_) AllReadyH.nil
          go_simp
          go_wp2_with (first | (go_at_call 8; refine (HTp.out _).mono ?_; rintro e w8 ⟨rfl, hb8⟩; have b8 := (hHeld.2.2.2.2.2.2).trans (hb8.mono (hHeld.2.2.2.2.2.2).size)))
          refine hK.out _ _ ?_ (fun hHeld => ?_)
          · try dsimp only
            exact HSx.out _ b8
          clear hK K
          have z8x0 := (hb8.cell z7L).trans z7x0
          have z8x1 := (hb8.cell z7L).trans z7x1
          have z8F : ∀ o, w8.frozen? ⟨W6.heap.size, o, none⟩ = false := fun o => (hb8.frozen z7L).trans (z7F o)
          have z8L : W6.heap.size < w8.heap.size := Nat.lt_of_lt_of_le z7L hb8.size
          clear z7x0 z7x1 z7F
          refine wpAnyH_ready (rs := [4]) (by kernel_rfl) (by simp) ?_
          refine AllReadyH.cons rfl (fun K hK => ?_) AllReadyH.nil
          go_simp
          go_wp2_with (first | (go_at_call 15; refine (HIm.out g2 h2 _ (oG_W6.out.row.later (hHeld.2.2.2.2.2.2)) (oH_W6.out.row.later (hHeld.2.2.2.2.2.2))).mono ?_; rintro e w9 ⟨ra9, rc9, rb9, rd9, rfl, op9, ob9, ne9, hb9⟩; have b9 := (hHeld.2.2.2.2.2.2).trans (hb9.mono (hHeld.2.2.2.2.2.2).size)))
          refine hK.out _ _ ?_ (fun hHeld => ?_)
          · try dsimp only
            exact HSx.out _ b9
          clear hK K
          have z9x0 := (hb9.cell z8L).trans z8x0
          have z9x1 := (hb9.cell z8L).trans z8x1
          have z9F : ∀ o, w9.frozen? ⟨W6.heap.size, o, none⟩ = false := fun o => (hb9.frozen z8L).trans (z8F o)
          have z9L : W6.heap.size < w9.heap.size := Nat.lt_of_lt_of_le z8L hb9.size
          clear z8x0 z8x1 z8F
          refine wpAnyH_take (i := 5) (oi := ⟨some 37, _, _, _, _, _⟩) (v := ?_) rfl (by kernel_rfl) (by kernel_rfl) (by kernel_rfl) (fun _ _ _ h => h) (Or.inl ⟨by rfl, ?_⟩) (by assumption) ?_
          rotate_left
          · intro w hSw
            try dsimp only at hSw
            go_simp
            try with_reducible rfl
          simp only [Act.put, List.setIfInBounds_toArray, List.set_cons_zero, List.set_cons_succ]
          refine wpAnyH_take (i := 6) (oi := ⟨some 43, _, _, _, _, _⟩) (v := ?_) rfl (by kernel_rfl) (by kernel_rfl) (by kernel_rfl) (fun _ _ _ h => h) (Or.inl ⟨by rfl, ?_⟩) (by assumption) ?_
          rotate_left
          · intro w hSw
            try dsimp only at hSw
            go_simp
            try with_reducible rfl
          simp only [Act.put, List.setIfInBounds_toArray, List.set_cons_zero, List.set_cons_succ]
          refine wpAnyH_take (i := 7) (oi := ⟨some 44, _, _, _, _, _⟩) (v := ?_) rfl (by kernel_rfl) (by kernel_rfl) (by kernel_rfl) (fun _ _ _ h => h) (Or.inl ⟨by rfl, ?_⟩) (by assumption) ?_
          rotate_left
          · intro w hSw
            try dsimp only at hSw
            go_simp
            try with_reducible rfl
          simp only [Act.put, List.setIfInBounds_toArray, List.set_cons_zero, List.set_cons_succ]
          refine wpAnyH_ready (rs := [9]) (by kernel_rfl) (by simp) ?_
          refine AllReadyH.cons rfl (fun K hK => ?_) AllReadyH.nil
          go_simp
          refine hK.out _ _ ?_ (fun hHeld => ?_)
          · try dsimp only
            refine HSx.out _ ?_
            repeat (with_reducible refine Below.setCell ?_ ?_ _; rotate_left; (focus (exact (bl7))))
            exact (hHeld.2.2.2.2.2.2)
          clear hK K
          refine wpAnyH_take (i := 10) (oi := ⟨some 12, _, _, _, _, _⟩) (v := ?_) rfl (by kernel_rfl) (by kernel_rfl) (by kernel_rfl) (fun _ _ _ h => h) (Or.inl ⟨by rfl, ?_⟩) (by assumption) ?_
          rotate_left
          · intro w hSw
            try dsimp only at hSw
            go_simp
            try with_reducible rfl
          simp only [Act.put, List.setIfInBounds_toArray, List.set_cons_zero, List.set_cons_succ]
          have HE := hidP (hHeld.2.2.2.2.2.2)
          refine wpAnyH_done (by kernel_rfl) ?_ _
          clear hHeld
          have lo := fun k hk => OwnG.lt op9 k hk
          have lo' := fun k hk => OwnG.lt ob9 k hk
          have lb : W6.heap.size ≤ w8.heap.size := by first | exact b8.size | exact z8M.size
          have pl : W6.heap.size < w8.heap.size := z8L
          have HF := hidP (And.intro (OwnG.mono op9 lb) (And.intro (OwnG.mono ob9 lb) ne9))
          have HLo := hidP (And.intro lo lo')
          clear lo lo' op9 ob9 ne9
          go_wp2_with fail
          go_meet
          refine ⟨_, ra9, rc9, rb9, rd9, rfl, rfl, bl7, ?_, ?_, ?_, OwnG.put2 HF.out.1 (fun k hk => by have := HLo.out.1 k hk; omega), OwnG.put2 HF.out.2.1 (fun k hk => by have := HLo.out.2 k hk; omega), HF.out.2.2, (fun k hk => by have := HLo.out.1 k hk; omega), (fun k hk => by have := HLo.out.2 k hk; omega), HE.out⟩
          · simp; exact z9L
          all_goals (simp [go_sem, z9x0, z9x1])
      case rest =>
        obtain ⟨p2, a2, c2, b2, d2', rfl, rfl, hp2, rL, r0, r1, op2, ob2, ne2, np2, nb2, hX⟩ := hcut
        have HNE := hidP ne2
        have HNQ := hidP (And.intro np2 nb2)
        have oI_1 := hidP op2
        have oJ_1 := hidP ob2
        have lp0_wc := (hX.cell lpL_W6).trans lp0_W6
        have lp1_wc := (hX.cell lpL_W6).trans lp1_W6
        have lpL_wc : w.heap.size < wc.heap.size := Nat.lt_of_lt_of_le lpL_W6 hX.size
        have lq0_wc := (hX.cell lqL_W6).trans lq0_W6
        have lq1_wc := (hX.cell lqL_W6).trans lq1_W6
        have lq2_wc := (hX.cell lqL_W6).trans lq2_W6
        have lq3_wc := (hX.cell lqL_W6).trans lq3_W6
        have lqL_wc : w.heap.size + 1 < wc.heap.size := Nat.lt_of_lt_of_le lqL_W6 hX.size
        have q0_wc := (hX.cell qL_W6).trans q0_W6
        have q1_wc := (hX.cell qL_W6).trans q1_W6
        have qL_wc : p1 < wc.heap.size := Nat.lt_of_lt_of_le qL_W6 hX.size
        have x00_wc := (hX.cell vL).trans v0
        have x01_wc := (hX.cell vL).trans v1
        have x0L_wc : w5.heap.size < wc.heap.size := Nat.lt_of_lt_of_le vL hX.size
        have oS_wc := hidP (OwnG.later oS_W6.out hX)
        have oT_wc := hidP (OwnG.later oT_W6.out hX)
        have oG_wc := hidP (OwnG.later oG_W6.out hX)
        have oH_wc := hidP (OwnG.later oH_W6.out hX)
        have acc_wc := hidP (acc_W6.out.trans (hX.mono acc_W6.out.size))
        have sz_wc := hX.size
        clear lp0_W6 lp1_W6 lpL_W6 lq0_W6 lq1_W6 lq2_W6 lq3_W6 lqL_W6 q0_W6 q1_W6 qL_W6 v0 v1 vL oS_W6 oT_W6 oG_W6 oH_W6 hX op2 ob2 ne2 np2 nb2 acc_W6
        go_wp2_with fail
        refine (HEr.out _ a2 c2 b2 d2' a1 c1 b1 d1' oI_1.out.row oS_wc.out.row oJ_1.out.row oT_wc.out.row).mono ?_
        rintro e w8 ⟨rfl, hb_w8⟩
        have lp0_w8 := (hb_w8.cell lpL_wc).trans lp0_wc
        have lp1_w8 := (hb_w8.cell lpL_wc).trans lp1_wc
        have lpL_w8 : w.heap.size < w8.heap.size := Nat.lt_of_lt_of_le lpL_wc hb_w8.size
        have lq0_w8 := (hb_w8.cell lqL_wc).trans lq0_wc
        have lq1_w8 := (hb_w8.cell lqL_wc).trans lq1_wc
        have lq2_w8 := (hb_w8.cell lqL_wc).trans lq2_wc
        have lq3_w8 := (hb_w8.cell lqL_wc).trans lq3_wc
        have lqL_w8 : w.heap.size + 1 < w8.heap.size := Nat.lt_of_lt_of_le lqL_wc hb_w8.size
        have q0_w8 := (hb_w8.cell qL_wc).trans q0_wc
        have q1_w8 := (hb_w8.cell qL_wc).trans q1_wc
        have qL_w8 : p1 < w8.heap.size := Nat.lt_of_lt_of_le qL_wc hb_w8.size
        have x00_w8 := (hb_w8.cell x0L_wc).trans x00_wc
        have x01_w8 := (hb_w8.cell x0L_wc).trans x01_wc
        have x0L_w8 : w5.heap.size < w8.heap.size := Nat.lt_of_lt_of_le x0L_wc hb_w8.size
        have r0_w8 := (hb_w8.cell rL).trans r0
        have r1_w8 := (hb_w8.cell rL).trans r1
        have rL_w8 : p2 < w8.heap.size := Nat.lt_of_lt_of_le rL hb_w8.size
        have oS_w8 := hidP (OwnG.later oS_wc.out hb_w8)
        have oT_w8 := hidP (OwnG.later oT_wc.out hb_w8)
        have oG_w8 := hidP (OwnG.later oG_wc.out hb_w8)
        have oH_w8 := hidP (OwnG.later oH_wc.out hb_w8)
        have oI_w8 := hidP (OwnG.later oI_1.out hb_w8)
        have oJ_w8 := hidP (OwnG.later oJ_1.out hb_w8)
        have acc_w8 := hidP (acc_wc.out.trans (hb_w8.mono acc_wc.out.size))
        have sz_w8 := hb_w8.size
        clear lp0_wc lp1_wc lpL_wc lq0_wc lq1_wc lq2_wc lq3_wc lqL_wc q0_wc q1_wc qL_wc x00_wc x01_wc x0L_wc r0 r1 rL oS_wc oT_wc oG_wc oH_wc oI_1 oJ_1 hb_w8 acc_wc
        go_wp2_with fail
        have HSx : Hid (∀ x, Below w8.heap.size w8 x → (x.cell? ⟨w.heap.size, 0, none⟩ = some (.slice ap np cp) ∧ x.cell? ⟨w.heap.size, 1, none⟩ = some (.slice ab nb cb) ∧ x.cell? ⟨w5.heap.size, 0, none⟩ = some (.slice (some ⟨g2, 0, none⟩) np np) ∧ x.cell? ⟨w5.heap.size, 1, none⟩ = some (.slice (some ⟨h2, 0, none⟩) nb nb) ∧ Below w8.heap.size w8 x)) := hidP fun x h =>
          ⟨(h.cell lpL_w8).trans lp0_w8, (h.cell lpL_w8).trans lp1_w8, (h.cell x0L_w8).trans x00_w8, (h.cell x0L_w8).trans x01_w8, h⟩
        refine wp_region_held_drew (S := (fun x => x.cell? ⟨w.heap.size, 0, none⟩ = some (.slice ap np cp) ∧ x.cell? ⟨w.heap.size, 1, none⟩ = some (.slice ab nb cb) ∧ x.cell? ⟨w5.heap.size, 0, none⟩ = some (.slice (some ⟨g2, 0, none⟩) np np) ∧ x.cell? ⟨w5.heap.size, 1, none⟩ = some (.slice (some ⟨h2, 0, none⟩) nb nb) ∧ Below w8.heap.size w8 x)) (by kernel_rfl) ?_ (fun hHeld => ?_)
        · try dsimp only
          exact HSx.out _ ((Below.refl _ _).drew)
        refine wpAnyH_take (i := 0) (oi := ⟨some 54, _, _, _, _, _⟩) (v := ?_) rfl (by kernel_rfl) (by kernel_rfl) (by kernel_rfl) (fun _ _ _ h => h) (Or.inl ⟨by rfl, ?_⟩) (by assumption) ?_
        rotate_left
        · intro w hSw
          try dsimp only at hSw
          go_simp
          try with_reducible rfl
        simp only [Act.put, List.setIfInBounds_toArray, List.set_cons_zero, List.set_cons_succ]
        refine wpAnyH_take (i := 1) (oi := ⟨some 55, _, _, _, _, _⟩) (v := ?_) rfl (by kernel_rfl) (by kernel_rfl) (by kernel_rfl) (fun _ _ _ h => h) (Or.inl ⟨by rfl, ?_⟩) (by assumption) ?_
        rotate_left
        · intro w hSw
          try dsimp only at hSw
          go_simp
          try with_reducible rfl
        simp only [Act.put, List.setIfInBounds_toArray, List.set_cons_zero, List.set_cons_succ]
        refine wpAnyH_ready (rs := [2]) (by kernel_rfl) (by simp) ?_
        refine AllReadyH.cons rfl (fun K hK => ?_) AllReadyH.nil
        go_simp
        go_wp2_with (first | (go_at_call 7; refine (HTo.out _ (acc_w8.out.trans ((hHeld.2.2.2.2).mono acc_w8.out.size))).mono ?_; rintro e w9 ⟨g3, h3, rfl, og3, oh3, gh3, hb9⟩; have b9 := (hHeld.2.2.2.2).trans (hb9.mono (hHeld.2.2.2.2).size)))
        refine hK.out _ _ ?_ (fun hHeld => ?_)
        · try dsimp only
          exact HSx.out _ b9
        clear hK K
        refine wpAnyH_ready (rs := [3]) (by kernel_rfl) (by simp) ?_
        refine AllReadyH.cons rfl (fun K hK => ?_) AllReadyH.nil
        go_simp
        go_wp2_with (first | (go_at_call 10; refine (HEq.out _ g2 h2 g3 h3 (RowG.later oG_w8.out.row (hHeld.2.2.2.2)) og3.row (RowG.later oH_w8.out.row (hHeld.2.2.2.2)) oh3.row).mono ?_; rintro e w10 ⟨rfl, hb10⟩; have b10 := (hHeld.2.2.2.2).trans (hb10.mono (hHeld.2.2.2.2).size)))
        refine hK.out _ _ ?_ (fun hHeld => ?_)
        · try dsimp only
          exact HSx.out _ b10
        clear hK K
        refine wpAnyH_take (i := 4) (oi := ⟨some 58, _, _, _, _, _⟩) (v := ?_) rfl (by kernel_rfl) (by kernel_rfl) (by kernel_rfl) (fun _ _ _ h => h) (Or.inl ⟨by rfl, ?_⟩) (by assumption) ?_
        rotate_left
        · intro w hSw
          try dsimp only at hSw
          go_simp
          try with_reducible rfl
        simp only [Act.put, List.setIfInBounds_toArray, List.set_cons_zero, List.set_cons_succ]
        have HE := hidP (hHeld.2.2.2.2)
        refine wpAnyH_done (by kernel_rfl) ?_ _
        clear hHeld
        have hb10 := HE.out
        have lp0_w10 := (hb10.cell lpL_w8).trans lp0_w8
        have lp1_w10 := (hb10.cell lpL_w8).trans lp1_w8
        have lpL_w10 : w.heap.size < w10.heap.size := Nat.lt_of_lt_of_le lpL_w8 hb10.size
        have lq0_w10 := (hb10.cell lqL_w8).trans lq0_w8
        have lq1_w10 := (hb10.cell lqL_w8).trans lq1_w8
        have lq2_w10 := (hb10.cell lqL_w8).trans lq2_w8
        have lq3_w10 := (hb10.cell lqL_w8).trans lq3_w8
        have lqL_w10 : w.heap.size + 1 < w10.heap.size := Nat.lt_of_lt_of_le lqL_w8 hb10.size
        have q0_w10 := (hb10.cell qL_w8).trans q0_w8
        have q1_w10 := (hb10.cell qL_w8).trans q1_w8
        have qL_w10 : p1 < w10.heap.size := Nat.lt_of_lt_of_le qL_w8 hb10.size
        have x00_w10 := (hb10.cell x0L_w8).trans x00_w8
        have x01_w10 := (hb10.cell x0L_w8).trans x01_w8
        have x0L_w10 : w5.heap.size < w10.heap.size := Nat.lt_of_lt_of_le x0L_w8 hb10.size
        have r0_w10 := (hb10.cell rL_w8).trans r0_w8
        have r1_w10 := (hb10.cell rL_w8).trans r1_w8
        have rL_w10 : p2 < w10.heap.size := Nat.lt_of_lt_of_le rL_w8 hb10.size
        have oS_w10 := hidP (OwnG.later oS_w8.out hb10)
        have oT_w10 := hidP (OwnG.later oT_w8.out hb10)
        have oG_w10 := hidP (OwnG.later oG_w8.out hb10)
        have oH_w10 := hidP (OwnG.later oH_w8.out hb10)
        have oI_w10 := hidP (OwnG.later oI_w8.out hb10)
        have oJ_w10 := hidP (OwnG.later oJ_w8.out hb10)
        have acc_w10 := hidP (acc_w8.out.trans (hb10.mono acc_w8.out.size))
        have sz_w10 := hb10.size
        clear lp0_w8 lp1_w8 lpL_w8 lq0_w8 lq1_w8 lq2_w8 lq3_w8 lqL_w8 q0_w8 q1_w8 qL_w8 x00_w8 x01_w8 x0L_w8 r0_w8 r1_w8 rL_w8 oS_w8 oT_w8 oG_w8 oH_w8 oI_w8 oJ_w8 hb10 acc_w8 og3 oh3 gh3 hb9 b9 b10 HSx HE
        go_wp2_with fail
        refine (HMk.out w10 g2 h2 _ oG_w10.out oH_w10.out (fun j h1 h2' => by simp [Value.ownBlock] at h1 h2'; omega)).mono ?_
        rintro e w11 ⟨rfl, om1, om2, wm, hgm, hgn⟩
        have lS := lg2.1
        have lS' := lh2.1
        have lS2 := lg2.2
        have lS3 := lh2.2
        clear x00_w10 x01_w10 x0L_w10
        clear oG_w10 oH_w10
        have lp0_wm := (World.cell?_of_block (hgm.block (w.heap.size) lpL_w10 (fun he => by simp [Value.ownBlock] at he; omega))).trans lp0_w10
        have lp1_wm := (World.cell?_of_block (hgm.block (w.heap.size) lpL_w10 (fun he => by simp [Value.ownBlock] at he; omega))).trans lp1_w10
        have lpL_wm : w.heap.size < wm.heap.size := Nat.lt_of_lt_of_le lpL_w10 hgm.size
        have lq0_wm := (World.cell?_of_block (hgm.block (w.heap.size + 1) lqL_w10 (fun he => by simp [Value.ownBlock] at he; omega))).trans lq0_w10
        have lq1_wm := (World.cell?_of_block (hgm.block (w.heap.size + 1) lqL_w10 (fun he => by simp [Value.ownBlock] at he; omega))).trans lq1_w10
        have lq2_wm := (World.cell?_of_block (hgm.block (w.heap.size + 1) lqL_w10 (fun he => by simp [Value.ownBlock] at he; omega))).trans lq2_w10
        have lq3_wm := (World.cell?_of_block (hgm.block (w.heap.size + 1) lqL_w10 (fun he => by simp [Value.ownBlock] at he; omega))).trans lq3_w10
        have lqL_wm : w.heap.size + 1 < wm.heap.size := Nat.lt_of_lt_of_le lqL_w10 hgm.size
        have q0_wm := (World.cell?_of_block (hgm.block (p1) qL_w10 (fun he => by simp [Value.ownBlock] at he; omega))).trans q0_w10
        have q1_wm := (World.cell?_of_block (hgm.block (p1) qL_w10 (fun he => by simp [Value.ownBlock] at he; omega))).trans q1_w10
        have qL_wm : p1 < wm.heap.size := Nat.lt_of_lt_of_le qL_w10 hgm.size
        have r0_wm := (World.cell?_of_block (hgm.block (p2) rL_w10 (fun he => by simp [Value.ownBlock] at he; omega))).trans r0_w10
        have r1_wm := (World.cell?_of_block (hgm.block (p2) rL_w10 (fun he => by simp [Value.ownBlock] at he; omega))).trans r1_w10
        have rL_wm : p2 < wm.heap.size := Nat.lt_of_lt_of_le rL_w10 hgm.size
        have oS_wm := hidP (OwnG.grown oS_w10.out hgm (fun j hj he => by have hl := hSB.out j hj; simp [Value.ownBlock] at he; omega))
        have oT_wm := hidP (OwnG.grown oT_w10.out hgm (fun j hj he => by have hl := hTB.out j hj; simp [Value.ownBlock] at he; omega))
        have oI_wm := hidP (OwnG.grown oI_w10.out hgm (fun j hj he => by have hl := OwnG.lt oI_w10.out j hj; simp [Value.ownBlock] at he; omega))
        have oJ_wm := hidP (OwnG.grown oJ_w10.out hgm (fun j hj he => by have hl := OwnG.lt oJ_w10.out j hj; simp [Value.ownBlock] at he; omega))
        have acc_wm := hidP (acc_w10.out.grown hgm acc_w10.out.size (fun j he => by simp [Value.ownBlock] at he; omega))
        have sz_wm := hgm.size
        clear lp0_w10 lp1_w10 lpL_w10 lq0_w10 lq1_w10 lq2_w10 lq3_w10 lqL_w10 q0_w10 q1_w10 qL_w10 r0_w10 r1_w10 rL_w10 oS_w10 oT_w10 oI_w10 oJ_w10 hgm acc_w10
        have lp0_w11 := (World.cell?_of_block (hgn.block (w.heap.size) lpL_wm (fun he => by simp [Value.ownBlock] at he; omega))).trans lp0_wm
        have lp1_w11 := (World.cell?_of_block (hgn.block (w.heap.size) lpL_wm (fun he => by simp [Value.ownBlock] at he; omega))).trans lp1_wm
        have lpL_w11 : w.heap.size < w11.heap.size := Nat.lt_of_lt_of_le lpL_wm hgn.size
        have lq0_w11 := (World.cell?_of_block (hgn.block (w.heap.size + 1) lqL_wm (fun he => by simp [Value.ownBlock] at he; omega))).trans lq0_wm
        have lq1_w11 := (World.cell?_of_block (hgn.block (w.heap.size + 1) lqL_wm (fun he => by simp [Value.ownBlock] at he; omega))).trans lq1_wm
        have lq2_w11 := (World.cell?_of_block (hgn.block (w.heap.size + 1) lqL_wm (fun he => by simp [Value.ownBlock] at he; omega))).trans lq2_wm
        have lq3_w11 := (World.cell?_of_block (hgn.block (w.heap.size + 1) lqL_wm (fun he => by simp [Value.ownBlock] at he; omega))).trans lq3_wm
        have lqL_w11 : w.heap.size + 1 < w11.heap.size := Nat.lt_of_lt_of_le lqL_wm hgn.size
        have q0_w11 := (World.cell?_of_block (hgn.block (p1) qL_wm (fun he => by simp [Value.ownBlock] at he; omega))).trans q0_wm
        have q1_w11 := (World.cell?_of_block (hgn.block (p1) qL_wm (fun he => by simp [Value.ownBlock] at he; omega))).trans q1_wm
        have qL_w11 : p1 < w11.heap.size := Nat.lt_of_lt_of_le qL_wm hgn.size
        have r0_w11 := (World.cell?_of_block (hgn.block (p2) rL_wm (fun he => by simp [Value.ownBlock] at he; omega))).trans r0_wm
        have r1_w11 := (World.cell?_of_block (hgn.block (p2) rL_wm (fun he => by simp [Value.ownBlock] at he; omega))).trans r1_wm
        have rL_w11 : p2 < w11.heap.size := Nat.lt_of_lt_of_le rL_wm hgn.size
        have oS_w11 := hidP (OwnG.grown oS_wm.out hgn (fun j hj he => by have hl := hSB.out j hj; simp [Value.ownBlock] at he; omega))
        have oT_w11 := hidP (OwnG.grown oT_wm.out hgn (fun j hj he => by have hl := hTB.out j hj; simp [Value.ownBlock] at he; omega))
        have oI_w11 := hidP (OwnG.grown oI_wm.out hgn (fun j hj he => by have hl := OwnG.lt oI_wm.out j hj; simp [Value.ownBlock] at he; omega))
        have oJ_w11 := hidP (OwnG.grown oJ_wm.out hgn (fun j hj he => by have hl := OwnG.lt oJ_wm.out j hj; simp [Value.ownBlock] at he; omega))
        have acc_w11 := hidP (acc_wm.out.grown hgn acc_wm.out.size (fun j he => by simp [Value.ownBlock] at he; omega))
        have sz_w11 := hgn.size
        clear lp0_wm lp1_wm lpL_wm lq0_wm lq1_wm lq2_wm lq3_wm lqL_wm q0_wm q1_wm qL_wm r0_wm r1_wm rL_wm oS_wm oT_wm oI_wm oJ_wm hgn om1 om2 acc_wm
        go_wp2_with fail
        refine (HEr.out _ a2 c2 b2 d2' a1 c1 b1 d1' oI_w11.out.row oS_w11.out.row oJ_w11.out.row oT_w11.out.row).mono ?_
        rintro e w12 ⟨rfl, hb_w12⟩
        have lp0_w12 := (hb_w12.cell lpL_w11).trans lp0_w11
        have lp1_w12 := (hb_w12.cell lpL_w11).trans lp1_w11
        have lpL_w12 : w.heap.size < w12.heap.size := Nat.lt_of_lt_of_le lpL_w11 hb_w12.size
        have lq0_w12 := (hb_w12.cell lqL_w11).trans lq0_w11
        have lq1_w12 := (hb_w12.cell lqL_w11).trans lq1_w11
        have lq2_w12 := (hb_w12.cell lqL_w11).trans lq2_w11
        have lq3_w12 := (hb_w12.cell lqL_w11).trans lq3_w11
        have lqL_w12 : w.heap.size + 1 < w12.heap.size := Nat.lt_of_lt_of_le lqL_w11 hb_w12.size
        have q0_w12 := (hb_w12.cell qL_w11).trans q0_w11
        have q1_w12 := (hb_w12.cell qL_w11).trans q1_w11
        have qL_w12 : p1 < w12.heap.size := Nat.lt_of_lt_of_le qL_w11 hb_w12.size
        have r0_w12 := (hb_w12.cell rL_w11).trans r0_w11
        have r1_w12 := (hb_w12.cell rL_w11).trans r1_w11
        have rL_w12 : p2 < w12.heap.size := Nat.lt_of_lt_of_le rL_w11 hb_w12.size
        have oS_w12 := hidP (OwnG.later oS_w11.out hb_w12)
        have oT_w12 := hidP (OwnG.later oT_w11.out hb_w12)
        have oI_w12 := hidP (OwnG.later oI_w11.out hb_w12)
        have oJ_w12 := hidP (OwnG.later oJ_w11.out hb_w12)
        have acc_w12 := hidP (acc_w11.out.trans (hb_w12.mono acc_w11.out.size))
        have sz_w12 := hb_w12.size
        clear lp0_w11 lp1_w11 lpL_w11 lq0_w11 lq1_w11 lq2_w11 lq3_w11 lqL_w11 q0_w11 q1_w11 qL_w11 r0_w11 r1_w11 rL_w11 oS_w11 oT_w11 oI_w11 oJ_w11 hb_w12 acc_w11
        go_wp2_with fail
        refine (HMr.out w12 a2 c2 b2 d2' _ oI_w12.out oJ_w12.out HNE.out).mono ?_
        rintro e w13 ⟨rfl, om3, om4, wn, hgi, hgj⟩
        have hlI := fun j hj => OwnG.lt oI_w12.out j hj
        have hlJ := fun j hj => OwnG.lt oJ_w12.out j hj
        have lp0_wn := (World.cell?_of_block (hgi.block (w.heap.size) lpL_w12 (fun he => by have hl := hlI _ he.symm; omega))).trans lp0_w12
        have lp1_wn := (World.cell?_of_block (hgi.block (w.heap.size) lpL_w12 (fun he => by have hl := hlI _ he.symm; omega))).trans lp1_w12
        have lpL_wn : w.heap.size < wn.heap.size := Nat.lt_of_lt_of_le lpL_w12 hgi.size
        have lq0_wn := (World.cell?_of_block (hgi.block (w.heap.size + 1) lqL_w12 (fun he => by have hl := hlI _ he.symm; omega))).trans lq0_w12
        have lq1_wn := (World.cell?_of_block (hgi.block (w.heap.size + 1) lqL_w12 (fun he => by have hl := hlI _ he.symm; omega))).trans lq1_w12
        have lq2_wn := (World.cell?_of_block (hgi.block (w.heap.size + 1) lqL_w12 (fun he => by have hl := hlI _ he.symm; omega))).trans lq2_w12
        have lq3_wn := (World.cell?_of_block (hgi.block (w.heap.size + 1) lqL_w12 (fun he => by have hl := hlI _ he.symm; omega))).trans lq3_w12
        have lqL_wn : w.heap.size + 1 < wn.heap.size := Nat.lt_of_lt_of_le lqL_w12 hgi.size
        have q0_wn := (World.cell?_of_block (hgi.block (p1) qL_w12 (fun he => by have hl := hlI _ he.symm; omega))).trans q0_w12
        have q1_wn := (World.cell?_of_block (hgi.block (p1) qL_w12 (fun he => by have hl := hlI _ he.symm; omega))).trans q1_w12
        have qL_wn : p1 < wn.heap.size := Nat.lt_of_lt_of_le qL_w12 hgi.size
        have r0_wn := (World.cell?_of_block (hgi.block (p2) rL_w12 (fun he => HNQ.out.1 _ he.symm rfl))).trans r0_w12
        have r1_wn := (World.cell?_of_block (hgi.block (p2) rL_w12 (fun he => HNQ.out.1 _ he.symm rfl))).trans r1_w12
        have rL_wn : p2 < wn.heap.size := Nat.lt_of_lt_of_le rL_w12 hgi.size
        have oS_wn := hidP (OwnG.grown oS_w12.out hgi (fun j hj he => by have hl := hSB.out j hj; have hl2 := hlI j he; omega))
        have oT_wn := hidP (OwnG.grown oT_w12.out hgi (fun j hj he => by have hl := hTB.out j hj; have hl2 := hlI j he; omega))
        have acc_wn := hidP (acc_w12.out.grown hgi acc_w12.out.size (fun j he => by have hl := hlI j he; omega))
        have sz_wn := hgi.size
        clear lp0_w12 lp1_w12 lpL_w12 lq0_w12 lq1_w12 lq2_w12 lq3_w12 lqL_w12 q0_w12 q1_w12 qL_w12 r0_w12 r1_w12 rL_w12 oS_w12 oT_w12 hgi acc_w12
        have lp0_w13 := (World.cell?_of_block (hgj.block (w.heap.size) lpL_wn (fun he => by have hl := hlJ _ he.symm; omega))).trans lp0_wn
        have lp1_w13 := (World.cell?_of_block (hgj.block (w.heap.size) lpL_wn (fun he => by have hl := hlJ _ he.symm; omega))).trans lp1_wn
        have lpL_w13 : w.heap.size < w13.heap.size := Nat.lt_of_lt_of_le lpL_wn hgj.size
        have lq0_w13 := (World.cell?_of_block (hgj.block (w.heap.size + 1) lqL_wn (fun he => by have hl := hlJ _ he.symm; omega))).trans lq0_wn
        have lq1_w13 := (World.cell?_of_block (hgj.block (w.heap.size + 1) lqL_wn (fun he => by have hl := hlJ _ he.symm; omega))).trans lq1_wn
        have lq2_w13 := (World.cell?_of_block (hgj.block (w.heap.size + 1) lqL_wn (fun he => by have hl := hlJ _ he.symm; omega))).trans lq2_wn
        have lq3_w13 := (World.cell?_of_block (hgj.block (w.heap.size + 1) lqL_wn (fun he => by have hl := hlJ _ he.symm; omega))).trans lq3_wn
        have lqL_w13 : w.heap.size + 1 < w13.heap.size := Nat.lt_of_lt_of_le lqL_wn hgj.size
        have q0_w13 := (World.cell?_of_block (hgj.block (p1) qL_wn (fun he => by have hl := hlJ _ he.symm; omega))).trans q0_wn
        have q1_w13 := (World.cell?_of_block (hgj.block (p1) qL_wn (fun he => by have hl := hlJ _ he.symm; omega))).trans q1_wn
        have qL_w13 : p1 < w13.heap.size := Nat.lt_of_lt_of_le qL_wn hgj.size
        have r0_w13 := (World.cell?_of_block (hgj.block (p2) rL_wn (fun he => HNQ.out.2 _ he.symm rfl))).trans r0_wn
        have r1_w13 := (World.cell?_of_block (hgj.block (p2) rL_wn (fun he => HNQ.out.2 _ he.symm rfl))).trans r1_wn
        have rL_w13 : p2 < w13.heap.size := Nat.lt_of_lt_of_le rL_wn hgj.size
        have oS_w13 := hidP (OwnG.grown oS_wn.out hgj (fun j hj he => by have hl := hSB.out j hj; have hl2 := hlJ j he; omega))
        have oT_w13 := hidP (OwnG.grown oT_wn.out hgj (fun j hj he => by have hl := hTB.out j hj; have hl2 := hlJ j he; omega))
        have acc_w13 := hidP (acc_wn.out.grown hgj acc_wn.out.size (fun j he => by have hl := hlJ j he; omega))
        have sz_w13 := hgj.size
        have oI_w13 := hidP om3
        have oJ_w13 := hidP om4
        clear lp0_wn lp1_wn lpL_wn lq0_wn lq1_wn lq2_wn lq3_wn lqL_wn q0_wn q1_wn qL_wn r0_wn r1_wn rL_wn oS_wn oT_wn hgj om3 om4 acc_wn hlI hlJ oI_w12 oJ_w12
        go_wp2_with fail
        refine (HHd.out _ a2 c2 b2 d2' oI_w13.out.row oJ_w13.out.row).mono ?_
        rintro e w14 ⟨rfl, hb14⟩
        have lp0_w14 := (hb14.cell lpL_w13).trans lp0_w13
        have lp1_w14 := (hb14.cell lpL_w13).trans lp1_w13
        have lpL_w14 : w.heap.size < w14.heap.size := Nat.lt_of_lt_of_le lpL_w13 hb14.size
        have lq0_w14 := (hb14.cell lqL_w13).trans lq0_w13
        have lq1_w14 := (hb14.cell lqL_w13).trans lq1_w13
        have lq2_w14 := (hb14.cell lqL_w13).trans lq2_w13
        have lq3_w14 := (hb14.cell lqL_w13).trans lq3_w13
        have lqL_w14 : w.heap.size + 1 < w14.heap.size := Nat.lt_of_lt_of_le lqL_w13 hb14.size
        have q0_w14 := (hb14.cell qL_w13).trans q0_w13
        have q1_w14 := (hb14.cell qL_w13).trans q1_w13
        have qL_w14 : p1 < w14.heap.size := Nat.lt_of_lt_of_le qL_w13 hb14.size
        have r0_w14 := (hb14.cell rL_w13).trans r0_w13
        have r1_w14 := (hb14.cell rL_w13).trans r1_w13
        have rL_w14 : p2 < w14.heap.size := Nat.lt_of_lt_of_le rL_w13 hb14.size
        have oS_w14 := hidP (OwnG.later oS_w13.out hb14)
        have oT_w14 := hidP (OwnG.later oT_w13.out hb14)
        have oI_w14 := hidP (OwnG.later oI_w13.out hb14)
        have oJ_w14 := hidP (OwnG.later oJ_w13.out hb14)
        have acc_w14 := hidP (acc_w13.out.trans (hb14.mono acc_w13.out.size))
        have sz_w14 := hb14.size
        clear lp0_w13 lp1_w13 lpL_w13 lq0_w13 lq1_w13 lq2_w13 lq3_w13 lqL_w13 q0_w13 q1_w13 qL_w13 r0_w13 r1_w13 rL_w13 oS_w13 oT_w13 oI_w13 oJ_w13 hb14 acc_w13
        go_upto_region 26 with fail
        go_cut [16, 17] (fun t16 t17 X => ∃ (p : Nat) (a : Option Addr) (c : Nat) (b : Option Addr) (d : Nat), t16 = .pointer (some ⟨p, 0, none⟩) ∧ t17 = .int .i64 C ∧ w14.heap.size ≤ p ∧ p < X.heap.size ∧ X.cell? ⟨p, 0, none⟩ = some (.slice a NP c) ∧ X.cell? ⟨p, 1, none⟩ = some (.slice b NB d) ∧ OwnG KPl 60 X w14.heap.size (.slice a NP c) PS ∧ OwnG KBk 62 X w14.heap.size (.slice b NB d) BS ∧ (∀ k, (Value.slice a NP c).ownBlock = some k → (Value.slice b NB d).ownBlock ≠ some k) ∧ (∀ k, (Value.slice a NP c).ownBlock = some k → k ≠ p) ∧ (∀ k, (Value.slice b NB d).ownBlock = some k → k ≠ p) ∧ Below w14.heap.size w14 X)
        case first =>
          have HSx : Hid (∀ x, Below w14.heap.size w14 x → (x.cell? ⟨w.heap.size, 0, none⟩ = some (.slice ap np cp) ∧ x.cell? ⟨w.heap.size, 1, none⟩ = some (.slice ab nb cb) ∧ x.cell? ⟨w.heap.size + 1, 0, none⟩ = some (.bool pt.s) ∧ x.cell? ⟨w.heap.size + 1, 1, none⟩ = some (.int .i64 pt.H.toInt) ∧ x.cell? ⟨w.heap.size + 1, 2, none⟩ = some (.int .i64 pt.L.toInt) ∧ x.cell? ⟨w.heap.size + 1, 3, none⟩ = some (.int .i64 pt.b) ∧ Below w14.heap.size w14 x)) := hidP fun x h =>
            ⟨(h.cell lpL_w14).trans lp0_w14, (h.cell lpL_w14).trans lp1_w14, (h.cell lqL_w14).trans lq0_w14, (h.cell lqL_w14).trans lq1_w14, (h.cell lqL_w14).trans lq2_w14, (h.cell lqL_w14).trans lq3_w14, h⟩
          refine wp_region_held_drew (S := (fun x => x.cell? ⟨w.heap.size, 0, none⟩ = some (.slice ap np cp) ∧ x.cell? ⟨w.heap.size, 1, none⟩ = some (.slice ab nb cb) ∧ x.cell? ⟨w.heap.size + 1, 0, none⟩ = some (.bool pt.s) ∧ x.cell? ⟨w.heap.size + 1, 1, none⟩ = some (.int .i64 pt.H.toInt) ∧ x.cell? ⟨w.heap.size + 1, 2, none⟩ = some (.int .i64 pt.L.toInt) ∧ x.cell? ⟨w.heap.size + 1, 3, none⟩ = some (.int .i64 pt.b) ∧ Below w14.heap.size w14 x)) (by kernel_rfl) ?_ (fun hHeld => ?_)
          · try dsimp only
            exact HSx.out _ (Below.refl _ _).drew
          refine wpAnyH_take (i := 0) (oi := ⟨some 87, _, _, _, _, _⟩) (v := ?_) rfl (by kernel_rfl) (by kernel_rfl) (by kernel_rfl) (fun _ _ _ h => h) (Or.inl ⟨by rfl, ?_⟩) (by assumption) ?_
          rotate_left
          · intro w hSw
            try dsimp only at hSw
            go_simp
            try with_reducible rfl
          simp only [Act.put, List.setIfInBounds_toArray, List.set_cons_zero, List.set_cons_succ]
          refine wpAnyH_take (i := 2) (oi := ⟨some 89, _, _, _, _, _⟩) (v := ?_) rfl (by kernel_rfl) (by kernel_rfl) (by kernel_rfl) (fun _ _ _ h => h) (Or.inl ⟨by rfl, ?_⟩) (by assumption) ?_
          rotate_left
          · intro w hSw
            try dsimp only at hSw
            go_simp
            try with_reducible rfl
          simp only [Act.put, List.setIfInBounds_toArray, List.set_cons_zero, List.set_cons_succ]
          refine wpAnyH_take (i := 4) (oi := ⟨some 91, _, _, _, _, _⟩) (v := ?_) rfl (by kernel_rfl) (by kernel_rfl) (by kernel_rfl) (fun _ _ _ h => h) (Or.inl ⟨by rfl, ?_⟩) (by assumption) ?_
          rotate_left
          · intro w hSw
            try dsimp only at hSw
            go_simp
            try with_reducible rfl
          simp only [Act.put, List.setIfInBounds_toArray, List.set_cons_zero, List.set_cons_succ]
          refine wpAnyH_ready (rs := [1, 9]) (by kernel_rfl) (by simp) ?_
          refine AllReadyH.cons rfl (fun K hK => ?_) (AllReadyH.cons rfl (fun K hK => ?_) AllReadyH.nil)
          · go_simp
            go_wp2_with (first | (go_at_call 7; refine (HTo.out _ (acc_w14.out.trans ((hHeld.2.2.2.2.2.2).mono acc_w14.out.size))).mono ?_; rintro e w15 ⟨g15, h15, rfl, og15, oh15, gh15, hb15⟩; have b15 := (hHeld.2.2.2.2.2.2).trans (hb15.mono (hHeld.2.2.2.2.2.2).size)))
            refine hK.out _ _ ?_ (fun hHeld => ?_)
            · try dsimp only
              exact HSx.out _ b15
            clear hK K
            refine wpAnyH_ready (rs := [3, 9]) (by kernel_rfl) (by simp) ?_
            refine AllReadyH.cons rfl (fun K hK => ?_) (AllReadyH.cons rfl (fun K hK => ?_) AllReadyH.nil)
            · go_simp
              go_wp2_with (first | (go_at_call 8; refine (HTp.out _).mono ?_; rintro e w16 ⟨rfl, hb16⟩; have b16 := (hHeld.2.2.2.2.2.2).trans (hb16.mono (hHeld.2.2.2.2.2.2).size)))
              refine hK.out _ _ ?_ (fun hHeld => ?_)
              · try dsimp only
                exact HSx.out _ b16
              clear hK K
              refine wpAnyH_ready (rs := [5, 9]) (by kernel_rfl) (by simp) ?_
              refine AllReadyH.cons rfl (fun K hK => ?_) (AllReadyH.cons rfl (fun K hK => ?_) AllReadyH.nil)
              · go_simp
                go_wp2_with (first | (go_at_call 15; refine (HIm.out g15 h15 _ (RowG.later og15.row hb16) (RowG.later oh15.row hb16)).mono ?_; rintro e w17 ⟨ra17, rc17, rb17, rd17, rfl, op17, ob17, ne17, hb17⟩; have b17 := (hHeld.2.2.2.2.2.2).trans (hb17.mono (hHeld.2.2.2.2.2.2).size)))
                refine hK.out _ _ ?_ (fun hHeld => ?_)
                · try dsimp only
                  exact HSx.out _ b17
                clear hK K
                refine wpAnyH_take (i := 6) (oi := ⟨some 86, _, _, _, _, _⟩) (v := ?_) rfl (by kernel_rfl) (by kernel_rfl) (by kernel_rfl) (fun _ _ _ h => h) (Or.inl ⟨by rfl, ?_⟩) (by assumption) ?_
                rotate_left
                · intro w hSw
                  try dsimp only at hSw
                  go_simp
                  try with_reducible rfl
                simp only [Act.put, List.setIfInBounds_toArray, List.set_cons_zero, List.set_cons_succ]
                refine wpAnyH_take (i := 7) (oi := ⟨some 93, _, _, _, _, _⟩) (v := ?_) rfl (by kernel_rfl) (by kernel_rfl) (by kernel_rfl) (fun _ _ _ h => h) (Or.inl ⟨by rfl, ?_⟩) (by assumption) ?_
                rotate_left
                · intro w hSw
                  try dsimp only at hSw
                  go_simp
                  try with_reducible rfl
                simp only [Act.put, List.setIfInBounds_toArray, List.set_cons_zero, List.set_cons_succ]
                refine wpAnyH_take (i := 8) (oi := ⟨some 94, _, _, _, _, _⟩) (v := ?_) rfl (by kernel_rfl) (by kernel_rfl) (by kernel_rfl) (fun _ _ _ h => h) (Or.inl ⟨by rfl, ?_⟩) (by assumption) ?_
                rotate_left
                · intro w hSw
                  try dsimp only at hSw
                  go_simp
                  try with_reducible rfl
                simp only [Act.put, List.setIfInBounds_toArray, List.set_cons_zero, List.set_cons_succ]
                refine wpAnyH_ready (rs := [9]) (by kernel_rfl) (by simp) ?_
                refine AllReadyH.cons rfl (fun K hK => ?_) AllReadyH.nil
                go_simp
                obtain ⟨z18x0, z18x1⟩ := box2 (u := .slice none 0 0) (v := .slice none 0 0) w17 34
                have z18F := frzZ2 w17 34
                have z18B := alloc_below w17 (.cells #[.slice none 0 0, .slice none 0 0] 34)
                have z18L := alloc_lt w17 (.cells #[.slice none 0 0, .slice none 0 0] 34)
                have z18M := (hHeld.2.2.2.2.2.2).trans (z18B.mono (hHeld.2.2.2.2.2.2).size)
                generalize w17.alloc (.cells #[.slice none 0 0, .slice none 0 0] 34) = w18 at *
                refine hK.out _ _ ?_ (fun hHeld => ?_)
                · try dsimp only
                  exact HSx.out _ z18M
                clear hK K
                have bl18 : w14.heap.size ≤ w17.heap.size := b17.size
                refine wpAnyH_ready (rs := [10]) (by kernel_rfl) (by simp) ?_
                refine AllReadyH.cons rfl (fun K hK => ?_) AllReadyH.nil
                go_simp
                refine hK.out _ _ ?_ (fun hHeld => ?_)
                · try dsimp only
                  refine HSx.out _ ?_
                  repeat (with_reducible refine Below.setCell ?_ ?_ _; rotate_left; (focus (exact (bl18))))
                  exact (hHeld.2.2.2.2.2.2)
                clear hK K
                refine wpAnyH_take (i := 11) (oi := ⟨some 17, _, _, _, _, _⟩) (v := ?_) rfl (by kernel_rfl) (by kernel_rfl) (by kernel_rfl) (fun _ _ _ h => h) (Or.inl ⟨by rfl, ?_⟩) (by assumption) ?_
                rotate_left
                · intro w hSw
                  try dsimp only at hSw
                  go_simp
                  try with_reducible rfl
                simp only [Act.put, List.setIfInBounds_toArray, List.set_cons_zero, List.set_cons_succ]
                have HE := hidP (hHeld.2.2.2.2.2.2)
                refine wpAnyH_done (by kernel_rfl) ?_ _
                clear hHeld
                have lo := fun k hk => OwnG.lt op17 k hk
                have lo' := fun k hk => OwnG.lt ob17 k hk
                have lb : w14.heap.size ≤ w16.heap.size := by first | exact b16.size | exact z16M.size
                have HF := hidP (And.intro (OwnG.mono (OwnG.later op17 z18B) lb) (And.intro (OwnG.mono (OwnG.later ob17 z18B) lb) ne17))
                have HLo := hidP (And.intro lo lo')
                clear lo lo' op17 ob17 ne17
                go_wp2_with fail
                go_meet
                refine ⟨_, ra17, rc17, rb17, rd17, rfl, rfl, bl18, ?_, ?_, ?_, OwnG.put2 HF.out.1 (fun k hk => by have := HLo.out.1 k hk; omega), OwnG.put2 HF.out.2.1 (fun k hk => by have := HLo.out.2 k hk; omega), HF.out.2.2, (fun k hk => by have := HLo.out.1 k hk; omega), (fun k hk => by have := HLo.out.2 k hk; omega), HE.out⟩
                · simp; exact z18L
                all_goals (simp [go_sem, z18x0, z18x1])
              · go_simp
                obtain ⟨z17x0, z17x1⟩ := box2 (u := .slice none 0 0) (v := .slice none 0 0) w16 34
                have z17F := frzZ2 w16 34
                have z17B := alloc_below w16 (.cells #[.slice none 0 0, .slice none 0 0] 34)
                have z17L := alloc_lt w16 (.cells #[.slice none 0 0, .slice none 0 0] 34)
                have z17M := (hHeld.2.2.2.2.2.2).trans (z17B.mono (hHeld.2.2.2.2.2.2).size)
                generalize w16.alloc (.cells #[.slice none 0 0, .slice none 0 0] 34) = w17 at *
                refine hK.out _ _ ?_ (fun hHeld => ?_)
                · try dsimp only
                  exact HSx.out _ z17M
                clear hK K
                have bl17 : w14.heap.size ≤ w16.heap.size := b16.size
                refine wpAnyH_ready (rs := [5]) (by kernel_rfl) (by simp) ?_
                refine AllReadyH.cons rfl (fun K hK => ?_) AllReadyH.nil
                go_simp
                go_wp2_with (first | (go_at_call 15; refine (HIm.out g15 h15 _ (RowG.later (RowG.later og15.row hb16) z17B) (RowG.later (RowG.later oh15.row hb16) z17B)).mono ?_; rintro e w18 ⟨ra18, rc18, rb18, rd18, rfl, op18, ob18, ne18, hb18⟩; have b18 := (hHeld.2.2.2.2.2.2).trans (hb18.mono (hHeld.2.2.2.2.2.2).size)))
                refine hK.out _ _ ?_ (fun hHeld => ?_)
                · try dsimp only
                  exact HSx.out _ b18
                clear hK K
                have z18x0 := (hb18.cell z17L).trans z17x0
                have z18x1 := (hb18.cell z17L).trans z17x1
                have z18F : ∀ o, w18.frozen? ⟨w16.heap.size, o, none⟩ = false := fun o => (hb18.frozen z17L).trans (z17F o)
                have z18L : w16.heap.size < w18.heap.size := Nat.lt_of_lt_of_le z17L hb18.size
                clear z17x0 z17x1 z17F
                refine wpAnyH_take (i := 6) (oi := ⟨some 86, _, _, _, _, _⟩) (v := ?_) rfl (by kernel_rfl) (by kernel_rfl) (by kernel_rfl) (fun _ _ _ h => h) (Or.inl ⟨by rfl, ?_⟩) (by assumption) ?_
                rotate_left
                · intro w hSw
                  try dsimp only at hSw
                  go_simp
                  try with_reducible rfl
                simp only [Act.put, List.setIfInBounds_toArray, List.set_cons_zero, List.set_cons_succ]
                refine wpAnyH_take (i := 7) (oi := ⟨some 93, _, _, _, _, _⟩) (v := ?_) rfl (by kernel_rfl) (by kernel_rfl) (by kernel_rfl) (fun _ _ _ h => h) (Or.inl ⟨by rfl, ?_⟩) (by assumption) ?_
                rotate_left
                · intro w hSw
                  try dsimp only at hSw
                  go_simp
                  try with_reducible rfl
                simp only [Act.put, List.setIfInBounds_toArray, List.set_cons_zero, List.set_cons_succ]
                refine wpAnyH_take (i := 8) (oi := ⟨some 94, _, _, _, _, _⟩) (v := ?_) rfl (by kernel_rfl) (by kernel_rfl) (by kernel_rfl) (fun _ _ _ h => h) (Or.inl ⟨by rfl, ?_⟩) (by assumption) ?_
                rotate_left
                · intro w hSw
                  try dsimp only at hSw
                  go_simp
                  try with_reducible rfl
                simp only [Act.put, List.setIfInBounds_toArray, List.set_cons_zero, List.set_cons_succ]
                refine wpAnyH_ready (rs := [10]) (by kernel_rfl) (by simp) ?_
                refine AllReadyH.cons rfl (fun K hK => ?_) AllReadyH.nil
                go_simp
                refine hK.out _ _ ?_ (fun hHeld => ?_)
                · try dsimp only
                  refine HSx.out _ ?_
                  repeat (with_reducible refine Below.setCell ?_ ?_ _; rotate_left; (focus (exact (bl17))))
                  exact (hHeld.2.2.2.2.2.2)
                clear hK K
                refine wpAnyH_take (i := 11) (oi := ⟨some 17, _, _, _, _, _⟩) (v := ?_) rfl (by kernel_rfl) (by kernel_rfl) (by kernel_rfl) (fun _ _ _ h => h) (Or.inl ⟨by rfl, ?_⟩) (by assumption) ?_
                rotate_left
                · intro w hSw
                  try dsimp only at hSw
                  go_simp
                  try with_reducible rfl
                simp only [Act.put, List.setIfInBounds_toArray, List.set_cons_zero, List.set_cons_succ]
                have HE := hidP (hHeld.2.2.2.2.2.2)
                refine wpAnyH_done (by kernel_rfl) ?_ _
                clear hHeld
                have lo := fun k hk => OwnG.lt op18 k hk
                have lo' := fun k hk => OwnG.lt ob18 k hk
                have lb : w14.heap.size ≤ w17.heap.size := by first | exact b17.size | exact z17M.size
                have pl : w16.heap.size < w17.heap.size := z17L
                have HF := hidP (And.intro (OwnG.mono op18 lb) (And.intro (OwnG.mono ob18 lb) ne18))
                have HLo := hidP (And.intro lo lo')
                clear lo lo' op18 ob18 ne18
                go_wp2_with fail
                go_meet
                refine ⟨_, ra18, rc18, rb18, rd18, rfl, rfl, bl17, ?_, ?_, ?_, OwnG.put2 HF.out.1 (fun k hk => by have := HLo.out.1 k hk; omega), OwnG.put2 HF.out.2.1 (fun k hk => by have := HLo.out.2 k hk; omega), HF.out.2.2, (fun k hk => by have := HLo.out.1 k hk; omega), (fun k hk => by have := HLo.out.2 k hk; omega), HE.out⟩
                · simp; exact z18L
                all_goals (simp [go_sem, z18x0, z18x1])
            · go_simp
              obtain ⟨z16x0, z16x1⟩ := box2 (u := .slice none 0 0) (v := .slice none 0 0) w15 34
              have z16F := frzZ2 w15 34
              have z16B := alloc_below w15 (.cells #[.slice none 0 0, .slice none 0 0] 34)
              have z16L := alloc_lt w15 (.cells #[.slice none 0 0, .slice none 0 0] 34)
              have z16M := (hHeld.2.2.2.2.2.2).trans (z16B.mono (hHeld.2.2.2.2.2.2).size)
              generalize w15.alloc (.cells #[.slice none 0 0, .slice none 0 0] 34) = w16 at *
              refine hK.out _ _ ?_ (fun hHeld => ?_)
              · try dsimp only
                exact HSx.out _ z16M
              clear hK K
              have bl16 : w14.heap.size ≤ w15.heap.size := b15.size
              refine wpAnyH_ready (rs := [3]) (by kernel_rfl) (by simp) ?_
              refine AllReadyH.cons rfl (fun K hK => ?_) AllReadyH.nil
              go_simp
              go_wp2_with (first | (go_at_call 8; refine (HTp.out _).mono ?_; rintro e w17 ⟨rfl, hb17⟩; have b17 := (hHeld.2.2.2.2.2.2).trans (hb17.mono (hHeld.2.2.2.2.2.2).size)))
              refine hK.out _ _ ?_ (fun hHeld => ?_)
              · try dsimp only
                exact HSx.out _ b17
              clear hK K
              have z17x0 := (hb17.cell z16L).trans z16x0
              have z17x1 := (hb17.cell z16L).trans z16x1
              have z17F : ∀ o, w17.frozen? ⟨w15.heap.size, o, none⟩ = false := fun o => (hb17.frozen z16L).trans (z16F o)
              have z17L : w15.heap.size < w17.heap.size := Nat.lt_of_lt_of_le z16L hb17.size
              clear z16x0 z16x1 z16F
              refine wpAnyH_ready (rs := [5]) (by kernel_rfl) (by simp) ?_
              refine AllReadyH.cons rfl (fun K hK => ?_) AllReadyH.nil
              go_simp
              go_wp2_with (first | (go_at_call 15; refine (HIm.out g15 h15 _ (RowG.later (RowG.later og15.row z16B) hb17) (RowG.later (RowG.later oh15.row z16B) hb17)).mono ?_; rintro e w18 ⟨ra18, rc18, rb18, rd18, rfl, op18, ob18, ne18, hb18⟩; have b18 := (hHeld.2.2.2.2.2.2).trans (hb18.mono (hHeld.2.2.2.2.2.2).size)))
              refine hK.out _ _ ?_ (fun hHeld => ?_)
              · try dsimp only
                exact HSx.out _ b18
              clear hK K
              have z18x0 := (hb18.cell z17L).trans z17x0
              have z18x1 := (hb18.cell z17L).trans z17x1
              have z18F : ∀ o, w18.frozen? ⟨w15.heap.size, o, none⟩ = false := fun o => (hb18.frozen z17L).trans (z17F o)
              have z18L : w15.heap.size < w18.heap.size := Nat.lt_of_lt_of_le z17L hb18.size
              clear z17x0 z17x1 z17F
              refine wpAnyH_take (i := 6) (oi := ⟨some 86, _, _, _, _, _⟩) (v := ?_) rfl (by kernel_rfl) (by kernel_rfl) (by kernel_rfl) (fun _ _ _ h => h) (Or.inl ⟨by rfl, ?_⟩) (by assumption) ?_
              rotate_left
              · intro w hSw
                try dsimp only at hSw
                go_simp
                try with_reducible rfl
              simp only [Act.put, List.setIfInBounds_toArray, List.set_cons_zero, List.set_cons_succ]
              refine wpAnyH_take (i := 7) (oi := ⟨some 93, _, _, _, _, _⟩) (v := ?_) rfl (by kernel_rfl) (by kernel_rfl) (by kernel_rfl) (fun _ _ _ h => h) (Or.inl ⟨by rfl, ?_⟩) (by assumption) ?_
              rotate_left
              · intro w hSw
                try dsimp only at hSw
                go_simp
                try with_reducible rfl
              simp only [Act.put, List.setIfInBounds_toArray, List.set_cons_zero, List.set_cons_succ]
              refine wpAnyH_take (i := 8) (oi := ⟨some 94, _, _, _, _, _⟩) (v := ?_) rfl (by kernel_rfl) (by kernel_rfl) (by kernel_rfl) (fun _ _ _ h => h) (Or.inl ⟨by rfl, ?_⟩) (by assumption) ?_
              rotate_left
              · intro w hSw
                try dsimp only at hSw
                go_simp
                try with_reducible rfl
              simp only [Act.put, List.setIfInBounds_toArray, List.set_cons_zero, List.set_cons_succ]
              refine wpAnyH_ready (rs := [10]) (by kernel_rfl) (by simp) ?_
              refine AllReadyH.cons rfl (fun K hK => ?_) AllReadyH.nil
              go_simp
              refine hK.out _ _ ?_ (fun hHeld => ?_)
              · try dsimp only
                refine HSx.out _ ?_
                repeat (with_reducible refine Below.setCell ?_ ?_ _; rotate_left; (focus (exact (bl16))))
                exact (hHeld.2.2.2.2.2.2)
              clear hK K
              refine wpAnyH_take (i := 11) (oi := ⟨some 17, _, _, _, _, _⟩) (v := ?_) rfl (by kernel_rfl) (by kernel_rfl) (by kernel_rfl) (fun _ _ _ h => h) (Or.inl ⟨by rfl, ?_⟩) (by assumption) ?_
              rotate_left
              · intro w hSw
                try dsimp only at hSw
                go_simp
                try with_reducible rfl
              simp only [Act.put, List.setIfInBounds_toArray, List.set_cons_zero, List.set_cons_succ]
              have HE := hidP (hHeld.2.2.2.2.2.2)
              refine wpAnyH_done (by kernel_rfl) ?_ _
              clear hHeld
              have lo := fun k hk => OwnG.lt op18 k hk
              have lo' := fun k hk => OwnG.lt ob18 k hk
              have lb : w14.heap.size ≤ w17.heap.size := by first | exact b17.size | exact z17M.size
              have pl : w15.heap.size < w17.heap.size := z17L
              have HF := hidP (And.intro (OwnG.mono op18 lb) (And.intro (OwnG.mono ob18 lb) ne18))
              have HLo := hidP (And.intro lo lo')
              clear lo lo' op18 ob18 ne18
              go_wp2_with fail
              go_meet
              refine ⟨_, ra18, rc18, rb18, rd18, rfl, rfl, bl16, ?_, ?_, ?_, OwnG.put2 HF.out.1 (fun k hk => by have := HLo.out.1 k hk; omega), OwnG.put2 HF.out.2.1 (fun k hk => by have := HLo.out.2 k hk; omega), HF.out.2.2, (fun k hk => by have := HLo.out.1 k hk; omega), (fun k hk => by have := HLo.out.2 k hk; omega), HE.out⟩
              · simp; exact z18L
              all_goals (simp [go_sem, z18x0, z18x1])
          · go_simp
            obtain ⟨z15x0, z15x1⟩ := box2 (u := .slice none 0 0) (v := .slice none 0 0) w14 34
            have z15F := frzZ2 w14 34
            have z15B := alloc_below w14 (.cells #[.slice none 0 0, .slice none 0 0] 34)
            have z15L := alloc_lt w14 (.cells #[.slice none 0 0, .slice none 0 0] 34)
            have z15x0 := (drew_cell (w14.alloc (.cells #[.slice none 0 0, .slice none 0 0] 34)) _).trans z15x0
            have z15x1 := (drew_cell (w14.alloc (.cells #[.slice none 0 0, .slice none 0 0] 34)) _).trans z15x1
            have z15F := fun o => (drew_frozen (w14.alloc (.cells #[.slice none 0 0, .slice none 0 0] 34)) _).trans (z15F o)
            have z15L := drew_size_lt z15L
            have z15M := z15B.drew
            generalize (w14.alloc (.cells #[.slice none 0 0, .slice none 0 0] 34)).drew = w15 at *
            refine hK.out _ _ ?_ (fun hHeld => ?_)
            · try dsimp only
              exact HSx.out _ z15M
            clear hK K
            have bl15 : w14.heap.size ≤ w14.heap.size := Nat.le_refl _
            refine wpAnyH_ready (rs := [1]) (by kernel_rfl) (by simp) ?_
            refine AllReadyH.cons rfl (fun K hK => ?_) AllReadyH.nil
            go_simp
            go_wp2_with (first | (go_at_call 7; refine (HTo.out _ (acc_w14.out.trans ((hHeld.2.2.2.2.2.2).mono acc_w14.out.size))).mono ?_; rintro e w16 ⟨g16, h16, rfl, og16, oh16, gh16, hb16⟩; have b16 := (hHeld.2.2.2.2.2.2).trans (hb16.mono (hHeld.2.2.2.2.2.2).size)))
            refine hK.out _ _ ?_ (fun hHeld => ?_)
            · try dsimp only
              exact HSx.out _ b16
            clear hK K
            have z16x0 := (hb16.cell z15L).trans z15x0
            have z16x1 := (hb16.cell z15L).trans z15x1
            have z16F : ∀ o, w16.frozen? ⟨w14.heap.size, o, none⟩ = false := fun o => (hb16.frozen z15L).trans (z15F o)
            have z16L : w14.heap.size < w16.heap.size := Nat.lt_of_lt_of_le z15L hb16.size
            clear z15x0 z15x1 z15F
            refine wpAnyH_ready (rs := [3]) (by kernel_rfl) (by simp) ?_
            refine AllReadyH.cons rfl (fun K hK => ?_) AllReadyH.nil
            go_simp
            go_wp2_with (first | (go_at_call 8; refine (HTp.out _).mono ?_; rintro e w17 ⟨rfl, hb17⟩; have b17 := (hHeld.2.2.2.2.2.2).trans (hb17.mono (hHeld.2.2.2.2.2.2).size)))
            refine hK.out _ _ ?_ (fun hHeld => ?_)
            · try dsimp only
              exact HSx.out _ b17
            clear hK K
            have z17x0 := (hb17.cell z16L).trans z16x0
            have z17x1 := (hb17.cell z16L).trans z16x1
            have z17F : ∀ o, w17.frozen? ⟨w14.heap.size, o, none⟩ = false := fun o => (hb17.frozen z16L).trans (z16F o)
            have z17L : w14.heap.size < w17.heap.size := Nat.lt_of_lt_of_le z16L hb17.size
            clear z16x0 z16x1 z16F
            refine wpAnyH_ready (rs := [5]) (by kernel_rfl) (by simp) ?_
            refine AllReadyH.cons rfl (fun K hK => ?_) AllReadyH.nil
            go_simp
            go_wp2_with (first | (go_at_call 15; refine (HIm.out g16 h16 _ (RowG.later og16.row hb17) (RowG.later oh16.row hb17)).mono ?_; rintro e w18 ⟨ra18, rc18, rb18, rd18, rfl, op18, ob18, ne18, hb18⟩; have b18 := (hHeld.2.2.2.2.2.2).trans (hb18.mono (hHeld.2.2.2.2.2.2).size)))
            refine hK.out _ _ ?_ (fun hHeld => ?_)
            · try dsimp only
              exact HSx.out _ b18
            clear hK K
            have z18x0 := (hb18.cell z17L).trans z17x0
            have z18x1 := (hb18.cell z17L).trans z17x1
            have z18F : ∀ o, w18.frozen? ⟨w14.heap.size, o, none⟩ = false := fun o => (hb18.frozen z17L).trans (z17F o)
            have z18L : w14.heap.size < w18.heap.size := Nat.lt_of_lt_of_le z17L hb18.size
            clear z17x0 z17x1 z17F
            refine wpAnyH_take (i := 6) (oi := ⟨some 86, _, _, _, _, _⟩) (v := ?_) rfl (by kernel_rfl) (by kernel_rfl) (by kernel_rfl) (fun _ _ _ h => h) (Or.inl ⟨by rfl, ?_⟩) (by assumption) ?_
            rotate_left
            · intro w hSw
              try dsimp only at hSw
              go_simp
              try with_reducible rfl
            simp only [Act.put, List.setIfInBounds_toArray, List.set_cons_zero, List.set_cons_succ]
            refine wpAnyH_take (i := 7) (oi := ⟨some 93, _, _, _, _, _⟩) (v := ?_) rfl (by kernel_rfl) (by kernel_rfl) (by kernel_rfl) (fun _ _ _ h => h) (Or.inl ⟨by rfl, ?_⟩) (by assumption) ?_
            rotate_left
            · intro w hSw
              try dsimp only at hSw
              go_simp
              try with_reducible rfl
            simp only [Act.put, List.setIfInBounds_toArray, List.set_cons_zero, List.set_cons_succ]
            refine wpAnyH_take (i := 8) (oi := ⟨some 94, _, _, _, _, _⟩) (v := ?_) rfl (by kernel_rfl) (by kernel_rfl) (by kernel_rfl) (fun _ _ _ h => h) (Or.inl ⟨by rfl, ?_⟩) (by assumption) ?_
            rotate_left
            · intro w hSw
              try dsimp only at hSw
              go_simp
              try with_reducible rfl
            simp only [Act.put, List.setIfInBounds_toArray, List.set_cons_zero, List.set_cons_succ]
            refine wpAnyH_ready (rs := [10]) (by kernel_rfl) (by simp) ?_
            refine AllReadyH.cons rfl (fun K hK => ?_) AllReadyH.nil
            go_simp
            refine hK.out _ _ ?_ (fun hHeld => ?_)
            · try dsimp only
              refine HSx.out _ ?_
              repeat (with_reducible refine Below.setCell ?_ ?_ _; rotate_left; (focus (exact (bl15))))
              exact (hHeld.2.2.2.2.2.2)
            clear hK K
            refine wpAnyH_take (i := 11) (oi := ⟨some 17, _, _, _, _, _⟩) (v := ?_) rfl (by kernel_rfl) (by kernel_rfl) (by kernel_rfl) (fun _ _ _ h => h) (Or.inl ⟨by rfl, ?_⟩) (by assumption) ?_
            rotate_left
            · intro w hSw
              try dsimp only at hSw
              go_simp
              try with_reducible rfl
            simp only [Act.put, List.setIfInBounds_toArray, List.set_cons_zero, List.set_cons_succ]
            have HE := hidP (hHeld.2.2.2.2.2.2)
            refine wpAnyH_done (by kernel_rfl) ?_ _
            clear hHeld
            have lo := fun k hk => OwnG.lt op18 k hk
            have lo' := fun k hk => OwnG.lt ob18 k hk
            have lb : w14.heap.size ≤ w17.heap.size := by first | exact b17.size | exact z17M.size
            have pl : w14.heap.size < w17.heap.size := z17L
            have HF := hidP (And.intro (OwnG.mono op18 lb) (And.intro (OwnG.mono ob18 lb) ne18))
            have HLo := hidP (And.intro lo lo')
            clear lo lo' op18 ob18 ne18
            go_wp2_with fail
            go_meet
            refine ⟨_, ra18, rc18, rb18, rd18, rfl, rfl, bl15, ?_, ?_, ?_, OwnG.put2 HF.out.1 (fun k hk => by have := HLo.out.1 k hk; omega), OwnG.put2 HF.out.2.1 (fun k hk => by have := HLo.out.2 k hk; omega), HF.out.2.2, (fun k hk => by have := HLo.out.1 k hk; omega), (fun k hk => by have := HLo.out.2 k hk; omega), HE.out⟩
            · simp; exact z18L
            all_goals (simp [go_sem, z18x0, z18x1])
        case rest =>
          obtain ⟨p3, a3, c3, b3, d3', rfl, rfl, hp3, xL, x0, x1, op3, ob3, ne3, np3, nb3, hX⟩ := hcut
          have oU_1 := hidP op3
          have oV_1 := hidP ob3
          have lp0_wc := (hX.cell lpL_w14).trans lp0_w14
          have lp1_wc := (hX.cell lpL_w14).trans lp1_w14
          have lpL_wc : w.heap.size < wc.heap.size := Nat.lt_of_lt_of_le lpL_w14 hX.size
          have lq0_wc := (hX.cell lqL_w14).trans lq0_w14
          have lq1_wc := (hX.cell lqL_w14).trans lq1_w14
          have lq2_wc := (hX.cell lqL_w14).trans lq2_w14
          have lq3_wc := (hX.cell lqL_w14).trans lq3_w14
          have lqL_wc : w.heap.size + 1 < wc.heap.size := Nat.lt_of_lt_of_le lqL_w14 hX.size
          have q0_wc := (hX.cell qL_w14).trans q0_w14
          have q1_wc := (hX.cell qL_w14).trans q1_w14
          have qL_wc : p1 < wc.heap.size := Nat.lt_of_lt_of_le qL_w14 hX.size
          have r0_wc := (hX.cell rL_w14).trans r0_w14
          have r1_wc := (hX.cell rL_w14).trans r1_w14
          have rL_wc : p2 < wc.heap.size := Nat.lt_of_lt_of_le rL_w14 hX.size
          have oS_wc := hidP (OwnG.later oS_w14.out hX)
          have oT_wc := hidP (OwnG.later oT_w14.out hX)
          have oI_wc := hidP (OwnG.later oI_w14.out hX)
          have oJ_wc := hidP (OwnG.later oJ_w14.out hX)
          have acc_wc := hidP (acc_w14.out.trans (hX.mono acc_w14.out.size))
          have sz_wc := hX.size
          clear lp0_w14 lp1_w14 lpL_w14 lq0_w14 lq1_w14 lq2_w14 lq3_w14 lqL_w14 q0_w14 q1_w14 qL_w14 r0_w14 r1_w14 rL_w14 oS_w14 oT_w14 oI_w14 oJ_w14 hX op3 ob3 ne3 np3 nb3 acc_w14
          go_wp2_with fail
          refine (HEr.out _ a3 c3 b3 d3' a1 c1 b1 d1' oU_1.out.row oS_wc.out.row oV_1.out.row oT_wc.out.row).mono ?_
          rintro e w19 ⟨rfl, hb_w19⟩
          have lp0_w19 := (hb_w19.cell lpL_wc).trans lp0_wc
          have lp1_w19 := (hb_w19.cell lpL_wc).trans lp1_wc
          have lpL_w19 : w.heap.size < w19.heap.size := Nat.lt_of_lt_of_le lpL_wc hb_w19.size
          have lq0_w19 := (hb_w19.cell lqL_wc).trans lq0_wc
          have lq1_w19 := (hb_w19.cell lqL_wc).trans lq1_wc
          have lq2_w19 := (hb_w19.cell lqL_wc).trans lq2_wc
          have lq3_w19 := (hb_w19.cell lqL_wc).trans lq3_wc
          have lqL_w19 : w.heap.size + 1 < w19.heap.size := Nat.lt_of_lt_of_le lqL_wc hb_w19.size
          have q0_w19 := (hb_w19.cell qL_wc).trans q0_wc
          have q1_w19 := (hb_w19.cell qL_wc).trans q1_wc
          have qL_w19 : p1 < w19.heap.size := Nat.lt_of_lt_of_le qL_wc hb_w19.size
          have r0_w19 := (hb_w19.cell rL_wc).trans r0_wc
          have r1_w19 := (hb_w19.cell rL_wc).trans r1_wc
          have rL_w19 : p2 < w19.heap.size := Nat.lt_of_lt_of_le rL_wc hb_w19.size
          have x0_w19 := (hb_w19.cell xL).trans x0
          have x1_w19 := (hb_w19.cell xL).trans x1
          have xL_w19 : p3 < w19.heap.size := Nat.lt_of_lt_of_le xL hb_w19.size
          have oS_w19 := hidP (OwnG.later oS_wc.out hb_w19)
          have oT_w19 := hidP (OwnG.later oT_wc.out hb_w19)
          have oI_w19 := hidP (OwnG.later oI_wc.out hb_w19)
          have oJ_w19 := hidP (OwnG.later oJ_wc.out hb_w19)
          have oU_w19 := hidP (OwnG.later oU_1.out hb_w19)
          have oV_w19 := hidP (OwnG.later oV_1.out hb_w19)
          have acc_w19 := hidP (acc_wc.out.trans (hb_w19.mono acc_wc.out.size))
          have sz_w19 := hb_w19.size
          clear lp0_wc lp1_wc lpL_wc lq0_wc lq1_wc lq2_wc lq3_wc lqL_wc q0_wc q1_wc qL_wc r0_wc r1_wc rL_wc x0 x1 xL oS_wc oT_wc oI_wc oJ_wc oU_1 oV_1 hb_w19 acc_wc
          go_wp2_with fail
          refine (HHd.out _ a2 c2 b2 d2' oI_w19.out.row oJ_w19.out.row).mono ?_
          rintro e w20 ⟨rfl, hb20⟩
          have lp0_w20 := (hb20.cell lpL_w19).trans lp0_w19
          have lp1_w20 := (hb20.cell lpL_w19).trans lp1_w19
          have lpL_w20 : w.heap.size < w20.heap.size := Nat.lt_of_lt_of_le lpL_w19 hb20.size
          have lq0_w20 := (hb20.cell lqL_w19).trans lq0_w19
          have lq1_w20 := (hb20.cell lqL_w19).trans lq1_w19
          have lq2_w20 := (hb20.cell lqL_w19).trans lq2_w19
          have lq3_w20 := (hb20.cell lqL_w19).trans lq3_w19
          have lqL_w20 : w.heap.size + 1 < w20.heap.size := Nat.lt_of_lt_of_le lqL_w19 hb20.size
          have q0_w20 := (hb20.cell qL_w19).trans q0_w19
          have q1_w20 := (hb20.cell qL_w19).trans q1_w19
          have qL_w20 : p1 < w20.heap.size := Nat.lt_of_lt_of_le qL_w19 hb20.size
          have r0_w20 := (hb20.cell rL_w19).trans r0_w19
          have r1_w20 := (hb20.cell rL_w19).trans r1_w19
          have rL_w20 : p2 < w20.heap.size := Nat.lt_of_lt_of_le rL_w19 hb20.size
          have x0_w20 := (hb20.cell xL_w19).trans x0_w19
          have x1_w20 := (hb20.cell xL_w19).trans x1_w19
          have xL_w20 : p3 < w20.heap.size := Nat.lt_of_lt_of_le xL_w19 hb20.size
          have oS_w20 := hidP (OwnG.later oS_w19.out hb20)
          have oT_w20 := hidP (OwnG.later oT_w19.out hb20)
          have oI_w20 := hidP (OwnG.later oI_w19.out hb20)
          have oJ_w20 := hidP (OwnG.later oJ_w19.out hb20)
          have oU_w20 := hidP (OwnG.later oU_w19.out hb20)
          have oV_w20 := hidP (OwnG.later oV_w19.out hb20)
          have acc_w20 := hidP (acc_w19.out.trans (hb20.mono acc_w19.out.size))
          have sz_w20 := hb20.size
          clear lp0_w19 lp1_w19 lpL_w19 lq0_w19 lq1_w19 lq2_w19 lq3_w19 lqL_w19 q0_w19 q1_w19 qL_w19 r0_w19 r1_w19 rL_w19 x0_w19 x1_w19 xL_w19 oS_w19 oT_w19 oI_w19 oJ_w19 oU_w19 oV_w19 hb20 acc_w19
          go_wp2_with fail
          go_ret
          exact ⟨rfl, acc_w20.out⟩
  · rw [szT_no ht] at HSz
    clear hP hK hnp hnb hst ht
    go_enter Tryz.func4, Tryz.ntmps4
    go_wp2_with fail
    obtain ⟨u0, u1⟩ := box2 (u := .slice ap np cp) (v := .slice ab nb cb) w 25
    have uB := alloc_below w (.cells #[.slice ap np cp, .slice ab nb cb] 25)
    have uL := alloc_lt w (.cells #[.slice ap np cp, .slice ab nb cb] 25)
    have uS : (w.alloc (.cells #[.slice ap np cp, .slice ab nb cb] 25)).heap.size = w.heap.size + 1 := by simp
    generalize w.alloc (.cells #[.slice ap np cp, .slice ab nb cb] 25) = W1 at *
    obtain ⟨y0, y1, y2, y3⟩ := box4 (p := pt) W1 29
    have yB := alloc_below W1 (.cells #[.bool pt.s, .int .i64 pt.H.toInt, .int .i64 pt.L.toInt, .int .i64 pt.b] 29)
    have yL := alloc_lt W1 (.cells #[.bool pt.s, .int .i64 pt.H.toInt, .int .i64 pt.L.toInt, .int .i64 pt.b] 29)
    have yS : (W1.alloc (.cells #[.bool pt.s, .int .i64 pt.H.toInt, .int .i64 pt.L.toInt, .int .i64 pt.b] 29)).heap.size = W1.heap.size + 1 := by simp
    generalize W1.alloc (.cells #[.bool pt.s, .int .i64 pt.H.toInt, .int .i64 pt.L.toInt, .int .i64 pt.b] 29) = W2 at *
    rw [uS] at y0 y1 y2 y3 yL yS
    have B1 := hidP (uB.trans (yB.mono uB.size))
    clear uB yB
    refine (HSz.out _ B1.out).mono ?_
    rintro e w2 ⟨rfl, hb2⟩
    go_wp2_with fail
    go_ret
    exact ⟨rfl, B1.out.trans (hb2.mono B1.out.size)⟩

end Go.Proofs.YtmbmekcppmbokaaGreat

/-
  For every plan and every prefix the two Free answer alike, in rows of their own, and leave the plan as it was, so the exact law of Free returns true; no condition.
-/
namespace Go.Proofs.YtmbmekcppmbokaaGreat
open Go.ChangeShapes Go.WideShapes Go.ChangeAt Go.RowKit Go.Joins Go.Deep

set_option maxRecDepth 100000 in
theorem free_lifted (os : Os) (started : os.Started) (H : Type) (enc : TypeId × Value → H) :
    ReturnsInHanded {} Tryz.checked os 4 .any (Rows.fnExactFreeSpec.pre6 enc Tryz.prog Tryz.f4 Rows.fnExactFreeRow.domain false) (Rows.fnExactFreeSpec.post enc Tryz.prog Tryz.f4 false true false false) := by
  refine returnsInHanded_of_change (C := Tryz.checked) Tryz.ownP started (by kernel_rfl) Tryz.func4
    (ChangeSpec.witness6 (enc := enc) (C := Tryz.checked) false ⟨#[], #[.agg #[.slice none 0 0, .slice none 0 0], .agg #[.bool false, .int .i64 0, .int .i64 0, .int .i64 0], .string ⟨#[]⟩], []⟩ 8 (by kernel_rfl) (by kernel_rfl) (by kernel_rfl) (by kernel_rfl)) ?_
  intro W base args ds gs before hval0 hW _ _
  have hval : ∀ (j : Nat) t v, Tryz.f4.params[j]? = some t → args[j]? = some v → Value.okWide Tryz.prog W .any base t v := hval0
  have hW' := hW
  obtain ⟨p, q, hA0, hV, rfl, _, _⟩ := hW
  have hA : DataW.TrodAll enc Tryz.prog W 0 (fun _ => true) true Tryz.f4.params.toList args.toList ds p := hA0
  rw [Tryz.params4] at hA hval
  obtain ⟨v0, v1, v2, d0, d1, d2, p0, p1, p2, rfl, rfl, rfl, h0, h1, h2⟩ := trodAll_three hA
  obtain ⟨rfl, rfl⟩ := trodVars_none hV
  obtain ⟨ap, np, cp, ab, nb, cb, ps, bs, rfl, hnp, hnb, hP, hK, h9, h9', hst⟩ := openPlan (hval 0 25 v0 rfl rfl) h0
  obtain ⟨j00, j01, j02, j03, y00, y01, y02, y03, m0, rfl, rfl, rfl, hy00, hy01, hy02, hy03⟩ := open_pfx Tryz.underlying29 Tryz.underlying27 (by kernel_rfl) rfl (by kernel_rfl) rfl (by kernel_rfl) Tryz.cellsPP (hval 1 29 v1 rfl rfl) h1
  obtain ⟨s0, e00, rfl⟩ := DataW.trod_bool Tryz.underlying4 hy00
  obtain ⟨a0, e01, rfl, wa0⟩ := DataW.trod_int Tryz.underlying3 hy01
  obtain ⟨b0, e02, rfl, wb0⟩ := DataW.trod_int Tryz.underlying3 hy02
  obtain ⟨c0, e03, rfl, wc0⟩ := DataW.trod_int Tryz.underlying3 hy03
  simp at e00 e01 e02 e03
  subst e00 e01 e02 e03
  obtain ⟨ow, rfl, rfl, rfl, ws⟩ := Go.ChangeMaps.open_string Tryz.underlying9 (hval 2 9 v2 rfl rfl) h2
  clear hA0 hval0
  simp only [List.append_nil] at hW'
  have hlt : ∀ x ∈ p0, x.block < W.heap.size := fun x hx => by simpa using hW'.lt x hx
  have reads1 : ∀ (W' : World) (sp : Nat → Bool), DataW.Trod enc Tryz.prog W' 0 sp true 29 (.agg #[.bool s0, .int .i64 a0, .int .i64 b0, .int .i64 c0]) (.agg [.agg [.lit (.bool s0), .lit (.int .i64 a0), .lit (.int .i64 b0)], .lit (.int .i64 c0)]) [] := fun W' sp =>
    shut_pfx (y0 := (.lit (.bool s0), [])) (y1 := (.lit (.int .i64 a0), [])) (y2 := (.lit (.int .i64 b0), [])) (y3 := (.lit (.int .i64 c0), [])) Tryz.underlying29 Tryz.underlying27 (by kernel_rfl) rfl (by kernel_rfl) rfl (by kernel_rfl) Tryz.cellsPP ⟨1, by simp [DataW.trod, Tryz.underlying4]⟩ ⟨1, by simp [DataW.trod, Tryz.underlying3, wa0]⟩ ⟨1, by simp [DataW.trod, Tryz.underlying3, wb0]⟩ ⟨1, by simp [DataW.trod, Tryz.underlying3, wc0]⟩
  have law := lawFree ⟨s0, BitVec.ofInt 64 a0, BitVec.ofInt 64 b0, c0⟩ ow (by unfold maxLen at ws; omega) ap np cp ab nb cb ps bs W hnp hnb hP hK h9 h9' hst
  change Calls Tryz.prog 4 #[.agg #[.slice ap np cp, .slice ab nb cb], .agg #[.bool s0, .int .i64 (BitVec.ofInt 64 a0).toInt, .int .i64 (BitVec.ofInt 64 b0).toInt, .int .i64 c0], .string ow] W _ at law
  rw [wfP wa0, wfP wb0] at law
  refine law.mono fun e W' ⟨he, hb⟩ => ?_
  subst he
  exact ⟨_, rfl, ⟨_, _, _, [], p0, [], hW', trodAll_mk1 (shut_bool Tryz.underlying4 true), trodAll_nil3 (trodAll_mk3 (Below.trod Tryz.laidOutP (by kernel_rfl) (of_decide_eq_true (by kernel_rfl)) h0 hb hlt) (reads1 _ _) (Go.ChangeMaps.shut_string Tryz.underlying9 ws)), rfl, hb.frame _, fun h => by cases h⟩⟩

theorem free_holds : Rows.FnExactFreeSaid :=
  OpenClaim.holds_of_wide 4 Tryz.f4 rfl rfl rfl rfl rfl rfl rfl ⟨rfl, rfl, rfl, rfl, rfl⟩ rfl rfl rfl rfl rfl (by kernel_rfl) Tryz.func4 (by kernel_rfl)
    (of_decide_eq_true (by kernel_rfl)) (by unfold Func.isWrapper; rw [if_neg (of_decide_eq_false (by kernel_rfl))]; exact ⟨rfl, rfl⟩)
    (fun os started H enc _ => free_lifted os started H enc)

end Go.Proofs.YtmbmekcppmbokaaGreat
