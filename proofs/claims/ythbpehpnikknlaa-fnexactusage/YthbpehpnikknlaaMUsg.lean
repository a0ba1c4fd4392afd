/-
  For every plan the two Usage answer alike, in rows of their own, and leave the plan as it was, so the exact law of Usage returns true; no condition.
-/
import Derived.Test.YthbpehpnikknlaaGRow
import Derived.Laws.BytesArg
import Derived.Test.YthbpehpnikknlaaRPool
import Derived.Test.YthbpehpnikknlaaRBlock
import Derived.Test.YthbpehpnikknlaaVPool
import Derived.Test.YthbpehpnikknlaaPEq
import Derived.Test.YthbpehpnikknlaaVIPlan
import Derived.Test.YthbpehpnikknlaaVSPool
import Derived.Test.YthbpehpnikknlaaVSPl2
import Derived.Test.YthbpehpnikknlaaVBlocks
import Derived.Test.YthbpehpnikknlaaVPlanS
import Derived.ProofKit
import Derived.Lib.SmallJoins
import Derived.Carry
import Derived.Deep.Slices
import Derived.ChangeMaps5
namespace Go.Proofs.Ythbpehpnikknlaa
open Go.RowKit

/-- The figures of k ahead of out. -/
def mtR (k : Nat) (out : ByteArray) : ByteArray := if _h : k = 0 then out else mtR (k / 10) (strOfNums [48 + (k : Int) % 10] ++ out)
  termination_by k
  decreasing_by omega
theorem mtR_zero (out : ByteArray) : mtR 0 out = out := by unfold mtR; rw [dif_pos rfl]
theorem mtR_step {k : Nat} (h : k ≠ 0) (out : ByteArray) : mtR k out = mtR (k / 10) (strOfNums [48 + (k : Int) % 10] ++ out) := by conv => lhs; unfold mtR; rw [dif_neg h]
def mtT (k : Nat) : ByteArray := ⟨#[109]⟩ ++ mtR k ⟨#[]⟩
theorem ret_ba9 {a b : ByteArray} (h : a = b) : Ending.returned (.string a) = .returned (.string b) := by rw [h]
theorem ba_size (a b : ByteArray) : (a ++ b).size = a.size + b.size := by simp

theorem cvt1 (w : World) (c : Int) : (convert 120 9 (.slice (some ⟨w.heap.size, 0, none⟩) 1 1)).run Try.prog (w.alloc (.cells #[.int .u8 c] 5)) = .ok (.string (strOfNums [c])) (w.alloc (.cells #[.int .u8 c] 5)) :=
  run_convert_bytes_arg _ 120 5 Try.underlying120 Try.underlying5 w.heap.size 0 1 1 [c] rfl (by
    intro i hi
    have : i = 0 := by omega
    subst this
    simp [go_sem]) 9 Try.underlying9

set_option maxHeartbeats 1000000 in
theorem markText_any (k : Nat) (hk : 0 < k) (h9 : k ≤ 90000000000) (w : World) :
    Calls Try.prog 87 #[.int .i64 k] w fun e w' => e = .returned (.string (mtT k)) ∧ Below w.heap.size w w' := by
  have d1 : decide ((k : Int) ≤ 0) = false := decide_eq_false (by omega)
  go_enter Try.func87, Try.ntmps87
  go_wp2_with fail
  go_loopw [0, 3] (fun t0 t3 wr => ∃ (J : Int) (m : Nat) (out : ByteArray), t0 = .int .i64 J ∧ t3 = .string out ∧ 0 ≤ J ∧ J ≤ 90000000000 ∧ J.toNat < 10 ^ m ∧ out.size + m ≤ 20 ∧ mtR k ⟨#[]⟩ = mtR J.toNat out ∧ Below w.heap.size w wr) (fun t0 _ _ => (intOf t0).toNat)
  case atStart => exact ⟨k, 19, ⟨#[]⟩, rfl, rfl, by omega, by omega, by omega, by show 0 + 19 ≤ 20; omega, rfl, Below.refl _ _⟩
  case round =>
    obtain ⟨J, m, out, rfl, rfl, hJ0, hj9, hjm, hsz, heq, hbel⟩ := hrel
    have HM := hidP (And.intro hjm hsz)
    have hsz2 : out.size ≤ 20 := by omega
    clear hjm hsz
    by_cases h0 : J = 0
    · subst h0
      have HE : Hid (mtR k ⟨#[]⟩ = out) := hidP (heq.trans (mtR_zero out))
      have HB := hidP hbel
      clear heq hbel
      go_wp2_with fail
      go_ret
      exact ⟨ret_ba9 (by unfold mtT; rw [HE.out]), HB.out⟩
    · have g1 : decide ((0 : Int) < J) = true := decide_eq_true (by omega)
      have hst := mtR_step (k := J.toNat) (by omega) out
      rw [show ((J.toNat : Nat) : Int) = J by omega] at hst
      rw [hst] at heq
      clear hst
      have HE := hidP heq
      have HB := hidP hbel
      have hcv := cvt1 wr (48 + J % 10)
      have hw8 : IntKind.u8.wrap (48 + J % 10) = 48 + J % 10 := by simp [IntKind.wrap, IntKind.bits, IntKind.signed]; omega
      have hss : (strOfNums [48 + J % 10]).size = 1 := rfl
      clear heq hbel
      have HJ := hidP (And.intro hJ0 hj9)
      go_wp2_with fail
      go_roundw
      case rel =>
        have h10 : (J / 10).toNat = J.toNat / 10 := by have := HJ.out; omega
        have hm : m ≠ 0 := by
          intro h; have h1 := HM.out.1; rw [h] at h1; have h2 := HJ.out; omega
        refine ⟨J / 10, m - 1, _, rfl, rfl, by have := HJ.out; omega, by have := HJ.out; omega, ?_, ?_, ?_, HB.out.alloc HB.out.size _⟩
        · rw [h10]
          apply Nat.div_lt_of_lt_mul
          have := HM.out.1
          rw [show m = (m - 1) + 1 by omega, Nat.pow_succ, Nat.mul_comm] at this
          exact this
        · rw [ba_size, hss]; have := HM.out.2; omega
        · rw [h10]; exact HE.out
      case measure => simp [intOf]; have := HJ.out; omega

theorem markText_int (J : Int) (h0 : 0 < J) (h9 : J ≤ 90000000000) (w : World) :
    Calls Try.prog 87 #[.int .i64 J] w fun e w' => e = .returned (.string (mtT J.toNat)) ∧ Below w.heap.size w w' := by
  have := markText_any J.toNat (by omega) (by omega) w
  rw [show ((J.toNat : Nat) : Int) = J by omega] at this
  exact this

end Go.Proofs.Ythbpehpnikknlaa

namespace Go.Proofs.Ythbpehpnikknlaa
open Go.RowKit

/-- The marks of the j-th pool, and of the j-th block. -/
def mkPl (k : Int) (j : Nat) : Pl := ⟨⟨(k + 5 * (j : Int)) % 3 == 0, BitVec.ofInt 64 (k + 5 * (j : Int) + 1), BitVec.ofInt 64 (k + 5 * (j : Int) + 1 + 1), k + 5 * (j : Int) + 1 + 1 + 1⟩, k + 5 * (j : Int) + 1 + 1 + 1 + 1⟩
def mkBk (k : Int) (j : Nat) : Bk := ⟨⟨(k + 5 * (j : Int)) % 3 == 0, BitVec.ofInt 64 (k + 5 * (j : Int) + 1), BitVec.ofInt 64 (k + 5 * (j : Int) + 1 + 1), k + 5 * (j : Int) + 1 + 1 + 1⟩, mtT (k + 5 * (j : Int) + 1 + 1 + 1 + 1).toNat⟩
theorem ownsRow_later {w w' : World} {B k n : Nat} {t : TypeId} {v : Value} {xs : List Value} (h : w.ownsRow B t k v n xs) (hb : Below w.heap.size w w') : w'.ownsRow B t k v n xs := by
  refine ⟨h.1, ?_⟩
  rcases h.2 with h' | ⟨g, c, cur, h1, h2, h3, h4⟩
  · exact Or.inl h'
  · refine Or.inr ⟨g, c, cur, h1, h2, ?_, h4⟩
    have hg : g < w.heap.size := by
      rcases Nat.lt_or_ge g w.heap.size with h' | h'
      · exact h'
      · rw [Array.getElem?_eq_none h'] at h3; cases h3
    exact (hb.block g hg).trans h3
theorem grown_of {w w' : World} (h : Below w.heap.size w w') (r : Option Nat) : w.grownBy w' r := ⟨h.os, h.tape, h.output, h.size, fun k hk _ => h.block k hk⟩

set_option maxHeartbeats 2000000 in
theorem markPoolS_any (a : Option Addr) (n cap B : Nat) (ps : List Pl) (k : Int) (w : World) (hn : n = ps.length) (h : OwnG KPl 48 w B (.slice a n cap) ps) (hl : n ≤ 9000000000) (k0 : 0 < k) (k1 : k ≤ 9000000000) :
    Calls Try.prog 56 #[.slice a n cap, .int .i64 k] w fun e w' => e = .returned (.int .i64 (k + 5 * n)) ∧ OwnG KPl 48 w' B (.slice a n cap) (mksG (mkPl k) n) ∧ w.grownBy w' (Value.slice a n cap).ownBlock := by
  have hn' : ps.length = n := hn.symm
  clear hn
  by_cases h0 : n = 0
  · subst h0
    have HO := hidP h
    have HZ : Hid (ps = []) := List.length_eq_zero_iff.1 hn'
    clear h hn'
    go_enter Try.func56, Try.ntmps56
    go_wp2
    refine wp_loop_rounds 1 ?_
    rw [rounds_succ]
    go_wp2
    go_ret
    refine ⟨by simp, ?_, World.grownBy.refl _ _⟩
    have := HO.out; rw [HZ.out] at this; simpa [mksG] using this
  · obtain ⟨g, rfl⟩ : ∃ g, a = some ⟨g, 0, none⟩ := by
      rcases h.2 with ⟨hv, _⟩ | ⟨g, cap', cur, hv, _⟩
      · simp at hv; omega
      · simp at hv; exact ⟨g, hv.1⟩
    have HO : Hid (OwnG KPl 48 w B (.slice (some ⟨g, 0, none⟩) n cap) (mksG (mkPl k) 0 ++ ps.drop 0)) := by
      refine hidP ?_; simpa [mksG] using h
    have HN : Hid (ps.length = n) := hn'
    clear h hn'
    go_enter Try.func56, Try.ntmps56
    go_wp2
    go_loopw [1, 5] (fun t1 t5 wr => ∃ i : Nat, i ≤ n ∧ t5 = .int .i64 i ∧ t1 = .int .i64 (k + 5 * i) ∧ OwnG KPl 48 wr B (.slice (some ⟨g, 0, none⟩) n cap) (mksG (mkPl k) i ++ ps.drop i) ∧ w.grownBy wr (some g)) (fun _ t5 _ => n - (intOf t5).toNat)
    case atStart => exact ⟨0, Nat.zero_le _, rfl, by simp, HO.out, World.grownBy.refl _ _⟩
    case round =>
      obtain ⟨i, hi, rfl, rfl, hown, hgr⟩ := hrel
      have hlen : n = (mksG (mkPl k) i ++ ps.drop i).length := by rw [List.length_append, mksG_len, List.length_drop, HN.out]; omega
      by_cases hlt : i < n
      · obtain ⟨f0, f1, f2, f3, f4⟩ := frzPl hown i
        have e1 : (mkPl k i).p.H.toInt = k + 5 * (i : Int) + 1 := toI64 _ (by omega) (by omega)
        have e2 : (mkPl k i).p.L.toInt = k + 5 * (i : Int) + 1 + 1 := toI64 _ (by omega) (by omega)
        have e3 : (mkPl k i).p.b = k + 5 * (i : Int) + 1 + 1 + 1 := rfl
        have e0 : (mkPl k i).p.s = ((k + 5 * (i : Int)) % 3 == 0) := rfl
        have e4 : (mkPl k i).n = k + 5 * (i : Int) + 1 + 1 + 1 + 1 := rfl
        have hput' := putPl hown hlen i hlt (mkPl k i)
        rw [mksG_step (mkPl k) n i ps HN.out hlt, e0, e1, e2, e3, e4] at hput'
        clear e0 e1 e2 e3 e4
        obtain ⟨q', hp', _, c0, c1, c2, c3, c4⟩ := rowPl0 hown i (by rw [← hlen]; exact hlt)
        have HS := hidP hput'
        have HG := hidP hgr
        clear hown hgr HO hput' hlen
        go_wp2_with fail
        go_roundw
        case rel => exact ⟨i + 1, by omega, by go_num, by go_num, HS.out, ((((HG.out.trans (grown_cell _ g _ _)).trans (grown_cell _ g _ _)).trans (grown_cell _ g _ _)).trans (grown_cell _ g _ _)).trans (grown_cell _ g _ _)⟩
        case measure => simp [intOf]; omega
      · have hin : i = n := by omega
        subst hin
        have HS : Hid (OwnG KPl 48 wr B (.slice (some ⟨g, 0, none⟩) i cap) (mksG (mkPl k) i)) := by
          rw [List.drop_of_length_le (by rw [HN.out]; exact Nat.le_refl _), List.append_nil] at hown
          exact hidP hown
        have HG := hidP hgr
        clear hown hgr HO hlen
        go_wp2
        go_ret
        exact ⟨rfl, HS.out, HG.out⟩

set_option maxRecDepth 10000 in
set_option maxHeartbeats 1000000 in
theorem heldPoolS_any (a : Option Addr) (cap n : Nat) (k : Int) (w : World) (h : RowG KPl w a (mksG (mkPl k) n)) (hl : n ≤ 9000000000) (k0 : 0 < k) (k1 : k ≤ 9000000000) :
    Calls Try.prog 58 #[.slice a n cap, .int .i64 k] w fun e w' => e = .returned (.int .i64 (k + 5 * n)) ∧ Below w.heap.size w w' := by
  have HB := hidP h
  clear h
  go_enter Try.func58, Try.ntmps58
  go_wp2
  go_loopw [1, 5] (fun t1 t5 wr => ∃ i : Nat, i ≤ n ∧ t5 = .int .i64 i ∧ t1 = .int .i64 (k + 5 * i) ∧ Below w.heap.size w wr) (fun _ t5 _ => n - (intOf t5).toNat)
  case atStart => exact ⟨0, Nat.zero_le _, rfl, by simp, Below.refl _ _⟩
  case round =>
    obtain ⟨i, hi, rfl, rfl, hbel⟩ := hrel
    have HBel := hidP hbel
    by_cases hlt : i < n
    · obtain ⟨p, o, q, rfl, hp, hq, c0, c1, c2, c3, c4⟩ := rowPl HB.out i (by rw [mksG_len]; exact hlt)
      rw [mksG_at (mkPl k) n i hlt] at hq
      cases hq
      have e1 : (mkPl k i).p.H.toInt = k + 5 * (i : Int) + 1 := toI64 _ (by omega) (by omega)
      have e2 : (mkPl k i).p.L.toInt = k + 5 * (i : Int) + 1 + 1 := toI64 _ (by omega) (by omega)
      have d0 : wr.cell? ⟨p, o + i * 5, none⟩ = some (.bool ((k + 5 * (i : Int)) % 3 == 0)) := (hbel.cell hp).trans c0
      have d1 : wr.cell? ⟨p, o + i * 5 + 1, none⟩ = some (.int .i64 (k + 5 * (i : Int) + 1)) := by rw [← e1]; exact (hbel.cell hp).trans c1
      have d2 : wr.cell? ⟨p, o + i * 5 + 2, none⟩ = some (.int .i64 (k + 5 * (i : Int) + 1 + 1)) := by rw [← e2]; exact (hbel.cell hp).trans c2
      have d3 : wr.cell? ⟨p, o + i * 5 + 3, none⟩ = some (.int .i64 (k + 5 * (i : Int) + 1 + 1 + 1)) := (hbel.cell hp).trans c3
      have d4 : wr.cell? ⟨p, o + i * 5 + 4, none⟩ = some (.int .i64 (k + 5 * (i : Int) + 1 + 1 + 1 + 1)) := (hbel.cell hp).trans c4
      have dL : p < wr.heap.size := Nat.lt_of_lt_of_le hp hbel.size
      clear e1 e2 c0 c1 c2 c3 c4 hbel
      go_wp2
      go_roundw
      case rel => exact ⟨i + 1, by omega, by go_num, by go_num, HBel.out⟩
      case measure => simp [intOf]; omega
    · have hin : i = n := by omega
      subst hin
      clear hbel
      go_wp2
      go_ret
      exact ⟨rfl, HBel.out⟩

set_option maxHeartbeats 2000000 in
theorem markBlockS_any (a : Option Addr) (n cap B : Nat) (ps : List Bk) (k : Int) (w : World) (hn : n = ps.length) (h : OwnG KBk 56 w B (.slice a n cap) ps) (hl : n ≤ 9000000000) (k0 : 0 < k) (k1 : k ≤ 9000000000) :
    Calls Try.prog 57 #[.slice a n cap, .int .i64 k] w fun e w' => e = .returned (.int .i64 (k + 5 * n)) ∧ OwnG KBk 56 w' B (.slice a n cap) (mksG (mkBk k) n) ∧ w.grownBy w' (Value.slice a n cap).ownBlock := by
  have hn' : ps.length = n := hn.symm
  clear hn
  by_cases h0 : n = 0
  · subst h0
    have HO := hidP h
    have HZ : Hid (ps = []) := List.length_eq_zero_iff.1 hn'
    clear h hn'
    go_enter Try.func57, Try.ntmps57
    go_wp2
    refine wp_loop_rounds 1 ?_
    rw [rounds_succ]
    go_wp2
    go_ret
    refine ⟨by simp, ?_, World.grownBy.refl _ _⟩
    have := HO.out; rw [HZ.out] at this; simpa [mksG] using this
  · obtain ⟨g, rfl⟩ : ∃ g, a = some ⟨g, 0, none⟩ := by
      rcases h.2 with ⟨hv, _⟩ | ⟨g, cap', cur, hv, _⟩
      · simp at hv; omega
      · simp at hv; exact ⟨g, hv.1⟩
    have HO : Hid (OwnG KBk 56 w B (.slice (some ⟨g, 0, none⟩) n cap) (mksG (mkBk k) 0 ++ ps.drop 0)) := by
      refine hidP ?_; simpa [mksG] using h
    have HN : Hid (ps.length = n) := hn'
    clear h hn'
    go_enter Try.func57, Try.ntmps57
    go_wp2
    go_loopw [1, 5] (fun t1 t5 wr => ∃ i : Nat, i ≤ n ∧ t5 = .int .i64 i ∧ t1 = .int .i64 (k + 5 * i) ∧ OwnG KBk 56 wr B (.slice (some ⟨g, 0, none⟩) n cap) (mksG (mkBk k) i ++ ps.drop i) ∧ w.grownBy wr (some g)) (fun _ t5 _ => n - (intOf t5).toNat)
    case atStart => exact ⟨0, Nat.zero_le _, rfl, by simp, HO.out, World.grownBy.refl _ _⟩
    case round =>
      obtain ⟨i, hi, rfl, rfl, hown, hgr⟩ := hrel
      have hlen : n = (mksG (mkBk k) i ++ ps.drop i).length := by rw [List.length_append, mksG_len, List.length_drop, HN.out]; omega
      by_cases hlt : i < n
      · obtain ⟨f0, f1, f2, f3, f4⟩ := frzBk hown i
        have e1 : (mkBk k i).p.H.toInt = k + 5 * (i : Int) + 1 := toI64 _ (by omega) (by omega)
        have e2 : (mkBk k i).p.L.toInt = k + 5 * (i : Int) + 1 + 1 := toI64 _ (by omega) (by omega)
        have e3 : (mkBk k i).p.b = k + 5 * (i : Int) + 1 + 1 + 1 := rfl
        have e0 : (mkBk k i).p.s = ((k + 5 * (i : Int)) % 3 == 0) := rfl
        have hcs : KBk.cs (mkBk k i) = [.bool ((k + 5 * (i : Int)) % 3 == 0), .int .i64 (k + 5 * (i : Int) + 1), .int .i64 (k + 5 * (i : Int) + 1 + 1), .int .i64 (k + 5 * (i : Int) + 1 + 1 + 1)] ++ [.string (mtT (k + 5 * (i : Int) + 1 + 1 + 1 + 1).toNat)] := by
          show ([.bool (mkBk k i).p.s, .int .i64 (mkBk k i).p.H.toInt, .int .i64 (mkBk k i).p.L.toInt, .int .i64 (mkBk k i).p.b, .string (mkBk k i).t] : List Value) = _
          rw [e0, e1, e2, e3]; rfl
        have hfl := gflat_set KBk (mksG (mkBk k) i ++ ps.drop i) i (mkBk k i) (by rw [← hlen]; exact hlt)
        rw [mksG_step (mkBk k) n i ps HN.out hlt, hcs] at hfl
        have hlen2 : (mksG (mkBk k) (i + 1) ++ ps.drop (i + 1)).length = n := by rw [List.length_append, mksG_len, List.length_drop, HN.out]; omega
        have hraw : wr.ownsRow B 56 5 (.slice (some ⟨g, 0, none⟩) n cap) n (gflat KBk (mksG (mkBk k) i ++ ps.drop i)) := by
          have := hown; unfold OwnG at this; rw [← hlen] at this; exact this
        have h4 := puts_own [.bool ((k + 5 * (i : Int)) % 3 == 0), .int .i64 (k + 5 * (i : Int) + 1), .int .i64 (k + 5 * (i : Int) + 1 + 1), .int .i64 (k + 5 * (i : Int) + 1 + 1 + 1)] wr _ (i * 5) hraw
        obtain ⟨q', hp', _, c0, c1, c2, c3, c4⟩ := rowBk0 hown i (by rw [← hlen]; exact hlt)
        have c4' := World.ownsRow.cellAt h4 (i * 5 + 4) (by omega)
        have HF := hidP hfl
        have H4 := hidP h4
        have HL2 := hidP hlen2
        have HG := hidP hgr
        have HM := hidP (markText_int (k + 5 * (i : Int) + 1 + 1 + 1 + 1) (by omega) (by omega))
        have F4 := hidP (fun (w2 : World) (hb : Below ((((wr.setCell ⟨g, i * 5, none⟩ (.bool ((k + 5 * (i : Int)) % 3 == 0))).setCell ⟨g, i * 5 + 1, none⟩ (.int .i64 (k + 5 * (i : Int) + 1))).setCell ⟨g, i * 5 + 2, none⟩ (.int .i64 (k + 5 * (i : Int) + 1 + 1))).setCell ⟨g, i * 5 + 3, none⟩ (.int .i64 (k + 5 * (i : Int) + 1 + 1 + 1))).heap.size ((((wr.setCell ⟨g, i * 5, none⟩ (.bool ((k + 5 * (i : Int)) % 3 == 0))).setCell ⟨g, i * 5 + 1, none⟩ (.int .i64 (k + 5 * (i : Int) + 1))).setCell ⟨g, i * 5 + 2, none⟩ (.int .i64 (k + 5 * (i : Int) + 1 + 1))).setCell ⟨g, i * 5 + 3, none⟩ (.int .i64 (k + 5 * (i : Int) + 1 + 1 + 1))) w2) => And.intro (World.ownsRow.stored (ownsRow_later (show ((((wr.setCell ⟨g, i * 5, none⟩ (.bool ((k + 5 * (i : Int)) % 3 == 0))).setCell ⟨g, i * 5 + 1, none⟩ (.int .i64 (k + 5 * (i : Int) + 1))).setCell ⟨g, i * 5 + 2, none⟩ (.int .i64 (k + 5 * (i : Int) + 1 + 1))).setCell ⟨g, i * 5 + 3, none⟩ (.int .i64 (k + 5 * (i : Int) + 1 + 1 + 1))).ownsRow B 56 5 (.slice (some ⟨g, 0, none⟩) n cap) n _ from h4) hb) (i * 5 + 4) (.string (mtT (k + 5 * (i : Int) + 1 + 1 + 1 + 1).toNat))).1 (World.ownsRow.frozenAt (ownsRow_later (show ((((wr.setCell ⟨g, i * 5, none⟩ (.bool ((k + 5 * (i : Int)) % 3 == 0))).setCell ⟨g, i * 5 + 1, none⟩ (.int .i64 (k + 5 * (i : Int) + 1))).setCell ⟨g, i * 5 + 2, none⟩ (.int .i64 (k + 5 * (i : Int) + 1 + 1))).setCell ⟨g, i * 5 + 3, none⟩ (.int .i64 (k + 5 * (i : Int) + 1 + 1 + 1))).ownsRow B 56 5 (.slice (some ⟨g, 0, none⟩) n cap) n _ from h4) hb) (i * 5 + 4)))
        have hg4 : g < ((((wr.setCell ⟨g, i * 5, none⟩ (.bool ((k + 5 * (i : Int)) % 3 == 0))).setCell ⟨g, i * 5 + 1, none⟩ (.int .i64 (k + 5 * (i : Int) + 1))).setCell ⟨g, i * 5 + 2, none⟩ (.int .i64 (k + 5 * (i : Int) + 1 + 1))).setCell ⟨g, i * 5 + 3, none⟩ (.int .i64 (k + 5 * (i : Int) + 1 + 1 + 1))).heap.size := by simp; exact hp'
        have c4s : ((((wr.setCell ⟨g, i * 5, none⟩ (.bool ((k + 5 * (i : Int)) % 3 == 0))).setCell ⟨g, i * 5 + 1, none⟩ (.int .i64 (k + 5 * (i : Int) + 1))).setCell ⟨g, i * 5 + 2, none⟩ (.int .i64 (k + 5 * (i : Int) + 1 + 1))).setCell ⟨g, i * 5 + 3, none⟩ (.int .i64 (k + 5 * (i : Int) + 1 + 1 + 1))).cell? ⟨g, i * 5 + 4, none⟩ = some (.string q'.t) := by simp [go_sem, c4]
        have C4 := hidP (And.intro hg4 c4s)
        clear hown hgr HO hlen e0 e1 e2 e3 hcs hfl hraw h4 hlen2 c4' hg4 c4s
        go_wp2_with fail
        refine (HM.out _).mono ?_
        rintro e w2 ⟨rfl, hb2⟩
        have c4t := (hb2.cell C4.out.1).trans C4.out.2
        have fz := (F4.out w2 hb2).2
        have HS := hidP (F4.out w2 hb2).1
        have HG2 := hidP (((((HG.out.trans (grown_cell _ g _ _)).trans (grown_cell _ g _ _)).trans (grown_cell _ g _ _)).trans (grown_cell _ g _ _)).trans (grown_of hb2 (some g)))
        clear hb2 F4
        go_wp2_with fail
        go_roundw
        case rel =>
          refine ⟨i + 1, by omega, by go_num, by go_num, ?_, HG2.out.trans (grown_cell _ g _ _)⟩
          unfold OwnG
          rw [HL2.out, ← HF.out]
          exact HS.out
        case measure => simp [intOf]; omega
      · have hin : i = n := by omega
        subst hin
        have HS : Hid (OwnG KBk 56 wr B (.slice (some ⟨g, 0, none⟩) i cap) (mksG (mkBk k) i)) := by
          rw [List.drop_of_length_le (by rw [HN.out]; exact Nat.le_refl _), List.append_nil] at hown
          exact hidP hown
        have HG := hidP hgr
        clear hown hgr HO hlen
        go_wp2
        go_ret
        exact ⟨rfl, HS.out, HG.out⟩

set_option maxRecDepth 10000 in
set_option maxHeartbeats 1000000 in
theorem heldBlockS_any (a : Option Addr) (cap n : Nat) (k : Int) (w : World) (h : RowG KBk w a (mksG (mkBk k) n)) (hl : n ≤ 9000000000) (k0 : 0 < k) (k1 : k ≤ 9000000000) :
    Calls Try.prog 59 #[.slice a n cap, .int .i64 k] w fun e w' => e = .returned (.int .i64 (k + 5 * n)) ∧ Below w.heap.size w w' := by
  have HB := hidP h
  clear h
  go_enter Try.func59, Try.ntmps59
  go_wp2
  go_loopw [1, 5] (fun t1 t5 wr => ∃ i : Nat, i ≤ n ∧ t5 = .int .i64 i ∧ t1 = .int .i64 (k + 5 * i) ∧ Below w.heap.size w wr) (fun _ t5 _ => n - (intOf t5).toNat)
  case atStart => exact ⟨0, Nat.zero_le _, rfl, by simp, Below.refl _ _⟩
  case round =>
    obtain ⟨i, hi, rfl, rfl, hbel⟩ := hrel
    have HBel := hidP hbel
    by_cases hlt : i < n
    · obtain ⟨p, o, q, rfl, hp, hq, c0, c1, c2, c3, c4⟩ := rowBk HB.out i (by rw [mksG_len]; exact hlt)
      rw [mksG_at (mkBk k) n i hlt] at hq
      cases hq
      have e1 : (mkBk k i).p.H.toInt = k + 5 * (i : Int) + 1 := toI64 _ (by omega) (by omega)
      have e2 : (mkBk k i).p.L.toInt = k + 5 * (i : Int) + 1 + 1 := toI64 _ (by omega) (by omega)
      have d0 : wr.cell? ⟨p, o + i * 5, none⟩ = some (.bool ((k + 5 * (i : Int)) % 3 == 0)) := (hbel.cell hp).trans c0
      have d1 : wr.cell? ⟨p, o + i * 5 + 1, none⟩ = some (.int .i64 (k + 5 * (i : Int) + 1)) := by rw [← e1]; exact (hbel.cell hp).trans c1
      have d2 : wr.cell? ⟨p, o + i * 5 + 2, none⟩ = some (.int .i64 (k + 5 * (i : Int) + 1 + 1)) := by rw [← e2]; exact (hbel.cell hp).trans c2
      have d3 : wr.cell? ⟨p, o + i * 5 + 3, none⟩ = some (.int .i64 (k + 5 * (i : Int) + 1 + 1 + 1)) := (hbel.cell hp).trans c3
      have d4 : wr.cell? ⟨p, o + i * 5 + 4, none⟩ = some (.string (mtT (k + 5 * (i : Int) + 1 + 1 + 1 + 1).toNat)) := (hbel.cell hp).trans c4
      have dL : p < wr.heap.size := Nat.lt_of_lt_of_le hp hbel.size
      clear e1 e2 c0 c1 c2 c3 c4 hbel
      have HM := hidP (markText_int (k + 5 * (i : Int) + 1 + 1 + 1 + 1) (by omega) (by omega))
      go_wp2_with fail
      have HSx : Hid (∀ x, Below wr.heap.size wr x → (x.cell? ⟨p, o + i * 5 + 4, none⟩ = some (.string (mtT (k + 5 * (i : Int) + 1 + 1 + 1 + 1).toNat)) ∧ Below wr.heap.size wr x)) := hidP fun x h =>
        ⟨(h.cell dL).trans d4, h⟩
      refine wp_region_held_drew (S := (fun x => x.cell? ⟨p, o + i * 5 + 4, none⟩ = some (.string (mtT (k + 5 * (i : Int) + 1 + 1 + 1 + 1).toNat)) ∧ Below wr.heap.size wr x)) (by kernel_rfl) ?_ (fun hHeld => ?_)
      · try dsimp only
        exact HSx.out _ (Below.refl _ _).drew
      refine wpAnyH_take (i := 0) (oi := ⟨some 57, _, _, _, _, _⟩) (v := ?_) rfl (by kernel_rfl) (by kernel_rfl) (by kernel_rfl) (fun _ _ _ h => h) (Or.inl ⟨by rfl, ?_⟩) (by assumption) ?_
      rotate_left
      · intro w hSw
        try dsimp only at hSw
        go_simp
        try with_reducible rfl
      simp only [Act.put, List.setIfInBounds_toArray, List.set_cons_zero, List.set_cons_succ]
      refine wpAnyH_take (i := 1) (oi := ⟨some 58, _, _, _, _, _⟩) (v := ?_) rfl (by kernel_rfl) (by kernel_rfl) (by kernel_rfl) (fun _ _ _ h => h) (Or.inl ⟨by rfl, ?_⟩) (by assumption) ?_
      rotate_left
      · intro w hSw
        try dsimp only at hSw
        go_simp
        try with_reducible rfl
      simp only [Act.put, List.setIfInBounds_toArray, List.set_cons_zero, List.set_cons_succ]
      refine wpAnyH_take (i := 2) (oi := ⟨some 59, _, _, _, _, _⟩) (v := ?_) rfl (by kernel_rfl) (by kernel_rfl) (by kernel_rfl) (fun _ _ _ h => h) (Or.inl ⟨by rfl, ?_⟩) (by assumption) ?_
      rotate_left
      · intro w hSw
        try dsimp only at hSw
        go_simp
        try with_reducible rfl
      simp only [Act.put, List.setIfInBounds_toArray, List.set_cons_zero, List.set_cons_succ]
      refine wpAnyH_take (i := 3) (oi := ⟨some 60, _, _, _, _, _⟩) (v := ?_) rfl (by kernel_rfl) (by kernel_rfl) (by kernel_rfl) (fun _ _ _ h => h) (Or.inl ⟨by rfl, ?_⟩) (by assumption) ?_
      rotate_left
      · intro w hSw
        try dsimp only at hSw
        go_simp
        try with_reducible rfl
      simp only [Act.put, List.setIfInBounds_toArray, List.set_cons_zero, List.set_cons_succ]
      refine wpAnyH_take (i := 4) (oi := ⟨some 61, _, _, _, _, _⟩) (v := ?_) rfl (by kernel_rfl) (by kernel_rfl) (by kernel_rfl) (fun _ _ _ h => h) (Or.inl ⟨by rfl, ?_⟩) (by assumption) ?_
      rotate_left
      · intro w hSw
        try dsimp only at hSw
        go_simp
        try with_reducible rfl
      simp only [Act.put, List.setIfInBounds_toArray, List.set_cons_zero, List.set_cons_succ]
      refine wpAnyH_take (i := 5) (oi := ⟨some 62, _, _, _, _, _⟩) (v := ?_) rfl (by kernel_rfl) (by kernel_rfl) (by kernel_rfl) (fun _ _ _ h => h) (Or.inl ⟨by rfl, ?_⟩) (by assumption) ?_
      rotate_left
      · intro w hSw
        try dsimp only at hSw
        go_simp
        try with_reducible rfl
      simp only [Act.put, List.setIfInBounds_toArray, List.set_cons_zero, List.set_cons_succ]
      refine wpAnyH_ready (rs := [6]) (by kernel_rfl) (by simp) ?_
      refine AllReadyH.cons rfl (fun K hK => ?_) AllReadyH.nil
      go_simp
      go_wp2_with (first | (go_at_call 87; refine (HM.out _).mono ?_; rintro e w2 ⟨rfl, hb2⟩; have b2 := (hHeld.2).trans (hb2.mono (hHeld.2).size)))
      refine hK.out _ _ ?_ (fun hHeld => ?_)
      · try dsimp only
        exact HSx.out _ b2
      clear hK K
      refine wpAnyH_take (i := 7) (oi := ⟨some 64, _, _, _, _, _⟩) (v := ?_) rfl (by kernel_rfl) (by kernel_rfl) (by kernel_rfl) (fun _ _ _ h => h) (Or.inl ⟨by rfl, ?_⟩) (by assumption) ?_
      rotate_left
      · intro w hSw
        try dsimp only at hSw
        go_simp
        try with_reducible rfl
      simp only [Act.put, List.setIfInBounds_toArray, List.set_cons_zero, List.set_cons_succ]
      have HE := hidP (hHeld.2)
      refine wpAnyH_done (by kernel_rfl) ?_ _
      clear hHeld
      go_wp2_with fail
      go_roundw
      case rel => exact ⟨i + 1, by omega, by go_num, by go_num, HBel.out.trans (HE.out.mono HBel.out.size)⟩
      case measure => simp [intOf]; omega
    · have hin : i = n := by omega
      subst hin
      clear hbel
      go_wp2
      go_ret
      exact ⟨rfl, HBel.out⟩

end Go.Proofs.Ythbpehpnikknlaa

namespace Go.Proofs.Ythbpehpnikknlaa
open Go.RowKit

/-- The prefixes of the blocks that lie in p. -/
def fil (bs : List Bk) (p : Pf) : List Pf := (bs.filter fun b => winP b.p p).map (·.p)
theorem fil_snoc (bs : List Bk) (p : Pf) (k : Nat) (q : Bk) (h : bs[k]? = some q) : fil (bs.take (k + 1)) p = fil (bs.take k) p ++ (if winP q.p p = true then [q.p] else []) := by
  unfold fil
  rw [List.take_add_one, h, List.filter_append, List.map_append]
  congr 1
  simp only [Option.toList_some]
  cases hw : winP q.p p <;> simp [hw]
theorem fil_len (bs : List Bk) (p : Pf) (k : Nat) : (fil (bs.take k) p).length ≤ k := by
  unfold fil
  rw [List.length_map]
  have := List.length_filter_le (fun b => winP b.p p) (bs.take k)
  rw [List.length_take] at this; omega

set_option maxRecDepth 10000 in
set_option maxHeartbeats 2000000 in
theorem blocksIn_any (pt : Pf) (ap : Option Addr) (np cp : Nat) (ab : Option Addr) (nb cb : Nat) (bs : List Bk) (w : World) (hnb : nb = bs.length) (hK : RowG KBk w ab bs) (hl : nb ≤ 1048576) :
    Calls Try.prog 64 #[.agg #[.slice ap np cp, .slice ab nb cb], .agg #[.bool pt.s, .int .i64 pt.H.toInt, .int .i64 pt.L.toInt, .int .i64 pt.b]] w fun e w' => ∃ a c, e = .returned (.slice a (fil bs pt).length c) ∧ OwnR 46 w' w.heap.size (.slice a (fil bs pt).length c) (fil bs pt) ∧ Below w.heap.size w w' := by
  have HBK := hidP hK
  have HN := hidP hnb
  clear hK hnb
  go_enter Try.func64, Try.ntmps64
  go_wp2_with fail
  obtain ⟨u0, u1⟩ := box2 (u := .slice ap np cp) (v := .slice ab nb cb) w 32
  have uB := alloc_below w (.cells #[.slice ap np cp, .slice ab nb cb] 32)
  have uL := alloc_lt w (.cells #[.slice ap np cp, .slice ab nb cb] 32)
  have uS : (w.alloc (.cells #[.slice ap np cp, .slice ab nb cb] 32)).heap.size = w.heap.size + 1 := by simp
  generalize w.alloc (.cells #[.slice ap np cp, .slice ab nb cb] 32) = W1 at *
  obtain ⟨y0, y1, y2, y3⟩ := box4 (p := pt) W1 46
  have yB := alloc_below W1 (.cells #[.bool pt.s, .int .i64 pt.H.toInt, .int .i64 pt.L.toInt, .int .i64 pt.b] 46)
  have yL := alloc_lt W1 (.cells #[.bool pt.s, .int .i64 pt.H.toInt, .int .i64 pt.L.toInt, .int .i64 pt.b] 46)
  have yS : (W1.alloc (.cells #[.bool pt.s, .int .i64 pt.H.toInt, .int .i64 pt.L.toInt, .int .i64 pt.b] 46)).heap.size = W1.heap.size + 1 := by simp
  generalize W1.alloc (.cells #[.bool pt.s, .int .i64 pt.H.toInt, .int .i64 pt.L.toInt, .int .i64 pt.b] 46) = W2 at *
  rw [uS] at y0 y1 y2 y3 yL yS
  have s1 := (yB.cell uL).trans u1
  have sL : w.heap.size < W2.heap.size := by omega
  have HUB := hidP (uB.trans (yB.mono uB.size))
  have HK2 := hidP (HBK.out.later HUB.out)
  have hs2 : w.heap.size + 1 + 1 = W2.heap.size := by omega
  clear uB yB uS yS u0 u1 HBK uL
  clear hs2
  go_loopw [5, 7, 11] (fun t5 _ t11 wr => ∃ (k m : Nat) (ad : Option Addr) (c : Nat), k ≤ nb ∧ t11 = .int .i64 k ∧ t5 = .slice ad m c ∧ m = (fil (bs.take k) pt).length ∧ OwnR 46 wr W2.heap.size (.slice ad m c) (fil (bs.take k) pt) ∧ Below W2.heap.size W2 wr) (fun _ _ t11 _ => nb - (intOf t11).toNat)
  case atStart => exact ⟨0, 0, none, 0, Nat.zero_le _, rfl, rfl, rfl, own_none _ _ _, Below.refl _ _⟩
  case round =>
    obtain ⟨k, m, ad, c, hk, rfl, rfl, hm, hown, hbel⟩ := hrel
    have HM := hidP hm
    have HO := hidP hown
    have HBel := hidP hbel
    have hmk : m ≤ k := by rw [hm]; exact fil_len bs pt k
    by_cases hlt : k < nb
    · obtain ⟨p, o, q, rfl, hp, hq, c0, c1, c2, c3, c4⟩ := rowBk HK2.out k (by rw [← HN.out]; exact hlt)
      have d0 := (hbel.cell hp).trans c0
      have d1 := (hbel.cell hp).trans c1
      have d2 := (hbel.cell hp).trans c2
      have d3 := (hbel.cell hp).trans c3
      have d4 := (hbel.cell hp).trans c4
      have r0 := (hbel.cell yL).trans y0
      have r1 := (hbel.cell yL).trans y1
      have r2 := (hbel.cell yL).trans y2
      have r3 := (hbel.cell yL).trans y3
      have rL : w.heap.size + 1 < wr.heap.size := Nat.lt_of_lt_of_le yL hbel.size
      have hWr : W2.heap.size ≤ wr.heap.size := hbel.size
      have HSn := hidP (fil_snoc bs pt k q hq)
      have HWi := hidP (iWithin_any q.p.s q.p.H q.p.L q.p.b pt.s pt.H pt.L pt.b)
      change Hid (∀ w, Calls Try.prog 89 _ w fun e w' => e = .returned (.bool (winP q.p pt)) ∧ Below w.heap.size w w') at HWi
      clear c0 c1 c2 c3 c4 hq hbel hown hm
      cases hw : winP q.p pt
      · rw [hw] at HWi HSn
        go_wp2_with fail
        obtain ⟨x0, x1, x2, x3, x4⟩ := boxBk (q := q) wr 56
        have xB := alloc_below wr (.cells #[.bool q.p.s, .int .i64 q.p.H.toInt, .int .i64 q.p.L.toInt, .int .i64 q.p.b, .string q.t] 56)
        have xL := alloc_lt wr (.cells #[.bool q.p.s, .int .i64 q.p.H.toInt, .int .i64 q.p.L.toInt, .int .i64 q.p.b, .string q.t] 56)
        have xS : (wr.alloc (.cells #[.bool q.p.s, .int .i64 q.p.H.toInt, .int .i64 q.p.L.toInt, .int .i64 q.p.b, .string q.t] 56)).heap.size = wr.heap.size + 1 := by simp
        generalize wr.alloc (.cells #[.bool q.p.s, .int .i64 q.p.H.toInt, .int .i64 q.p.L.toInt, .int .i64 q.p.b, .string q.t] 56) = W3 at *
        have HX3 := hidP xB
        clear xB xS
        refine (HWi.out _).mono ?_
        rintro e w4 ⟨rfl, hb4⟩
        have e0 := (hb4.cell xL).trans x0
        have e1 := (hb4.cell xL).trans x1
        have e2 := (hb4.cell xL).trans x2
        have e3 := (hb4.cell xL).trans x3
        have e4 := (hb4.cell xL).trans x4
        have hr4 : Below wr.heap.size wr w4 := HX3.out.trans (hb4.mono HX3.out.size)
        have HB4 := hidP (HBel.out.trans (hr4.mono HBel.out.size))
        have HO4 := hidP (HO.out.later hr4)
        have hW4 : W2.heap.size ≤ w4.heap.size := Nat.le_trans hWr hr4.size
        clear hb4 hr4 x0 x1 x2 x3 x4 d0 d1 d2 d3 d4
        go_wp2_with fail
        go_roundw
        case rel => exact ⟨k + 1, m, ad, c, by omega, by go_num, rfl, by rw [HSn.out]; simpa using HM.out, by rw [HSn.out]; simpa using HO4.out, HB4.out⟩
        case measure => simp [intOf]; omega
      · rw [hw] at HWi HSn
        rw [if_pos rfl] at HSn
        go_wp2_with fail
        obtain ⟨x0, x1, x2, x3, x4⟩ := boxBk (q := q) wr 56
        have xB := alloc_below wr (.cells #[.bool q.p.s, .int .i64 q.p.H.toInt, .int .i64 q.p.L.toInt, .int .i64 q.p.b, .string q.t] 56)
        have xL := alloc_lt wr (.cells #[.bool q.p.s, .int .i64 q.p.H.toInt, .int .i64 q.p.L.toInt, .int .i64 q.p.b, .string q.t] 56)
        have xS : (wr.alloc (.cells #[.bool q.p.s, .int .i64 q.p.H.toInt, .int .i64 q.p.L.toInt, .int .i64 q.p.b, .string q.t] 56)).heap.size = wr.heap.size + 1 := by simp
        generalize wr.alloc (.cells #[.bool q.p.s, .int .i64 q.p.H.toInt, .int .i64 q.p.L.toInt, .int .i64 q.p.b, .string q.t] 56) = W3 at *
        have HX3 := hidP xB
        clear xB xS
        refine (HWi.out _).mono ?_
        rintro e w4 ⟨rfl, hb4⟩
        have e0 := (hb4.cell xL).trans x0
        have e1 := (hb4.cell xL).trans x1
        have e2 := (hb4.cell xL).trans x2
        have e3 := (hb4.cell xL).trans x3
        have e4 := (hb4.cell xL).trans x4
        have hr4 : Below wr.heap.size wr w4 := HX3.out.trans (hb4.mono HX3.out.size)
        have HB4 := hidP (HBel.out.trans (hr4.mono HBel.out.size))
        have HO4 := hidP (HO.out.later hr4)
        have hW4 : W2.heap.size ≤ w4.heap.size := Nat.le_trans hWr hr4.size
        clear hb4 hr4 x0 x1 x2 x3 x4 d0 d1 d2 d3 d4
        go_wp2_with (at_builtin; refine wpList_appR Try.fourP _ rfl (.tmp 19) (.tmp 22) 86 rfl W2.heap.size ad m c 1 (fil (bs.take k) pt) [q.p] (.slice (some ⟨w4.heap.size, 0, none⟩) 1 1) rfl HM.out rfl (HO4.out.alloc _) rfl (src_row Try.fourP 1 1 rfl (row_one w4 46 q.p) (by simp)) (by omega) (by simp; omega) ?_; intro a6 c6 w5 ho5 hg5 ht5)
        go_roundw
        case rel => exact ⟨k + 1, m + 1, a6, c6, by omega, by go_num, rfl, by rw [HSn.out, List.length_append, ← HM.out]; rfl, by rw [HSn.out]; exact ho5, below_appR (HB4.out.alloc hW4 _) (HO4.out.alloc _) (by simp; omega) hg5⟩
        case measure => simp [intOf]; omega
    · have eT : bs.take k = bs := List.take_of_length_le (by have := HN.out; omega)
      rw [eT] at HM HO
      clear eT hown hm hbel
      have HF := hidP (And.intro HM.out (And.intro (HO.out.mono HUB.out.size) (HUB.out.trans (HBel.out.mono HUB.out.size))))
      go_wp2_with fail
      go_ret
      refine ⟨ad, c, ?_, ?_, HF.out.2.2⟩
      · rw [← HF.out.1]; rfl
      · rw [← HF.out.1]; exact HF.out.2.1

set_option maxRecDepth 10000 in
set_option maxHeartbeats 2000000 in
theorem l5Blocks_any (pt : Pf) (ap : Option Addr) (np cp : Nat) (ab : Option Addr) (nb cb : Nat) (bs : List Bk) (w : World) (hnb : nb = bs.length) (hK : RowG KBk w ab bs) (hl : nb ≤ 1048576) :
    Calls Try.prog 61 #[.agg #[.slice ap np cp, .slice ab nb cb], .agg #[.bool pt.s, .int .i64 pt.H.toInt, .int .i64 pt.L.toInt, .int .i64 pt.b]] w fun e w' => ∃ a c, e = .returned (.slice a (fil bs pt).length c) ∧ OwnR 46 w' w.heap.size (.slice a (fil bs pt).length c) (fil bs pt) ∧ Below w.heap.size w w' := by
  have HBK := hidP hK
  have HN := hidP hnb
  clear hK hnb
  go_enter Try.func61, Try.ntmps61
  go_wp2_with fail
  obtain ⟨u0, u1⟩ := box2 (u := .slice ap np cp) (v := .slice ab nb cb) w 32
  have uB := alloc_below w (.cells #[.slice ap np cp, .slice ab nb cb] 32)
  have uL := alloc_lt w (.cells #[.slice ap np cp, .slice ab nb cb] 32)
  have uS : (w.alloc (.cells #[.slice ap np cp, .slice ab nb cb] 32)).heap.size = w.heap.size + 1 := by simp
  generalize w.alloc (.cells #[.slice ap np cp, .slice ab nb cb] 32) = W1 at *
  obtain ⟨y0, y1, y2, y3⟩ := box4 (p := pt) W1 46
  have yB := alloc_below W1 (.cells #[.bool pt.s, .int .i64 pt.H.toInt, .int .i64 pt.L.toInt, .int .i64 pt.b] 46)
  have yL := alloc_lt W1 (.cells #[.bool pt.s, .int .i64 pt.H.toInt, .int .i64 pt.L.toInt, .int .i64 pt.b] 46)
  have yS : (W1.alloc (.cells #[.bool pt.s, .int .i64 pt.H.toInt, .int .i64 pt.L.toInt, .int .i64 pt.b] 46)).heap.size = W1.heap.size + 1 := by simp
  generalize W1.alloc (.cells #[.bool pt.s, .int .i64 pt.H.toInt, .int .i64 pt.L.toInt, .int .i64 pt.b] 46) = W2 at *
  rw [uS] at y0 y1 y2 y3 yL yS
  have s1 := (yB.cell uL).trans u1
  have sL : w.heap.size < W2.heap.size := by omega
  have HUB := hidP (uB.trans (yB.mono uB.size))
  have HK2 := hidP (HBK.out.later HUB.out)
  have hs2 : w.heap.size + 1 + 1 = W2.heap.size := by omega
  clear uB yB uS yS u0 u1 HBK uL
  have HZ : Hid (OwnR 46 (W2.alloc (.cells #[] 46)) W2.heap.size (.slice (some ⟨w.heap.size + 1 + 1, 0, none⟩) 0 0) []) := hidP (by rw [hs2]; exact own_zero W2 W2.heap.size 46 (Nat.le_refl _))
  have HZB := hidP (alloc_below W2 (.cells #[] 46))
  clear hs2
  go_loopw [5, 6] (fun t5 t6 wr => ∃ (k m : Nat) (ad : Option Addr) (c : Nat), k ≤ nb ∧ t6 = .int .i64 k ∧ t5 = .slice ad m c ∧ m = (fil (bs.take k) pt).length ∧ OwnR 46 wr W2.heap.size (.slice ad m c) (fil (bs.take k) pt) ∧ Below W2.heap.size W2 wr) (fun _ t6 _ => nb - (intOf t6).toNat)
  case atStart => exact ⟨0, 0, _, 0, Nat.zero_le _, rfl, rfl, rfl, HZ.out, HZB.out⟩
  case round =>
    obtain ⟨k, m, ad, c, hk, rfl, rfl, hm, hown, hbel⟩ := hrel
    have HM := hidP hm
    have HO := hidP hown
    have HBel := hidP hbel
    have hmk : m ≤ k := by rw [hm]; exact fil_len bs pt k
    have v1 := (hbel.cell sL).trans s1
    have vL : w.heap.size < wr.heap.size := Nat.lt_of_lt_of_le sL hbel.size
    by_cases hlt : k < nb
    · obtain ⟨p, o, q, rfl, hp, hq, c0, c1, c2, c3, c4⟩ := rowBk HK2.out k (by rw [← HN.out]; exact hlt)
      have d0 := (hbel.cell hp).trans c0
      have d1 := (hbel.cell hp).trans c1
      have d2 := (hbel.cell hp).trans c2
      have d3 := (hbel.cell hp).trans c3
      have dL : p < wr.heap.size := Nat.lt_of_lt_of_le hp hbel.size
      have r0 := (hbel.cell yL).trans y0
      have r1 := (hbel.cell yL).trans y1
      have r2 := (hbel.cell yL).trans y2
      have r3 := (hbel.cell yL).trans y3
      have rL : w.heap.size + 1 < wr.heap.size := Nat.lt_of_lt_of_le yL hbel.size
      have hWr : W2.heap.size ≤ wr.heap.size := hbel.size
      have HSn := hidP (fil_snoc bs pt k q hq)
      have HWi := hidP (sWithin_any q.p.s q.p.H q.p.L q.p.b pt.s pt.H pt.L pt.b)
      change Hid (∀ w, Calls Try.prog 72 _ w fun e w' => e = .returned (.bool (winP q.p pt)) ∧ Below w.heap.size w w') at HWi
      clear c0 c1 c2 c3 c4 hq hbel hown hm
      cases hw : winP q.p pt
      · rw [hw] at HWi HSn
        go_wp2_with fail
        have HSx : Hid (∀ x, Below wr.heap.size wr x → (x.cell? ⟨p, o + k * 5, none⟩ = some (.bool q.p.s) ∧ x.cell? ⟨p, o + k * 5 + 1, none⟩ = some (.int .i64 q.p.H.toInt) ∧ x.cell? ⟨p, o + k * 5 + 2, none⟩ = some (.int .i64 q.p.L.toInt) ∧ x.cell? ⟨p, o + k * 5 + 3, none⟩ = some (.int .i64 q.p.b) ∧ x.cell? ⟨w.heap.size, 1, none⟩ = some (.slice (some ⟨p, o, none⟩) nb cb) ∧ x.cell? ⟨w.heap.size + 1, 0, none⟩ = some (.bool pt.s) ∧ x.cell? ⟨w.heap.size + 1, 1, none⟩ = some (.int .i64 pt.H.toInt) ∧ x.cell? ⟨w.heap.size + 1, 2, none⟩ = some (.int .i64 pt.L.toInt) ∧ x.cell? ⟨w.heap.size + 1, 3, none⟩ = some (.int .i64 pt.b) ∧ Below wr.heap.size wr x)) := hidP fun x h =>
          ⟨(h.cell dL).trans d0, (h.cell dL).trans d1, (h.cell dL).trans d2, (h.cell dL).trans d3, (h.cell vL).trans v1, (h.cell rL).trans r0, (h.cell rL).trans r1, (h.cell rL).trans r2, (h.cell rL).trans r3, h⟩
        refine wp_region_held_drew (S := (fun x => x.cell? ⟨p, o + k * 5, none⟩ = some (.bool q.p.s) ∧ x.cell? ⟨p, o + k * 5 + 1, none⟩ = some (.int .i64 q.p.H.toInt) ∧ x.cell? ⟨p, o + k * 5 + 2, none⟩ = some (.int .i64 q.p.L.toInt) ∧ x.cell? ⟨p, o + k * 5 + 3, none⟩ = some (.int .i64 q.p.b) ∧ x.cell? ⟨w.heap.size, 1, none⟩ = some (.slice (some ⟨p, o, none⟩) nb cb) ∧ x.cell? ⟨w.heap.size + 1, 0, none⟩ = some (.bool pt.s) ∧ x.cell? ⟨w.heap.size + 1, 1, none⟩ = some (.int .i64 pt.H.toInt) ∧ x.cell? ⟨w.heap.size + 1, 2, none⟩ = some (.int .i64 pt.L.toInt) ∧ x.cell? ⟨w.heap.size + 1, 3, none⟩ = some (.int .i64 pt.b) ∧ Below wr.heap.size wr x)) (by kernel_rfl) ?_ (fun hHeld => ?_)
        · try dsimp only
          exact HSx.out _ ((Below.refl _ _).drew)
        refine wpAnyH_take (i := 0) (oi := ⟨some 15, _, _, _, _, _⟩) (v := ?_) rfl (by kernel_rfl) (by kernel_rfl) (by kernel_rfl) (fun _ _ _ h => h) (Or.inl ⟨by rfl, ?_⟩) (by assumption) ?_
        rotate_left
        · intro w hSw
          try dsimp only at hSw
          go_simp
          try with_reducible rfl
        simp only [Act.put, List.setIfInBounds_toArray, List.set_cons_zero, List.set_cons_succ]
        refine wpAnyH_take (i := 1) (oi := ⟨some 16, _, _, _, _, _⟩) (v := ?_) rfl (by kernel_rfl) (by kernel_rfl) (by kernel_rfl) (fun _ _ _ h => h) (Or.inl ⟨by rfl, ?_⟩) (by assumption) ?_
        rotate_left
        · intro w hSw
          try dsimp only at hSw
          go_simp
          try with_reducible rfl
        simp only [Act.put, List.setIfInBounds_toArray, List.set_cons_zero, List.set_cons_succ]
        refine wpAnyH_take (i := 2) (oi := ⟨some 17, _, _, _, _, _⟩) (v := ?_) rfl (by kernel_rfl) (by kernel_rfl) (by kernel_rfl) (fun _ _ _ h => h) (Or.inl ⟨by rfl, ?_⟩) (by assumption) ?_
        rotate_left
        · intro w hSw
          try dsimp only at hSw
          go_simp
          try with_reducible rfl
        simp only [Act.put, List.setIfInBounds_toArray, List.set_cons_zero, List.set_cons_succ]
        refine wpAnyH_take (i := 3) (oi := ⟨some 18, _, _, _, _, _⟩) (v := ?_) rfl (by kernel_rfl) (by kernel_rfl) (by kernel_rfl) (fun _ _ _ h => h) (Or.inl ⟨by rfl, ?_⟩) (by assumption) ?_
        rotate_left
        · intro w hSw
          try dsimp only at hSw
          go_simp
          try with_reducible rfl
        simp only [Act.put, List.setIfInBounds_toArray, List.set_cons_zero, List.set_cons_succ]
        refine wpAnyH_take (i := 4) (oi := ⟨some 19, _, _, _, _, _⟩) (v := ?_) rfl (by kernel_rfl) (by kernel_rfl) (by kernel_rfl) (fun _ _ _ h => h) (Or.inl ⟨by rfl, ?_⟩) (by assumption) ?_
        rotate_left
        · intro w hSw
          try dsimp only at hSw
          go_simp
          try with_reducible rfl
        simp only [Act.put, List.setIfInBounds_toArray, List.set_cons_zero, List.set_cons_succ]
        refine wpAnyH_take (i := 5) (oi := ⟨some 20, _, _, _, _, _⟩) (v := ?_) rfl (by kernel_rfl) (by kernel_rfl) (by kernel_rfl) (fun _ _ _ h => h) (Or.inl ⟨by rfl, ?_⟩) (by assumption) ?_
        rotate_left
        · intro w hSw
          try dsimp only at hSw
          go_simp
          try with_reducible rfl
        simp only [Act.put, List.setIfInBounds_toArray, List.set_cons_zero, List.set_cons_succ]
        refine wpAnyH_take (i := 6) (oi := ⟨some 21, _, _, _, _, _⟩) (v := ?_) rfl (by kernel_rfl) (by kernel_rfl) (by kernel_rfl) (fun _ _ _ h => h) (Or.inl ⟨by rfl, ?_⟩) (by assumption) ?_
        rotate_left
        · intro w hSw
          try dsimp only at hSw
          go_simp
          try with_reducible rfl
        simp only [Act.put, List.setIfInBounds_toArray, List.set_cons_zero, List.set_cons_succ]
        refine wpAnyH_ready (rs := [7]) (by kernel_rfl) (by simp) ?_
        refine AllReadyH.cons rfl (fun K hK => ?_) AllReadyH.nil
        go_simp
        go_wp2_with (first | (go_at_call 72; refine (HWi.out _).mono ?_; rintro e w4 ⟨rfl, hb4⟩; have b4 := (hHeld.2.2.2.2.2.2.2.2.2).trans (hb4.mono (hHeld.2.2.2.2.2.2.2.2.2).size)))
        refine hK.out _ _ ?_ (fun hHeld => ?_)
        · try dsimp only
          exact HSx.out _ b4
        clear hK K
        have HE := hidP (hHeld.2.2.2.2.2.2.2.2.2)
        refine wpAnyH_done (by kernel_rfl) ?_ _
        clear hHeld
        have HB4 := hidP (HBel.out.trans (HE.out.mono HBel.out.size))
        have HO4 := hidP (HO.out.later HE.out)
        have hW4 : W2.heap.size ≤ w4.heap.size := Nat.le_trans hWr HE.out.size
        go_wp2_with fail
        go_roundw
        case rel => exact ⟨k + 1, m, ad, c, by omega, by go_num, rfl, by rw [HSn.out]; simpa using HM.out, by rw [HSn.out]; simpa using HO4.out, HB4.out⟩
        case measure => simp [intOf]; omega
      · rw [hw] at HWi HSn
        rw [if_pos rfl] at HSn
        go_wp2_with fail
        have HSx : Hid (∀ x, Below wr.heap.size wr x → (x.cell? ⟨p, o + k * 5, none⟩ = some (.bool q.p.s) ∧ x.cell? ⟨p, o + k * 5 + 1, none⟩ = some (.int .i64 q.p.H.toInt) ∧ x.cell? ⟨p, o + k * 5 + 2, none⟩ = some (.int .i64 q.p.L.toInt) ∧ x.cell? ⟨p, o + k * 5 + 3, none⟩ = some (.int .i64 q.p.b) ∧ x.cell? ⟨w.heap.size, 1, none⟩ = some (.slice (some ⟨p, o, none⟩) nb cb) ∧ x.cell? ⟨w.heap.size + 1, 0, none⟩ = some (.bool pt.s) ∧ x.cell? ⟨w.heap.size + 1, 1, none⟩ = some (.int .i64 pt.H.toInt) ∧ x.cell? ⟨w.heap.size + 1, 2, none⟩ = some (.int .i64 pt.L.toInt) ∧ x.cell? ⟨w.heap.size + 1, 3, none⟩ = some (.int .i64 pt.b) ∧ Below wr.heap.size wr x)) := hidP fun x h =>
          ⟨(h.cell dL).trans d0, (h.cell dL).trans d1, (h.cell dL).trans d2, (h.cell dL).trans d3, (h.cell vL).trans v1, (h.cell rL).trans r0, (h.cell rL).trans r1, (h.cell rL).trans r2, (h.cell rL).trans r3, h⟩
        refine wp_region_held_drew (S := (fun x => x.cell? ⟨p, o + k * 5, none⟩ = some (.bool q.p.s) ∧ x.cell? ⟨p, o + k * 5 + 1, none⟩ = some (.int .i64 q.p.H.toInt) ∧ x.cell? ⟨p, o + k * 5 + 2, none⟩ = some (.int .i64 q.p.L.toInt) ∧ x.cell? ⟨p, o + k * 5 + 3, none⟩ = some (.int .i64 q.p.b) ∧ x.cell? ⟨w.heap.size, 1, none⟩ = some (.slice (some ⟨p, o, none⟩) nb cb) ∧ x.cell? ⟨w.heap.size + 1, 0, none⟩ = some (.bool pt.s) ∧ x.cell? ⟨w.heap.size + 1, 1, none⟩ = some (.int .i64 pt.H.toInt) ∧ x.cell? ⟨w.heap.size + 1, 2, none⟩ = some (.int .i64 pt.L.toInt) ∧ x.cell? ⟨w.heap.size + 1, 3, none⟩ = some (.int .i64 pt.b) ∧ Below wr.heap.size wr x)) (by kernel_rfl) ?_ (fun hHeld => ?_)
        · try dsimp only
          exact HSx.out _ ((Below.refl _ _).drew)
        refine wpAnyH_take (i := 0) (oi := ⟨some 15, _, _, _, _, _⟩) (v := ?_) rfl (by kernel_rfl) (by kernel_rfl) (by kernel_rfl) (fun _ _ _ h => h) (Or.inl ⟨by rfl, ?_⟩) (by assumption) ?_
        rotate_left
        · intro w hSw
          try dsimp only at hSw
          go_simp
          try with_reducible rfl
        simp only [Act.put, List.setIfInBounds_toArray, List.set_cons_zero, List.set_cons_succ]
        refine wpAnyH_take (i := 1) (oi := ⟨some 16, _, _, _, _, _⟩) (v := ?_) rfl (by kernel_rfl) (by kernel_rfl) (by kernel_rfl) (fun _ _ _ h => h) (Or.inl ⟨by rfl, ?_⟩) (by assumption) ?_
        rotate_left
        · intro w hSw
          try dsimp only at hSw
          go_simp
          try with_reducible rfl
        simp only [Act.put, List.setIfInBounds_toArray, List.set_cons_zero, List.set_cons_succ]
        refine wpAnyH_take (i := 2) (oi := ⟨some 17, _, _, _, _, _⟩) (v := ?_) rfl (by kernel_rfl) (by kernel_rfl) (by kernel_rfl) (fun _ _ _ h => h) (Or.inl ⟨by rfl, ?_⟩) (by assumption) ?_
        rotate_left
        · intro w hSw
          try dsimp only at hSw
          go_simp
          try with_reducible rfl
        simp only [Act.put, List.setIfInBounds_toArray, List.set_cons_zero, List.set_cons_succ]
        refine wpAnyH_take (i := 3) (oi := ⟨some 18, _, _, _, _, _⟩) (v := ?_) rfl (by kernel_rfl) (by kernel_rfl) (by kernel_rfl) (fun _ _ _ h => h) (Or.inl ⟨by rfl, ?_⟩) (by assumption) ?_
        rotate_left
        · intro w hSw
          try dsimp only at hSw
          go_simp
          try with_reducible rfl
        simp only [Act.put, List.setIfInBounds_toArray, List.set_cons_zero, List.set_cons_succ]
        refine wpAnyH_take (i := 4) (oi := ⟨some 19, _, _, _, _, _⟩) (v := ?_) rfl (by kernel_rfl) (by kernel_rfl) (by kernel_rfl) (fun _ _ _ h => h) (Or.inl ⟨by rfl, ?_⟩) (by assumption) ?_
        rotate_left
        · intro w hSw
          try dsimp only at hSw
          go_simp
          try with_reducible rfl
        simp only [Act.put, List.setIfInBounds_toArray, List.set_cons_zero, List.set_cons_succ]
        refine wpAnyH_take (i := 5) (oi := ⟨some 20, _, _, _, _, _⟩) (v := ?_) rfl (by kernel_rfl) (by kernel_rfl) (by kernel_rfl) (fun _ _ _ h => h) (Or.inl ⟨by rfl, ?_⟩) (by assumption) ?_
        rotate_left
        · intro w hSw
          try dsimp only at hSw
          go_simp
          try with_reducible rfl
        simp only [Act.put, List.setIfInBounds_toArray, List.set_cons_zero, List.set_cons_succ]
        refine wpAnyH_take (i := 6) (oi := ⟨some 21, _, _, _, _, _⟩) (v := ?_) rfl (by kernel_rfl) (by kernel_rfl) (by kernel_rfl) (fun _ _ _ h => h) (Or.inl ⟨by rfl, ?_⟩) (by assumption) ?_
        rotate_left
        · intro w hSw
          try dsimp only at hSw
          go_simp
          try with_reducible rfl
        simp only [Act.put, List.setIfInBounds_toArray, List.set_cons_zero, List.set_cons_succ]
        refine wpAnyH_ready (rs := [7]) (by kernel_rfl) (by simp) ?_
        refine AllReadyH.cons rfl (fun K hK => ?_) AllReadyH.nil
        go_simp
        go_wp2_with (first | (go_at_call 72; refine (HWi.out _).mono ?_; rintro e w4 ⟨rfl, hb4⟩; have b4 := (hHeld.2.2.2.2.2.2.2.2.2).trans (hb4.mono (hHeld.2.2.2.2.2.2.2.2.2).size)))
        refine hK.out _ _ ?_ (fun hHeld => ?_)
        · try dsimp only
          exact HSx.out _ b4
        clear hK K
        have HE := hidP (hHeld.2.2.2.2.2.2.2.2.2)
        refine wpAnyH_done (by kernel_rfl) ?_ _
        clear hHeld
        have HB4 := hidP (HBel.out.trans (HE.out.mono HBel.out.size))
        have HO4 := hidP (HO.out.later HE.out)
        have hW4 : W2.heap.size ≤ w4.heap.size := Nat.le_trans hWr HE.out.size
        have e0 := (HE.out.cell dL).trans d0
        have e1 := (HE.out.cell dL).trans d1
        have e2 := (HE.out.cell dL).trans d2
        have e3 := (HE.out.cell dL).trans d3
        have n1 := (HE.out.cell vL).trans v1
        clear d0 d1 d2 d3 v1
        go_wp2_with (at_builtin; refine wpList_appR Try.fourP _ rfl (.tmp 23) (.tmp 30) 86 rfl W2.heap.size ad m c 1 (fil (bs.take k) pt) [q.p] (.slice (some ⟨w4.heap.size, 0, none⟩) 1 1) rfl HM.out rfl (HO4.out.alloc _) rfl (src_row Try.fourP 1 1 rfl (row_one w4 46 q.p) (by simp)) (by omega) (by simp; omega) ?_; intro a6 c6 w5 ho5 hg5 ht5)
        go_roundw
        case rel => exact ⟨k + 1, m + 1, a6, c6, by omega, by go_num, rfl, by rw [HSn.out, List.length_append, ← HM.out]; rfl, by rw [HSn.out]; exact ho5, below_appR (HB4.out.alloc hW4 _) (HO4.out.alloc _) (by simp; omega) hg5⟩
        case measure => simp [intOf]; omega
    · have eT : bs.take k = bs := List.take_of_length_le (by have := HN.out; omega)
      rw [eT] at HM HO
      clear eT hown hm hbel
      have HF := hidP (And.intro HM.out (And.intro (HO.out.mono HUB.out.size) (HUB.out.trans (HBel.out.mono HUB.out.size))))
      go_wp2_with fail
      go_ret
      refine ⟨ad, c, ?_, ?_, HF.out.2.2⟩
      · rw [← HF.out.1]; rfl
      · rw [← HF.out.1]; exact HF.out.2.1

end Go.Proofs.Ythbpehpnikknlaa

namespace Go.Proofs.Ythbpehpnikknlaa
open Go.RowKit

def KI : Kd Int := ⟨1, fun x => [.int .i64 x], fun _ => rfl, fun x u h => by
  simp at h; subst h; rfl⟩
theorem Try.tyI : GTy KI (.int .i64 0) 8 Try.prog 62 3 := ⟨Try.underlying62, by kernel_rfl, rfl, by omega⟩
theorem rowI {w : World} {a : Option Addr} {ps : List Int} (h : RowG KI w a ps) (j : Nat) (hj : j < ps.length) : ∃ p o q, a = some ⟨p, o, none⟩ ∧ p < w.heap.size ∧ ps[j]? = some q ∧ w.cell? ⟨p, o + j, none⟩ = some (.int .i64 q) := by
  obtain ⟨p, o, q, ha, hp, hq, c⟩ := h j hj
  have := c 0 _ rfl
  rw [show KI.k = 1 from rfl, Nat.mul_one, Nat.add_zero] at this
  exact ⟨p, o, q, ha, hp, hq, this⟩
theorem rowI0 {w : World} {g n cap B : Nat} {t : TypeId} {ps : List Int} (h : OwnG KI t w B (.slice (some ⟨g, 0, none⟩) n cap) ps) (j : Nat) (hj : j < ps.length) : ∃ q, g < w.heap.size ∧ ps[j]? = some q ∧ w.cell? ⟨g, j, none⟩ = some (.int .i64 q) := by
  obtain ⟨p, o, q, ha, hp, hq, c0⟩ := rowI h.row j hj
  simp only [Option.some.injEq, Addr.mk.injEq, and_true] at ha
  obtain ⟨rfl, rfl⟩ := ha
  rw [Nat.zero_add] at c0
  exact ⟨q, hp, hq, c0⟩
theorem putI {t : TypeId} {w : World} {B g n cap : Nat} {ps : List Int} (h : OwnG KI t w B (.slice (some ⟨g, 0, none⟩) n cap) ps) (hn : n = ps.length) (j : Nat) (hj : j < n) (q : Int) :
    OwnG KI t (w.setCell ⟨g, j, none⟩ (.int .i64 q)) B (.slice (some ⟨g, 0, none⟩) n cap) (ps.set j q) := by
  have := h.put hn j hj q
  rw [show j * KI.k = j from Nat.mul_one j] at this
  exact this

set_option maxHeartbeats 1000000 in
theorem eqIntS_same (a b : Option Addr) (n c d : Nat) (ps : List Int) (w : World) (hn : n = ps.length) (ha : RowG KI w a ps) (hb : RowG KI w b ps) (hl : n ≤ 9000000000) :
    Calls Try.prog 30 #[.slice a n c, .slice b n d] w fun e w' => e = .returned (.bool true) ∧ Below w.heap.size w w' := by
  have HA := hidP ha
  have HB := hidP hb
  have HN := hidP hn
  clear ha hb hn
  go_enter Try.func30, Try.ntmps30
  go_wp2
  go_loopw [5] (fun t5 wr => ∃ k : Nat, k ≤ n ∧ t5 = .int .i64 k ∧ Below w.heap.size w wr) (fun t5 _ => n - (intOf t5).toNat)
  case atStart => exact ⟨0, Nat.zero_le _, rfl, Below.refl _ _⟩
  case round =>
    obtain ⟨k, hk, rfl, hbel⟩ := hrel
    have HW := hidP hbel
    by_cases hlt : k < n
    · obtain ⟨p, o, q, rfl, hp, hq, c0⟩ := rowI HA.out k (by rw [← HN.out]; exact hlt)
      obtain ⟨p', o', q', rfl, hp', hq', d0⟩ := rowI HB.out k (by rw [← HN.out]; exact hlt)
      rw [hq] at hq'
      cases hq'
      have z0 := (hbel.cell hp).trans c0
      have y0 := (hbel.cell hp').trans d0
      have zL : p < wr.heap.size := Nat.lt_of_lt_of_le hp hbel.size
      have yL : p' < wr.heap.size := Nat.lt_of_lt_of_le hp' hbel.size
      clear c0 d0 hq hbel
      go_wp2_with fail
      have HSx : Hid (∀ x, Below wr.heap.size wr x → (x.cell? ⟨p, o + k, none⟩ = some (.int .i64 q) ∧ x.cell? ⟨p', o' + k, none⟩ = some (.int .i64 q) ∧ Below wr.heap.size wr x)) := hidP fun x h =>
        ⟨(h.cell zL).trans z0, (h.cell yL).trans y0, h⟩
      refine wp_region_held_drew (S := (fun x => x.cell? ⟨p, o + k, none⟩ = some (.int .i64 q) ∧ x.cell? ⟨p', o' + k, none⟩ = some (.int .i64 q) ∧ Below wr.heap.size wr x)) (by kernel_rfl) ?_ (fun hHeld => ?_)
      · try dsimp only
        exact HSx.out _ (Below.refl _ _).drew
      refine wpAnyH_take (i := 0) (oi := ⟨some 17, _, _, _, _, _⟩) (v := ?_) rfl (by kernel_rfl) (by kernel_rfl) (by kernel_rfl) (fun _ _ _ h => h) (Or.inl ⟨by rfl, ?_⟩) (by assumption) ?_
      rotate_left
      · intro w hSw
        try dsimp only at hSw
        go_simp
        try with_reducible rfl
      simp only [Act.put, List.setIfInBounds_toArray, List.set_cons_zero, List.set_cons_succ]
      refine wpAnyH_take (i := 1) (oi := ⟨some 18, _, _, _, _, _⟩) (v := ?_) rfl (by kernel_rfl) (by kernel_rfl) (by kernel_rfl) (fun _ _ _ h => h) (Or.inl ⟨by rfl, ?_⟩) (by assumption) ?_
      rotate_left
      · intro w hSw
        try dsimp only at hSw
        go_simp
        try with_reducible rfl
      simp only [Act.put, List.setIfInBounds_toArray, List.set_cons_zero, List.set_cons_succ]
      refine wpAnyH_take (i := 2) (oi := ⟨some 19, _, _, _, _, _⟩) (v := ?_) rfl (by kernel_rfl) (by kernel_rfl) (by kernel_rfl) (fun _ _ _ h => h) (Or.inl ⟨by rfl, ?_⟩) (by assumption) ?_
      rotate_left
      · intro w hSw
        try dsimp only at hSw
        go_simp
        try with_reducible rfl
      simp only [Act.put, List.setIfInBounds_toArray, List.set_cons_zero, List.set_cons_succ]
      refine wpAnyH_take (i := 3) (oi := ⟨some 20, _, _, _, _, _⟩) (v := ?_) rfl (by kernel_rfl) (by kernel_rfl) (by kernel_rfl) (fun _ _ _ h => h) (Or.inl ⟨by rfl, ?_⟩) (by assumption) ?_
      rotate_left
      · intro w hSw
        try dsimp only at hSw
        go_simp
        try with_reducible rfl
      simp only [Act.put, List.setIfInBounds_toArray, List.set_cons_zero, List.set_cons_succ]
      refine wpAnyH_take (i := 4) (oi := ⟨some 21, _, _, _, _, _⟩) (v := ?_) rfl (by kernel_rfl) (by kernel_rfl) (by kernel_rfl) (fun _ _ _ h => h) (Or.inl ⟨by rfl, ?_⟩) (by assumption) ?_
      rotate_left
      · intro w hSw
        try dsimp only at hSw
        go_simp
        try with_reducible rfl
      simp only [Act.put, List.setIfInBounds_toArray, List.set_cons_zero, List.set_cons_succ]
      refine wpAnyH_take (i := 5) (oi := ⟨some 22, _, _, _, _, _⟩) (v := ?_) rfl (by kernel_rfl) (by kernel_rfl) (by kernel_rfl) (fun _ _ _ h => h) (Or.inl ⟨by rfl, ?_⟩) (by assumption) ?_
      rotate_left
      · intro w hSw
        try dsimp only at hSw
        go_simp
        try with_reducible rfl
      simp only [Act.put, List.setIfInBounds_toArray, List.set_cons_zero, List.set_cons_succ]
      refine wpAnyH_take (i := 6) (oi := ⟨some 23, _, _, _, _, _⟩) (v := ?_) rfl (by kernel_rfl) (by kernel_rfl) (by kernel_rfl) (fun _ _ _ h => h) (Or.inl ⟨by rfl, ?_⟩) (by assumption) ?_
      rotate_left
      · intro w hSw
        try dsimp only at hSw
        go_simp
        try with_reducible rfl
      simp only [Act.put, List.setIfInBounds_toArray, List.set_cons_zero, List.set_cons_succ]
      refine wpAnyH_take (i := 7) (oi := ⟨some 24, _, _, _, _, _⟩) (v := ?_) rfl (by kernel_rfl) (by kernel_rfl) (by kernel_rfl) (fun _ _ _ h => h) (Or.inl ⟨by rfl, ?_⟩) (by assumption) ?_
      rotate_left
      · intro w hSw
        try dsimp only at hSw
        go_simp
        try with_reducible rfl
      simp only [Act.put, List.setIfInBounds_toArray, List.set_cons_zero, List.set_cons_succ]
      refine wpAnyH_take (i := 8) (oi := ⟨some 25, _, _, _, _, _⟩) (v := ?_) rfl (by kernel_rfl) (by kernel_rfl) (by kernel_rfl) (fun _ _ _ h => h) (Or.inl ⟨by rfl, ?_⟩) (by assumption) ?_
      rotate_left
      · intro w hSw
        try dsimp only at hSw
        go_simp
        try with_reducible rfl
      simp only [Act.put, List.setIfInBounds_toArray, List.set_cons_zero, List.set_cons_succ]
      have HE := hidP (hHeld.2.2)
      refine wpAnyH_done (by kernel_rfl) ?_ _
      clear hHeld
      go_wp2_with fail
      go_roundw
      case rel => exact ⟨k + 1, by omega, by go_num, HW.out.trans (HE.out.mono HW.out.size)⟩
      case measure => simp [intOf]; omega
    · have hkn : k = n := by omega
      subst hkn
      clear hbel
      go_wp2
      go_ret
      exact ⟨rfl, HW.out⟩

def mkI (k : Int) (j : Nat) : Int := k + (j : Int)
set_option maxHeartbeats 1000000 in
theorem markIntS_any (a : Option Addr) (n cap B : Nat) (ps : List Int) (k : Int) (w : World) (hn : n = ps.length) (h : OwnG KI 3 w B (.slice a n cap) ps) (hl : n ≤ 9000000000) (k0 : 0 < k) (k1 : k ≤ 9000000000) :
    Calls Try.prog 31 #[.slice a n cap, .int .i64 k] w fun e w' => e = .returned (.int .i64 (k + n)) ∧ OwnG KI 3 w' B (.slice a n cap) (mksG (mkI k) n) ∧ w.grownBy w' (Value.slice a n cap).ownBlock := by
  have hn' : ps.length = n := hn.symm
  clear hn
  by_cases h0 : n = 0
  · subst h0
    have HO := hidP h
    have HZ : Hid (ps = []) := List.length_eq_zero_iff.1 hn'
    clear h hn'
    go_enter Try.func31, Try.ntmps31
    go_wp2
    refine wp_loop_rounds 1 ?_
    rw [rounds_succ]
    go_wp2
    go_ret
    refine ⟨by simp, ?_, World.grownBy.refl _ _⟩
    have := HO.out; rw [HZ.out] at this; simpa [mksG] using this
  · obtain ⟨g, rfl⟩ : ∃ g, a = some ⟨g, 0, none⟩ := by
      rcases h.2 with ⟨hv, _⟩ | ⟨g, cap', cur, hv, _⟩
      · simp at hv; omega
      · simp at hv; exact ⟨g, hv.1⟩
    have HO : Hid (OwnG KI 3 w B (.slice (some ⟨g, 0, none⟩) n cap) (mksG (mkI k) 0 ++ ps.drop 0)) := by
      refine hidP ?_; simpa [mksG] using h
    have HN : Hid (ps.length = n) := hn'
    clear h hn'
    go_enter Try.func31, Try.ntmps31
    go_wp2
    go_loopw [1, 5] (fun t1 t5 wr => ∃ i : Nat, i ≤ n ∧ t5 = .int .i64 i ∧ t1 = .int .i64 (k + i) ∧ OwnG KI 3 wr B (.slice (some ⟨g, 0, none⟩) n cap) (mksG (mkI k) i ++ ps.drop i) ∧ w.grownBy wr (some g)) (fun _ t5 _ => n - (intOf t5).toNat)
    case atStart => exact ⟨0, Nat.zero_le _, rfl, by simp, HO.out, World.grownBy.refl _ _⟩
    case round =>
      obtain ⟨i, hi, rfl, rfl, hown, hgr⟩ := hrel
      have hlen : n = (mksG (mkI k) i ++ ps.drop i).length := by rw [List.length_append, mksG_len, List.length_drop, HN.out]; omega
      by_cases hlt : i < n
      · have f0 := OwnG.frozen hown i
        have hput' := putI hown hlen i hlt (mkI k i)
        rw [mksG_step (mkI k) n i ps HN.out hlt] at hput'
        unfold mkI at hput'
        obtain ⟨q', hp', _, c0⟩ := rowI0 hown i (by rw [← hlen]; exact hlt)
        have HS := hidP hput'
        have HG := hidP hgr
        clear hown hgr HO hput' hlen
        go_wp2_with fail
        go_roundw
        case rel => exact ⟨i + 1, by omega, by go_num, by go_num, HS.out, HG.out.trans (grown_cell _ g _ _)⟩
        case measure => simp [intOf]; omega
      · have hin : i = n := by omega
        subst hin
        have HS : Hid (OwnG KI 3 wr B (.slice (some ⟨g, 0, none⟩) i cap) (mksG (mkI k) i)) := by
          rw [List.drop_of_length_le (by rw [HN.out]; exact Nat.le_refl _), List.append_nil] at hown
          exact hidP hown
        have HG := hidP hgr
        clear hown hgr HO hlen
        go_wp2
        go_ret
        exact ⟨rfl, HS.out, HG.out⟩

set_option maxHeartbeats 1000000 in
theorem heldIntS_any (a : Option Addr) (cap n : Nat) (k : Int) (w : World) (h : RowG KI w a (mksG (mkI k) n)) (hl : n ≤ 9000000000) (k0 : 0 < k) (k1 : k ≤ 9000000000) :
    Calls Try.prog 32 #[.slice a n cap, .int .i64 k] w fun e w' => e = .returned (.int .i64 (k + n)) ∧ Below w.heap.size w w' := by
  have HB := hidP h
  clear h
  go_enter Try.func32, Try.ntmps32
  go_wp2
  go_loop [1, 5] (fun t1 t5 => ∃ i : Nat, i ≤ n ∧ t5 = .int .i64 i ∧ t1 = .int .i64 (k + i)) (fun _ t5 => n - (intOf t5).toNat)
  case atStart => exact ⟨0, Nat.zero_le _, rfl, by simp⟩
  case round =>
    obtain ⟨i, hi, rfl, rfl⟩ := hrel
    by_cases hlt : i < n
    · obtain ⟨p, o, q, rfl, hp, hq, c0⟩ := rowI HB.out i (by rw [mksG_len]; exact hlt)
      rw [mksG_at (mkI k) n i hlt] at hq
      cases hq
      have d0 : w.cell? ⟨p, o + i, none⟩ = some (.int .i64 (k + (i : Int))) := c0
      clear c0
      go_wp2
      go_round
      case rel => exact ⟨i + 1, by omega, by go_num, by go_num⟩
      case measure => simp [intOf]; omega
    · have hin : i = n := by omega
      subst hin
      go_wp2
      go_ret
      exact ⟨rfl, Below.refl _ _⟩

end Go.Proofs.Ythbpehpnikknlaa

namespace Go.Proofs.Ythbpehpnikknlaa
open Go.RowKit

def usgL (ps : List Pl) (bs : List Bk) : List Int := ps.map fun q => ((fil bs q.p).length : Int)
def usgR (r : Bool) (ps : List Pl) (bs : List Bk) : List Int := if r = true then usgL ps bs else []
theorem usg_snoc (ps : List Pl) (bs : List Bk) (k : Nat) (q : Pl) (h : ps[k]? = some q) : usgL (ps.take (k + 1)) bs = usgL (ps.take k) bs ++ [((fil bs q.p).length : Int)] := by
  unfold usgL
  rw [List.take_add_one, h, List.map_append]; rfl
theorem usgL_len (ps : List Pl) (bs : List Bk) (k : Nat) (h : k ≤ ps.length) : (usgL (ps.take k) bs).length = k := by unfold usgL; rw [List.length_map, List.length_take]; omega
theorem fil_all (bs : List Bk) (p : Pf) : (fil bs p).length ≤ bs.length := by unfold fil; rw [List.length_map]; exact List.length_filter_le _ _

set_option maxRecDepth 10000 in
set_option maxHeartbeats 4000000 in
theorem iUsage_any (ap : Option Addr) (np cp : Nat) (ab : Option Addr) (nb cb : Nat) (ps : List Pl) (bs : List Bk) (w : World) (hnp : np = ps.length) (hnb : nb = bs.length) (hP : RowG KPl w ap ps) (hK : RowG KBk w ab bs) (hlp : np ≤ 1048576) (hl : nb ≤ 1048576) (hst : ∀ q ∈ bs, q.t.size ≤ 9223372036854775807) :
    Calls Try.prog 29 #[.agg #[.slice ap np cp, .slice ab nb cb]] w fun e w' => ∃ a c, e = .returned (.slice a (usgR (planB ps bs) ps bs).length c) ∧ OwnG KI 3 w' w.heap.size (.slice a (usgR (planB ps bs) ps bs).length c) (usgR (planB ps bs) ps bs) ∧ Below w.heap.size w w' := by
  have HPO := hidP (fun W h => iPlanOk_any ap np cp ab nb cb ps bs W hnp hnb (hP.later h) (hK.later h) (by omega) (by omega) hst)
  have HBI := hidP (fun (pt : Pf) W h => blocksIn_any pt ap np cp ab nb cb bs W hnb (hK.later h) hl)
  have hfl : ∀ p, (fil bs p).length ≤ nb := fun p => by rw [hnb]; exact fil_all bs p
  have HFL := hidP hfl
  have HBP := hidP hP
  have HN := hidP hnp
  clear hP hK hnp hnb hst hfl
  generalize planB ps bs = r at *
  go_enter Try.func29, Try.ntmps29
  go_wp2_with fail
  obtain ⟨u0, u1⟩ := box2 (u := .slice ap np cp) (v := .slice ab nb cb) w 32
  have uB := alloc_below w (.cells #[.slice ap np cp, .slice ab nb cb] 32)
  have uL := alloc_lt w (.cells #[.slice ap np cp, .slice ab nb cb] 32)
  have uS : (w.alloc (.cells #[.slice ap np cp, .slice ab nb cb] 32)).heap.size = w.heap.size + 1 := by simp
  generalize w.alloc (.cells #[.slice ap np cp, .slice ab nb cb] 32) = W1 at *
  have HUB := hidP uB
  have HP1 := hidP (HBP.out.later uB)
  have HZ : Hid (OwnG KI 3 (W1.alloc (.cells #[] 3)) W1.heap.size (.slice (some ⟨w.heap.size + 1, 0, none⟩) 0 0) []) := hidP (by rw [← uS]; exact own_zeroG KI W1 W1.heap.size 3 (Nat.le_refl _))
  have HZB := hidP (alloc_below W1 (.cells #[] 3))
  clear uB uS HBP
  generalize W1.alloc (.cells #[] 3) = W2 at *
  have v0 := (HZB.out.cell uL).trans u0
  have v1 := (HZB.out.cell uL).trans u1
  have B2 := hidP (HUB.out.trans (HZB.out.mono HUB.out.size))
  refine (HPO.out _ B2.out).mono ?_
  rintro e w3 ⟨rfl, hb3⟩
  have B3 := hidP (HZB.out.trans (hb3.mono HZB.out.size))
  have O3 := hidP (HZ.out.later hb3)
  clear hb3 HZ v0 v1
  cases r
  · have HF := hidP (And.intro O3.out (HUB.out.trans (B3.out.mono HUB.out.size)))
    go_wp2_with fail
    go_ret
    exact ⟨_, _, rfl, HF.out.1.mono HUB.out.size, HF.out.2⟩
  · have z0 := (B3.out.cell uL).trans u0
    go_wp2_with fail
    clear z0
    go_loopw [3, 5, 14] (fun t3 _ t14 wr => ∃ (k : Nat) (ad : Option Addr) (c : Nat), k ≤ np ∧ t14 = .int .i64 k ∧ t3 = .slice ad k c ∧ OwnG KI 3 wr W1.heap.size (.slice ad k c) (usgL (ps.take k) bs) ∧ Below W1.heap.size W1 wr) (fun _ _ t14 _ => np - (intOf t14).toNat)
    case atStart => exact ⟨0, _, 0, Nat.zero_le _, rfl, rfl, O3.out, B3.out⟩
    case round =>
      obtain ⟨k, ad, c, hk, rfl, rfl, hown, hbel⟩ := hrel
      have HO := hidP hown
      have HBel := hidP hbel
      have HKL := hidP (usgL_len ps bs k (by rw [← HN.out]; exact hk))
      by_cases hlt : k < np
      · obtain ⟨p, o, q, rfl, hp, hq, c0, c1, c2, c3, c4⟩ := rowPl HP1.out k (by rw [← HN.out]; exact hlt)
        have d0 := (hbel.cell hp).trans c0
        have d1 := (hbel.cell hp).trans c1
        have d2 := (hbel.cell hp).trans c2
        have d3 := (hbel.cell hp).trans c3
        have d4 := (hbel.cell hp).trans c4
        have z0 := (hbel.cell uL).trans u0
        have z1 := (hbel.cell uL).trans u1
        have zL : w.heap.size < wr.heap.size := Nat.lt_of_lt_of_le uL hbel.size
        have hWr : W1.heap.size ≤ wr.heap.size := hbel.size
        have HSn := hidP (usg_snoc ps bs k q hq)
        have hfq := HFL.out q.p
        clear c0 c1 c2 c3 c4 hq hbel hown
        go_wp2_with fail
        obtain ⟨x0, x1, x2, x3, x4⟩ := boxPl (q := q) wr 48
        have xB := alloc_below wr (.cells #[.bool q.p.s, .int .i64 q.p.H.toInt, .int .i64 q.p.L.toInt, .int .i64 q.p.b, .int .i64 q.n] 48)
        have xL := alloc_lt wr (.cells #[.bool q.p.s, .int .i64 q.p.H.toInt, .int .i64 q.p.L.toInt, .int .i64 q.p.b, .int .i64 q.n] 48)
        have xS : (wr.alloc (.cells #[.bool q.p.s, .int .i64 q.p.H.toInt, .int .i64 q.p.L.toInt, .int .i64 q.p.b, .int .i64 q.n] 48)).heap.size = wr.heap.size + 1 := by simp
        generalize wr.alloc (.cells #[.bool q.p.s, .int .i64 q.p.H.toInt, .int .i64 q.p.L.toInt, .int .i64 q.p.b, .int .i64 q.n] 48) = W4 at *
        have HX := hidP (HBel.out.trans (xB.mono HBel.out.size))
        have HO4 := hidP (HO.out.later xB)
        clear xB xS
        refine (HBI.out q.p W4 (HUB.out.trans (HX.out.mono HUB.out.size))).mono ?_
        rintro e w5 ⟨a5, c5, rfl, _, hb5⟩
        have HB5 := hidP (HX.out.trans (hb5.mono HX.out.size))
        have HO5 := hidP (HO4.out.later hb5)
        have hW5 : W1.heap.size ≤ w5.heap.size := HB5.out.size
        clear hb5 d0 d1 d2 d3 d4 x0 x1 x2 x3 x4 z0 z1
        generalize (fil bs q.p).length = N at *
        go_wp2_with (at_builtin; refine wpList_appG Try.tyI _ rfl (.tmp 18) (.tmp 24) 62 rfl W1.heap.size ad k c 1 (usgL (ps.take k) bs) [(N : Int)] (.slice (some ⟨w5.heap.size, 0, none⟩) 1 1) rfl HKL.out.symm rfl (HO5.out.alloc _) rfl (src_rowG Try.tyI.1 1 1 (by show 0 < 1; omega) rfl (own_oneG KI w5 0 3 (N : Int) (Nat.zero_le _)).row (by simp)) (by omega) (by simp; omega) ?_; intro a6 c6 w6 ho6 hg6 ht6)
        go_roundw
        case rel => exact ⟨k + 1, a6, c6, by omega, by go_num, rfl, by rw [HSn.out]; exact ho6, below_appG (HB5.out.alloc hW5 _) (HO5.out.alloc _) (by simp; omega) hg6⟩
        case measure => simp [intOf]; omega
      · have hkn : k = np := by omega
        have HF : Hid (k = (usgR true ps bs).length ∧ OwnG KI 3 wr w.heap.size (.slice ad k c) (usgR true ps bs) ∧ Below w.heap.size w wr) := by
          have e : usgR true ps bs = usgL (ps.take k) bs := by
            show usgL ps bs = _
            rw [List.take_of_length_le (by have := HN.out; omega)]
          rw [e]
          exact hidP ⟨HKL.out.symm, HO.out.mono HUB.out.size, HUB.out.trans (HBel.out.mono HUB.out.size)⟩
        clear hown hbel
        go_wp2_with fail
        go_ret
        refine ⟨ad, c, ?_, ?_, HF.out.2.2⟩
        · rw [← HF.out.1]; rfl
        · rw [← HF.out.1]; exact HF.out.2.1

set_option maxRecDepth 10000 in
set_option maxHeartbeats 4000000 in
theorem sUsage_any (ap : Option Addr) (np cp : Nat) (ab : Option Addr) (nb cb : Nat) (ps : List Pl) (bs : List Bk) (w : World) (hnp : np = ps.length) (hnb : nb = bs.length) (hP : RowG KPl w ap ps) (hK : RowG KBk w ab bs) (hlp : np ≤ 1048576) (hl : nb ≤ 1048576) (hst : ∀ q ∈ bs, q.t.size ≤ 9223372036854775807) :
    Calls Try.prog 28 #[.agg #[.slice ap np cp, .slice ab nb cb]] w fun e w' => ∃ a c, e = .returned (.slice a (usgR (planB ps bs) ps bs).length c) ∧ OwnG KI 3 w' w.heap.size (.slice a (usgR (planB ps bs) ps bs).length c) (usgR (planB ps bs) ps bs) ∧ Below w.heap.size w w' := by
  have HPO := hidP (fun W h => sPlanOk_any ap np cp ab nb cb ps bs W hnp hnb (hP.later h) (hK.later h) (by omega) (by omega) hst)
  have HBI := hidP (fun (pt : Pf) W h => l5Blocks_any pt ap np cp ab nb cb bs W hnb (hK.later h) hl)
  have hfl : ∀ p, (fil bs p).length ≤ nb := fun p => by rw [hnb]; exact fil_all bs p
  have HFL := hidP hfl
  have HBP := hidP hP
  have HN := hidP hnp
  clear hP hK hnp hnb hst hfl
  generalize planB ps bs = r at *
  go_enter Try.func28, Try.ntmps28
  go_wp2_with fail
  obtain ⟨u0, u1⟩ := box2 (u := .slice ap np cp) (v := .slice ab nb cb) w 32
  have uB := alloc_below w (.cells #[.slice ap np cp, .slice ab nb cb] 32)
  have uL := alloc_lt w (.cells #[.slice ap np cp, .slice ab nb cb] 32)
  have uS : (w.alloc (.cells #[.slice ap np cp, .slice ab nb cb] 32)).heap.size = w.heap.size + 1 := by simp
  generalize w.alloc (.cells #[.slice ap np cp, .slice ab nb cb] 32) = W1 at *
  have HUB := hidP uB
  have HP1 := hidP (HBP.out.later uB)
  have HZ : Hid (OwnG KI 3 (W1.alloc (.cells #[] 3)) W1.heap.size (.slice (some ⟨w.heap.size + 1, 0, none⟩) 0 0) []) := hidP (by rw [← uS]; exact own_zeroG KI W1 W1.heap.size 3 (Nat.le_refl _))
  have HZB := hidP (alloc_below W1 (.cells #[] 3))
  clear uB uS HBP
  go_loopw [3, 4] (fun t3 t4 wr => ∃ (k : Nat) (ad : Option Addr) (c : Nat), k ≤ np ∧ t4 = .int .i64 k ∧ t3 = .slice ad k c ∧ OwnG KI 3 wr W1.heap.size (.slice ad k c) (usgL (ps.take k) bs) ∧ Below W1.heap.size W1 wr ∧ (k = 0 ∨ r = true)) (fun _ t4 _ => np - (intOf t4).toNat)
  case atStart => exact ⟨0, _, 0, Nat.zero_le _, rfl, rfl, HZ.out, HZB.out, Or.inl rfl⟩
  case round =>
    obtain ⟨k, ad, c, hk, rfl, rfl, hown, hbel, hkr⟩ := hrel
    have HO := hidP hown
    have HBel := hidP hbel
    have HKL := hidP (usgL_len ps bs k (by rw [← HN.out]; exact hk))
    have z0 := (hbel.cell uL).trans u0
    have z1 := (hbel.cell uL).trans u1
    have zL : w.heap.size < wr.heap.size := Nat.lt_of_lt_of_le uL hbel.size
    by_cases hlt : k < np
    · have gk : decide ((k : Int) < (np : Int)) = true := decide_eq_true (by omega)
      go_wp2_with fail
      refine (HPO.out _ (HUB.out.trans (HBel.out.mono HUB.out.size))).mono ?_
      rintro e w4 ⟨rfl, hb4⟩
      have HB4 := hidP (HBel.out.trans (hb4.mono HBel.out.size))
      have HO4 := hidP (HO.out.later hb4)
      have z0' := (hb4.cell zL).trans z0
      have z1' := (hb4.cell zL).trans z1
      clear hb4 z0 z1
      cases r
      · have hk0 : k = 0 := by
          rcases hkr with h | h
          · exact h
          · cases h
        subst hk0
        have HF := hidP (And.intro (HO4.out.mono HUB.out.size) (HUB.out.trans (HB4.out.mono HUB.out.size)))
        clear hown hbel hkr
        go_wp2_with fail
        go_ret
        refine ⟨ad, c, rfl, ?_, HF.out.2⟩
        have := HF.out.1
        rw [List.take_zero] at this
        exact this
      · obtain ⟨p, o, q, rfl, hp, hq, c0, c1, c2, c3, c4⟩ := rowPl HP1.out k (by rw [← HN.out]; exact hlt)
        have HSn := hidP (usg_snoc ps bs k q hq)
        have hfq := HFL.out q.p
        have HB4d := hidP HB4.out.drew
        clear c4 hq hbel hown z0' z1' hkr
        go_wp2_with fail
        have HSx : Hid (∀ x, Below W1.heap.size W1 x → (x.cell? ⟨p, o + k * 5, none⟩ = some (.bool q.p.s) ∧ x.cell? ⟨p, o + k * 5 + 1, none⟩ = some (.int .i64 q.p.H.toInt) ∧ x.cell? ⟨p, o + k * 5 + 2, none⟩ = some (.int .i64 q.p.L.toInt) ∧ x.cell? ⟨p, o + k * 5 + 3, none⟩ = some (.int .i64 q.p.b) ∧ x.cell? ⟨w.heap.size, 0, none⟩ = some (.slice (some ⟨p, o, none⟩) np cp) ∧ x.cell? ⟨w.heap.size, 1, none⟩ = some (.slice ab nb cb) ∧ Below W1.heap.size W1 x)) := hidP fun x h =>
          ⟨(h.cell hp).trans c0, (h.cell hp).trans c1, (h.cell hp).trans c2, (h.cell hp).trans c3, (h.cell uL).trans u0, (h.cell uL).trans u1, h⟩
        refine wp_region_held_drew (S := (fun x => x.cell? ⟨p, o + k * 5, none⟩ = some (.bool q.p.s) ∧ x.cell? ⟨p, o + k * 5 + 1, none⟩ = some (.int .i64 q.p.H.toInt) ∧ x.cell? ⟨p, o + k * 5 + 2, none⟩ = some (.int .i64 q.p.L.toInt) ∧ x.cell? ⟨p, o + k * 5 + 3, none⟩ = some (.int .i64 q.p.b) ∧ x.cell? ⟨w.heap.size, 0, none⟩ = some (.slice (some ⟨p, o, none⟩) np cp) ∧ x.cell? ⟨w.heap.size, 1, none⟩ = some (.slice ab nb cb) ∧ Below W1.heap.size W1 x)) (by kernel_rfl) ?_ (fun hHeld => ?_)
        · try dsimp only
          exact HSx.out _ (HB4d.out)
        refine wpAnyH_take (i := 0) (oi := ⟨some 17, _, _, _, _, _⟩) (v := ?_) rfl (by kernel_rfl) (by kernel_rfl) (by kernel_rfl) (fun _ _ _ h => h) (Or.inl ⟨by rfl, ?_⟩) (by assumption) ?_
        rotate_left
        · intro w hSw
          try dsimp only at hSw
          go_simp
          try with_reducible rfl
        simp only [Act.put, List.setIfInBounds_toArray, List.set_cons_zero, List.set_cons_succ]
        refine wpAnyH_take (i := 1) (oi := ⟨some 18, _, _, _, _, _⟩) (v := ?_) rfl (by kernel_rfl) (by kernel_rfl) (by kernel_rfl) (fun _ _ _ h => h) (Or.inl ⟨by rfl, ?_⟩) (by assumption) ?_
        rotate_left
        · intro w hSw
          try dsimp only at hSw
          go_simp
          try with_reducible rfl
        simp only [Act.put, List.setIfInBounds_toArray, List.set_cons_zero, List.set_cons_succ]
        refine wpAnyH_take (i := 2) (oi := ⟨some 19, _, _, _, _, _⟩) (v := ?_) rfl (by kernel_rfl) (by kernel_rfl) (by kernel_rfl) (fun _ _ _ h => h) (Or.inl ⟨by rfl, ?_⟩) (by assumption) ?_
        rotate_left
        · intro w hSw
          try dsimp only at hSw
          go_simp
          try with_reducible rfl
        simp only [Act.put, List.setIfInBounds_toArray, List.set_cons_zero, List.set_cons_succ]
        refine wpAnyH_take (i := 3) (oi := ⟨some 20, _, _, _, _, _⟩) (v := ?_) rfl (by kernel_rfl) (by kernel_rfl) (by kernel_rfl) (fun _ _ _ h => h) (Or.inl ⟨by rfl, ?_⟩) (by assumption) ?_
        rotate_left
        · intro w hSw
          try dsimp only at hSw
          go_simp
          try with_reducible rfl
        simp only [Act.put, List.setIfInBounds_toArray, List.set_cons_zero, List.set_cons_succ]
        refine wpAnyH_take (i := 4) (oi := ⟨some 21, _, _, _, _, _⟩) (v := ?_) rfl (by kernel_rfl) (by kernel_rfl) (by kernel_rfl) (fun _ _ _ h => h) (Or.inl ⟨by rfl, ?_⟩) (by assumption) ?_
        rotate_left
        · intro w hSw
          try dsimp only at hSw
          go_simp
          try with_reducible rfl
        simp only [Act.put, List.setIfInBounds_toArray, List.set_cons_zero, List.set_cons_succ]
        refine wpAnyH_take (i := 5) (oi := ⟨some 22, _, _, _, _, _⟩) (v := ?_) rfl (by kernel_rfl) (by kernel_rfl) (by kernel_rfl) (fun _ _ _ h => h) (Or.inl ⟨by rfl, ?_⟩) (by assumption) ?_
        rotate_left
        · intro w hSw
          try dsimp only at hSw
          go_simp
          try with_reducible rfl
        simp only [Act.put, List.setIfInBounds_toArray, List.set_cons_zero, List.set_cons_succ]
        refine wpAnyH_take (i := 6) (oi := ⟨some 23, _, _, _, _, _⟩) (v := ?_) rfl (by kernel_rfl) (by kernel_rfl) (by kernel_rfl) (fun _ _ _ h => h) (Or.inl ⟨by rfl, ?_⟩) (by assumption) ?_
        rotate_left
        · intro w hSw
          try dsimp only at hSw
          go_simp
          try with_reducible rfl
        simp only [Act.put, List.setIfInBounds_toArray, List.set_cons_zero, List.set_cons_succ]
        refine wpAnyH_take (i := 7) (oi := ⟨some 24, _, _, _, _, _⟩) (v := ?_) rfl (by kernel_rfl) (by kernel_rfl) (by kernel_rfl) (fun _ _ _ h => h) (Or.inl ⟨by rfl, ?_⟩) (by assumption) ?_
        rotate_left
        · intro w hSw
          try dsimp only at hSw
          go_simp
          try with_reducible rfl
        simp only [Act.put, List.setIfInBounds_toArray, List.set_cons_zero, List.set_cons_succ]
        refine wpAnyH_ready (rs := [8]) (by kernel_rfl) (by simp) ?_
        refine AllReadyH.cons rfl (fun K hK => ?_) AllReadyH.nil
        go_simp
        go_wp2_with (first | (go_at_call 61; refine (HBI.out q.p _ (HUB.out.trans ((hHeld.2.2.2.2.2.2).mono HUB.out.size))).mono ?_; rintro e w5 ⟨a5, c5, rfl, _, hb5⟩; have b5 := (hHeld.2.2.2.2.2.2).trans (hb5.mono (hHeld.2.2.2.2.2.2).size)))
        refine hK.out _ _ ?_ (fun hHeld => ?_)
        · try dsimp only
          exact HSx.out _ b5
        clear hK K
        refine wpAnyH_take (i := 9) (oi := ⟨some 26, _, _, _, _, _⟩) (v := ?_) rfl (by kernel_rfl) (by kernel_rfl) (by kernel_rfl) (fun _ _ _ h => h) (Or.inl ⟨by rfl, ?_⟩) (by assumption) ?_
        rotate_left
        · intro w hSw
          try dsimp only at hSw
          go_simp
          try with_reducible rfl
        simp only [Act.put, List.setIfInBounds_toArray, List.set_cons_zero, List.set_cons_succ]
        refine wpAnyH_ready (rs := [10]) (by kernel_rfl) (by simp) ?_
        refine AllReadyH.cons rfl (fun K hK => ?_) AllReadyH.nil
        go_simp
        have b6 := (hHeld.2.2.2.2.2.2).alloc (hHeld.2.2.2.2.2.2).size (.cells #[.int .i64 ((fil bs q.p).length : Int)] 3)
        refine hK.out _ _ ?_ (fun hHeld => ?_)
        · try dsimp only
          exact HSx.out _ b6
        clear hK K
        have HO5 := hidP (HO4.out.later (show Below w4.heap.size w4 w5 from (Below.refl _ w4).drew.trans hb5))
        have hW5 : W1.heap.size ≤ w5.heap.size := b5.size
        refine wpAnyH_ready (rs := [11]) (by kernel_rfl) (by simp) ?_
        refine AllReadyH.cons rfl (fun K hK => ?_) AllReadyH.nil
        refine step_appG Try.tyI _ rfl (.tmp 17) (.tmp 27) 62 rfl W1.heap.size ad k c 1 (usgL (ps.take k) bs) [((fil bs q.p).length : Int)] (.slice (some ⟨w5.heap.size, 0, none⟩) 1 1) rfl HKL.out.symm rfl (HO5.out.alloc _) rfl (src_rowG Try.tyI.1 1 1 (by show 0 < 1; omega) rfl (own_oneG KI w5 0 3 ((fil bs q.p).length : Int) (Nat.zero_le _)).row (by simp)) (by omega) (by simp; omega) ?_
        intro a7 c7 w7 ho7 hg7 ht7
        have b7 := below_appG b6 (HO5.out.alloc _) (by simp; omega) hg7
        refine hK.out _ _ ?_ (fun hHeld => ?_)
        · try dsimp only
          exact HSx.out _ b7
        clear hK K
        refine wpAnyH_take (i := 12) (oi := ⟨some 3, _, _, _, _, _⟩) (v := ?_) rfl (by kernel_rfl) (by kernel_rfl) (by kernel_rfl) (fun _ _ _ h => h) (Or.inl ⟨by rfl, ?_⟩) (by assumption) ?_
        rotate_left
        · intro w hSw
          try dsimp only at hSw
          go_simp
          try with_reducible rfl
        simp only [Act.put, List.setIfInBounds_toArray]
        have HE := hidP (hHeld.2.2.2.2.2.2)
        refine wpAnyH_done (by kernel_rfl) ?_ _
        clear hHeld
        have HO7 := hidP ho7
        clear ho7 hg7 ht7 b7 b6 b5 hb5
        go_wp2_with fail
        go_roundw
        case rel => exact ⟨k + 1, a7, c7, by omega, by go_num, rfl, by rw [HSn.out]; exact HO7.out, HE.out, by simp⟩
        case measure => simp [intOf]; omega
    · have gk : decide ((k : Int) < (np : Int)) = false := decide_eq_false (by omega)
      have hkn : k = np := by omega
      have HF : Hid (k = (usgR r ps bs).length ∧ OwnG KI 3 wr w.heap.size (.slice ad k c) (usgR r ps bs) ∧ Below w.heap.size w wr) := by
        have e : usgR r ps bs = usgL (ps.take k) bs := by
          rcases hkr with h | h
          · have hps : ps = [] := List.eq_nil_of_length_eq_zero (by have := HN.out; omega)
            subst hps
            unfold usgR; split <;> simp [usgL]
          · rw [h]
            show usgL ps bs = _
            rw [List.take_of_length_le (by have := HN.out; omega)]
        rw [e]
        exact hidP ⟨HKL.out.symm, HO.out.mono HUB.out.size, HUB.out.trans (HBel.out.mono HUB.out.size)⟩
      clear hown hbel hkr
      go_wp2_with fail
      go_ret
      refine ⟨ad, c, ?_, ?_, HF.out.2.2⟩
      · rw [← HF.out.1]; rfl
      · rw [← HF.out.1]; exact HF.out.2.1

end Go.Proofs.Ythbpehpnikknlaa

namespace Go.Proofs.Ythbpehpnikknlaa
open Go.RowKit

set_option maxHeartbeats 1000000 in
theorem markPlan_any (ap : Option Addr) (np cp : Nat) (ab : Option Addr) (nb cb : Nat) (ps : List Pl) (bs : List Bk) (B : Nat) (k : Int) (w : World) (hnp : np = ps.length) (hnb : nb = bs.length) (hO1 : OwnG KPl 48 w B (.slice ap np cp) ps) (hO2 : OwnG KBk 56 w B (.slice ab nb cb) bs) (hne : ∀ k, (Value.slice ap np cp).ownBlock = some k → (Value.slice ab nb cb).ownBlock ≠ some k) (h1 : np ≤ 2000000) (h2 : nb ≤ 2000000) (k0 : 0 < k) (k1 : k ≤ 1000) :
    Calls Try.prog 19 #[.agg #[.slice ap np cp, .slice ab nb cb], .int .i64 k] w fun e w' => e = .returned (.int .i64 (k + 5 * np + 5 * nb)) ∧ OwnG KPl 48 w' B (.slice ap np cp) (mksG (mkPl k) np) ∧ OwnG KBk 56 w' B (.slice ab nb cb) (mksG (mkBk (k + 5 * np)) nb) ∧ ∃ wm, w.grownBy wm (Value.slice ap np cp).ownBlock ∧ wm.grownBy w' (Value.slice ab nb cb).ownBlock := by
  have hl1 := fun k hk => (OwnG.lt hO1 k hk).2
  have HO := hidP (And.intro hO1 hO2)
  have HNE := hidP hne
  have HN := hidP (And.intro hnp hnb)
  have HL1 := hidP hl1
  clear hO1 hO2 hne hnp hnb hl1
  go_enter Try.func19, Try.ntmps19
  go_wp2_with fail
  obtain ⟨u0, u1⟩ := box2 (u := .slice ap np cp) (v := .slice ab nb cb) w 32
  have uB := alloc_below w (.cells #[.slice ap np cp, .slice ab nb cb] 32)
  have uL := alloc_lt w (.cells #[.slice ap np cp, .slice ab nb cb] 32)
  have uS : (w.alloc (.cells #[.slice ap np cp, .slice ab nb cb] 32)).heap.size = w.heap.size + 1 := by simp
  generalize w.alloc (.cells #[.slice ap np cp, .slice ab nb cb] 32) = W1 at *
  refine (markPoolS_any ap np cp B ps k W1 HN.out.1 (HO.out.1.later uB) (by omega) k0 (by omega)).mono ?_
  rintro e w2 ⟨rfl, o2, g2⟩
  have hob := OwnG.grown (HO.out.2.later uB) g2 (fun j hj h => HNE.out j h hj)
  have c1 : w2.cell? ⟨w.heap.size, 1, none⟩ = some (.slice ab nb cb) := (World.cell?_of_block (g2.block w.heap.size uL (fun e => by have := HL1.out _ e.symm; omega))).trans u1
  have G2 := hidP ((grown_of uB _).trans g2)
  have O2 := hidP (And.intro o2 hob)
  clear g2 o2 hob uB uS u0 u1 uL
  go_wp2_with fail
  refine (markBlockS_any ab nb cb B bs (k + 5 * np) w2 HN.out.2 O2.out.2 (by omega) (by omega) (by omega)).mono ?_
  rintro e w3 ⟨rfl, o3, g3⟩
  have op := OwnG.grown O2.out.1 g3 (fun j hj h => HNE.out j hj h)
  have F := hidP (And.intro op (And.intro o3 g3))
  clear op o3 g3 c1
  go_wp2_with fail
  go_ret
  exact ⟨rfl, F.out.1, F.out.2.1, w2, G2.out, F.out.2.2⟩

set_option maxHeartbeats 1000000 in
theorem heldPlan_any (ap : Option Addr) (np cp : Nat) (ab : Option Addr) (nb cb : Nat) (k : Int) (w : World) (hP : RowG KPl w ap (mksG (mkPl k) np)) (hK : RowG KBk w ab (mksG (mkBk (k + 5 * np)) nb)) (h1 : np ≤ 2000000) (h2 : nb ≤ 2000000) (k0 : 0 < k) (k1 : k ≤ 1000) :
    Calls Try.prog 20 #[.agg #[.slice ap np cp, .slice ab nb cb], .int .i64 k] w fun e w' => e = .returned (.int .i64 (k + 5 * np + 5 * nb)) ∧ Below w.heap.size w w' := by
  have HP := hidP (fun W h => heldPoolS_any ap cp np k W (hP.later h) (by omega) k0 (by omega))
  have HB := hidP (fun W h => heldBlockS_any ab cb nb (k + 5 * np) W (hK.later h) (by omega) (by omega) (by omega))
  have d1 : decide (k + 5 * (np : Int) < 0) = false := decide_eq_false (by omega)
  have d2 : decide (k + 5 * (np : Int) + 5 * (nb : Int) < 0) = false := decide_eq_false (by omega)
  have d3 : ¬ (k + 5 * (np : Int) < 0) := by omega
  have d4 : ¬ (k + 5 * (np : Int) + 5 * (nb : Int) < 0) := by omega
  clear hP hK
  go_enter Try.func20, Try.ntmps20
  go_wp2_with fail
  obtain ⟨u0, u1⟩ := box2 (u := .slice ap np cp) (v := .slice ab nb cb) w 32
  have uB := alloc_below w (.cells #[.slice ap np cp, .slice ab nb cb] 32)
  have uL := alloc_lt w (.cells #[.slice ap np cp, .slice ab nb cb] 32)
  have uS : (w.alloc (.cells #[.slice ap np cp, .slice ab nb cb] 32)).heap.size = w.heap.size + 1 := by simp
  generalize w.alloc (.cells #[.slice ap np cp, .slice ab nb cb] 32) = W1 at *
  have HU := hidP uB
  refine (HP.out _ uB).mono ?_
  rintro e w2 ⟨rfl, hb2⟩
  have c1 := (hb2.cell uL).trans u1
  have B2 := hidP (HU.out.trans (hb2.mono HU.out.size))
  clear uB uS u0 u1 hb2
  go_wp2_with fail
  refine (HB.out _ B2.out).mono ?_
  rintro e w3 ⟨rfl, hb3⟩
  have B3 := hidP (B2.out.trans (hb3.mono B2.out.size))
  clear hb3
  go_wp2_with fail
  go_ret
  exact ⟨rfl, B3.out⟩

end Go.Proofs.Ythbpehpnikknlaa

namespace Go.Proofs.Ythbpehpnikknlaa
open Go.ChangeShapes Go.WideShapes Go.ChangeAt Go.RowKit Go.Joins Go.Deep

theorem slice_of {H : Type} {enc : TypeId × Value → H} {W : World} {t e : TypeId} {n : Nat} {u : Value} {y : DataW H × List MemPlace} (ht : Try.prog.underlying t = some (.slice e)) (h : DataW.trod enc Try.prog W 0 (fun _ => true) true n t [u] = some y) : ∃ a l c, u = .slice a l c := by
  rcases open_slice ht h with ⟨hcs, _⟩ | ⟨a', len', cap', m, n', D, Plc, hcs, _⟩
  · simp at hcs; exact ⟨_, _, _, hcs⟩
  · simp at hcs; exact ⟨_, _, _, hcs⟩
theorem Try.cellsPn : Try.prog.cellsOf 26 = 2 := by kernel_rfl
set_option maxRecDepth 100000 in
/-- A plan that came in. -/
theorem openPlan {H : Type} {enc : TypeId × Value → H} {W : World} {r : Reach} {b0 : Nat} {v : Value} {d : DataW H} {p : List MemPlace} (hv : Value.okWide Try.prog W r b0 26 v)
    (h : DataW.Trod enc Try.prog W 0 (fun _ => true) true 26 v d p) : ∃ (ap : Option Addr) (np cp : Nat) (ab : Option Addr) (nb cb : Nat) (ps : List Pl) (bs : List Bk), v = .agg #[.slice ap np cp, .slice ab nb cb] ∧ np = ps.length ∧ nb = bs.length ∧ RowG KPl W ap ps ∧ RowG KBk W ab bs ∧ np ≤ 9223372036854775807 ∧ nb ≤ 9223372036854775807 ∧ ∀ q ∈ bs, q.t.size ≤ 9223372036854775807 := by
  obtain ⟨v0, v1, y0, y1, n, rfl, rfl, rfl, t0, t1⟩ := open_agg2 Try.underlying26 (by kernel_rfl) Try.cellsPn hv h
  obtain ⟨ap, np, cp, rfl⟩ := slice_of Try.underlying23 t0
  obtain ⟨ab, nb, cb, rfl⟩ := slice_of Try.underlying24 t1
  obtain ⟨ps, e1, l1, r1⟩ := openPl (enc := enc) (W := W) (a := ap) (len := np) (cap := cp) (d := y0.1) (p := y0.2) ⟨n, by simpa [Value.cells] using t0⟩
  obtain ⟨bs, e2, l2, r2, s2⟩ := openBk2 (enc := enc) (W := W) (a := ab) (len := nb) (cap := cb) (d := y1.1) (p := y1.2) ⟨n, by simpa [Value.cells] using t1⟩
  exact ⟨ap, np, cp, ab, nb, cb, ps, bs, rfl, e1.symm, e2.symm, r1, r2, l1, l2, s2⟩

set_option maxRecDepth 10000 in
set_option maxHeartbeats 8000000 in
theorem lawUsage (ap : Option Addr) (np cp : Nat) (ab : Option Addr) (nb cb : Nat) (ps : List Pl) (bs : List Bk) (w : World) (hnp : np = ps.length) (hnb : nb = bs.length) (hP : RowG KPl w ap ps) (hK : RowG KBk w ab bs) (h9 : np ≤ 9223372036854775807) (h9' : nb ≤ 9223372036854775807) (hst : ∀ q ∈ bs, q.t.size ≤ 9223372036854775807) :
    Calls Try.prog 8 #[.agg #[.slice ap np cp, .slice ab nb cb]] w fun e w' => e = .returned (.bool true) ∧ Below w.heap.size w w' := by
  have HSz := hidP (fun W h => szPlan_any ap np cp ab nb cb ps bs W hnp hnb (hK.later h) h9 h9' hst)
  by_cases ht : totP ps bs ≤ 1048576
  · rw [szT_yes ht] at HSz
    have hl : np ≤ 1048576 := by unfold totP at ht; omega
    have hl' : nb ≤ 1048576 := by unfold totP at ht; omega
    have HTo := hidP (fun W h => toPlan_any ap np cp ab nb cb ps bs W hnp hnb (hP.later h) (hK.later h) hl hl')
    have HSp := hidP (fun W g h e1 e2 => sUsage_any (some ⟨g, 0, none⟩) np np (some ⟨h, 0, none⟩) nb nb ps bs W hnp hnb e1 e2 hl hl' hst)
    have HIm := hidP (fun W g h e1 e2 => iUsage_any (some ⟨g, 0, none⟩) np np (some ⟨h, 0, none⟩) nb nb ps bs W hnp hnb e1 e2 hl hl' hst)
    have HEq := hidP (fun W g h g' h' e1 e2 e3 e4 => eqPlan_same (some ⟨g, 0, none⟩) (some ⟨g', 0, none⟩) np np np (some ⟨h, 0, none⟩) (some ⟨h', 0, none⟩) nb nb nb ps bs W hnp hnb e1 e2 e3 e4 (by omega) (by omega))
    have HMk := hidP (fun W g h B o1 o2 ne => markPlan_any (some ⟨g, 0, none⟩) np np (some ⟨h, 0, none⟩) nb nb ps bs B 1 W hnp hnb o1 o2 ne (by omega) (by omega) (by omega) (by omega))
    have hUL : (usgR (planB ps bs) ps bs).length ≤ 1048576 := by
      unfold usgR; split
      · unfold usgL; rw [List.length_map, ← hnp]; exact hl
      · simp
    generalize usgR (planB ps bs) ps bs = U at *
    obtain ⟨N, hN⟩ : ∃ N, N = U.length := ⟨_, rfl⟩
    rw [← hN] at HSp HIm hUL
    have HN := hidP hN
    have d1 : decide (1048576 - totP ps bs < 0) = false := decide_eq_false (by omega)
    have d2 : ¬ (1048576 - totP ps bs < 0) := by omega
    generalize 1048576 - totP ps bs = z at *
    have d3 : decide ((1 : Int) + 5 * (np : Int) + 5 * (nb : Int) < 0) = false := decide_eq_false (by omega)
    have d4 : ¬ ((1 : Int) + 5 * (np : Int) + 5 * (nb : Int) < 0) := by omega
    have d5 : decide ((1 : Int) + (N : Int) < 0) = false := decide_eq_false (by omega)
    have d6 : ¬ ((1 : Int) + (N : Int) < 0) := by omega
    clear hP hK hnp hnb hst ht hN
    go_enter Try.func8, Try.ntmps8
    go_wp2_with fail
    obtain ⟨u0, u1⟩ := box2 (u := .slice ap np cp) (v := .slice ab nb cb) w 26
    have uB := alloc_below w (.cells #[.slice ap np cp, .slice ab nb cb] 26)
    have uL := alloc_lt w (.cells #[.slice ap np cp, .slice ab nb cb] 26)
    have uS : (w.alloc (.cells #[.slice ap np cp, .slice ab nb cb] 26)).heap.size = w.heap.size + 1 := by simp
    generalize w.alloc (.cells #[.slice ap np cp, .slice ab nb cb] 26) = W1 at *
    have accW := hidP uB
    clear uB
    refine (HSz.out _ accW.out).mono ?_
    rintro e w2 ⟨rfl, hb2⟩
    have lp0_w2 := (hb2.cell uL).trans u0
    have lp1_w2 := (hb2.cell uL).trans u1
    have lpL_w2 : w.heap.size < w2.heap.size := Nat.lt_of_lt_of_le uL hb2.size
    have acc_w2 := hidP (accW.out.trans (hb2.mono accW.out.size))
    have sz_w2 := hb2.size
    clear u0 u1 uL hb2 accW uS
    go_wp2_with fail
    refine (HTo.out _ acc_w2.out).mono ?_
    rintro e w3 ⟨g1, h1, rfl, og1, oh1, gh1, hb3⟩
    have R1 := hidP (And.intro og1.row oh1.row)
    have lp0_w3 := (hb3.cell lpL_w2).trans lp0_w2
    have lp1_w3 := (hb3.cell lpL_w2).trans lp1_w2
    have lpL_w3 : w.heap.size < w3.heap.size := Nat.lt_of_lt_of_le lpL_w2 hb3.size
    have acc_w3 := hidP (acc_w2.out.trans (hb3.mono acc_w2.out.size))
    have sz_w3 := hb3.size
    clear lp0_w2 lp1_w2 lpL_w2 hb3 og1 oh1 gh1 acc_w2
    go_wp2_with fail
    refine (HSp.out _ g1 h1 R1.out.1 R1.out.2).mono ?_
    rintro e w4 ⟨a4, c4, rfl, o4, hb4⟩
    have lp0_w4 := (hb4.cell lpL_w3).trans lp0_w3
    have lp1_w4 := (hb4.cell lpL_w3).trans lp1_w3
    have lpL_w4 : w.heap.size < w4.heap.size := Nat.lt_of_lt_of_le lpL_w3 hb4.size
    have acc_w4 := hidP (acc_w3.out.trans (hb4.mono acc_w3.out.size))
    have sz_w4 := hb4.size
    have szA : w.heap.size < w4.heap.size := lpL_w4
    have oS_w4 := hidP o4
    have hSB := hidP (fun j hj => (OwnG.lt o4 j hj).2)
    clear lp0_w3 lp1_w3 lpL_w3 hb4 o4 R1 acc_w3
    go_wp2_with fail
    refine (HTo.out _ acc_w4.out).mono ?_
    rintro e w5 ⟨g2, h2, rfl, og2, oh2, gh2, hb5⟩
    have lg2 := OwnG.lt og2 g2 rfl
    have lh2 := OwnG.lt oh2 h2 rfl
    have OX0 := hidP (And.intro og2 oh2)
    have lp0_w5 := (hb5.cell lpL_w4).trans lp0_w4
    have lp1_w5 := (hb5.cell lpL_w4).trans lp1_w4
    have lpL_w5 : w.heap.size < w5.heap.size := Nat.lt_of_lt_of_le lpL_w4 hb5.size
    have oS_w5 := hidP (OwnG.later oS_w4.out hb5)
    have acc_w5 := hidP (acc_w4.out.trans (hb5.mono acc_w4.out.size))
    have sz_w5 := hb5.size
    have oG_w5 := hidP og2
    have oH_w5 := hidP oh2
    clear lp0_w4 lp1_w4 lpL_w4 oS_w4 hb5 og2 oh2 OX0 acc_w4
    go_wp2_with fail
    obtain ⟨v0, v1⟩ := box2 (u := .slice (some ⟨g2, 0, none⟩) np np) (v := .slice (some ⟨h2, 0, none⟩) nb nb) w5 32
    have vB := alloc_below w5 (.cells #[.slice (some ⟨g2, 0, none⟩) np np, .slice (some ⟨h2, 0, none⟩) nb nb] 32)
    have vL := alloc_lt w5 (.cells #[.slice (some ⟨g2, 0, none⟩) np np, .slice (some ⟨h2, 0, none⟩) nb nb] 32)
    have vS : (w5.alloc (.cells #[.slice (some ⟨g2, 0, none⟩) np np, .slice (some ⟨h2, 0, none⟩) nb nb] 32)).heap.size = w5.heap.size + 1 := by simp
    generalize w5.alloc (.cells #[.slice (some ⟨g2, 0, none⟩) np np, .slice (some ⟨h2, 0, none⟩) nb nb] 32) = W6 at *
    have lp0_W6 := (vB.cell lpL_w5).trans lp0_w5
    have lp1_W6 := (vB.cell lpL_w5).trans lp1_w5
    have lpL_W6 : w.heap.size < W6.heap.size := Nat.lt_of_lt_of_le lpL_w5 vB.size
    have oS_W6 := hidP (OwnG.later oS_w5.out vB)
    have oG_W6 := hidP (OwnG.later oG_w5.out vB)
    have oH_W6 := hidP (OwnG.later oH_w5.out vB)
    have acc_W6 := hidP (acc_w5.out.trans (vB.mono acc_w5.out.size))
    have sz_W6 := vB.size
    clear lp0_w5 lp1_w5 lpL_w5 oS_w5 oG_w5 oH_w5 vB acc_w5
    refine (HIm.out _ g2 h2 oG_W6.out.row oH_W6.out.row).mono ?_
    rintro e w7 ⟨a7, c7, rfl, o7, hb7⟩
    have lp0_w7 := (hb7.cell lpL_W6).trans lp0_W6
    have lp1_w7 := (hb7.cell lpL_W6).trans lp1_W6
    have lpL_w7 : w.heap.size < w7.heap.size := Nat.lt_of_lt_of_le lpL_W6 hb7.size
    have x00_w7 := (hb7.cell vL).trans v0
    have x01_w7 := (hb7.cell vL).trans v1
    have x0L_w7 : w5.heap.size < w7.heap.size := Nat.lt_of_lt_of_le vL hb7.size
    have oS_w7 := hidP (OwnG.later oS_W6.out hb7)
    have oG_w7 := hidP (OwnG.later oG_W6.out hb7)
    have oH_w7 := hidP (OwnG.later oH_W6.out hb7)
    have acc_w7 := hidP (acc_W6.out.trans (hb7.mono acc_W6.out.size))
    have sz_w7 := hb7.size
    have oI_w7 := hidP o7
    clear lp0_W6 lp1_W6 lpL_W6 v0 v1 vL oS_W6 oG_W6 oH_W6 hb7 o7 acc_W6
    go_wp2_with fail
    refine (eqIntS_same a7 a4 N c7 c4 U w7 HN.out oI_w7.out.row oS_w7.out.row (by omega)).mono ?_
    rintro e w8 ⟨rfl, hb8⟩
    have lp0_w8 := (hb8.cell lpL_w7).trans lp0_w7
    have lp1_w8 := (hb8.cell lpL_w7).trans lp1_w7
    have lpL_w8 : w.heap.size < w8.heap.size := Nat.lt_of_lt_of_le lpL_w7 hb8.size
    have x00_w8 := (hb8.cell x0L_w7).trans x00_w7
    have x01_w8 := (hb8.cell x0L_w7).trans x01_w7
    have x0L_w8 : w5.heap.size < w8.heap.size := Nat.lt_of_lt_of_le x0L_w7 hb8.size
    have oS_w8 := hidP (OwnG.later oS_w7.out hb8)
    have oG_w8 := hidP (OwnG.later oG_w7.out hb8)
    have oH_w8 := hidP (OwnG.later oH_w7.out hb8)
    have oI_w8 := hidP (OwnG.later oI_w7.out hb8)
    have acc_w8 := hidP (acc_w7.out.trans (hb8.mono acc_w7.out.size))
    have sz_w8 := hb8.size
    clear lp0_w7 lp1_w7 lpL_w7 x00_w7 x01_w7 x0L_w7 oS_w7 oG_w7 oH_w7 oI_w7 hb8 acc_w7
    go_wp2_with fail
    have HSx : Hid (∀ x, Below w8.heap.size w8 x → (x.cell? ⟨w.heap.size, 0, none⟩ = some (.slice ap np cp) ∧ x.cell? ⟨w.heap.size, 1, none⟩ = some (.slice ab nb cb) ∧ x.cell? ⟨w5.heap.size, 0, none⟩ = some (.slice (some ⟨g2, 0, none⟩) np np) ∧ x.cell? ⟨w5.heap.size, 1, none⟩ = some (.slice (some ⟨h2, 0, none⟩) nb nb) ∧ Below w8.heap.size w8 x)) := hidP fun x h =>
      ⟨(h.cell lpL_w8).trans lp0_w8, (h.cell lpL_w8).trans lp1_w8, (h.cell x0L_w8).trans x00_w8, (h.cell x0L_w8).trans x01_w8, h⟩
    refine wp_region_held_drew (S := (fun x => x.cell? ⟨w.heap.size, 0, none⟩ = some (.slice ap np cp) ∧ x.cell? ⟨w.heap.size, 1, none⟩ = some (.slice ab nb cb) ∧ x.cell? ⟨w5.heap.size, 0, none⟩ = some (.slice (some ⟨g2, 0, none⟩) np np) ∧ x.cell? ⟨w5.heap.size, 1, none⟩ = some (.slice (some ⟨h2, 0, none⟩) nb nb) ∧ Below w8.heap.size w8 x)) (by kernel_rfl) ?_ (fun hHeld => ?_)
    · try dsimp only
      exact HSx.out _ ((Below.refl _ _).drew)
    refine wpAnyH_take (i := 0) (oi := ⟨some 27, _, _, _, _, _⟩) (v := ?_) rfl (by kernel_rfl) (by kernel_rfl) (by kernel_rfl) (fun _ _ _ h => h) (Or.inl ⟨by rfl, ?_⟩) (by assumption) ?_
    rotate_left
    · intro w hSw
      try dsimp only at hSw
      go_simp
      try with_reducible rfl
    simp only [Act.put, List.setIfInBounds_toArray, List.set_cons_zero, List.set_cons_succ]
    refine wpAnyH_take (i := 1) (oi := ⟨some 28, _, _, _, _, _⟩) (v := ?_) rfl (by kernel_rfl) (by kernel_rfl) (by kernel_rfl) (fun _ _ _ h => h) (Or.inl ⟨by rfl, ?_⟩) (by assumption) ?_
    rotate_left
    · intro w hSw
      try dsimp only at hSw
      go_simp
      try with_reducible rfl
    simp only [Act.put, List.setIfInBounds_toArray, List.set_cons_zero, List.set_cons_succ]
    refine wpAnyH_ready (rs := [2]) (by kernel_rfl) (by simp) ?_
    refine AllReadyH.cons rfl (fun K hK => ?_) AllReadyH.nil
    go_simp
    go_wp2_with (first | (go_at_call 13; refine (HTo.out _ (acc_w8.out.trans ((hHeld.2.2.2.2).mono acc_w8.out.size))).mono ?_; rintro e w9 ⟨g3, h3, rfl, og3, oh3, gh3, hb9⟩; have b9 := (hHeld.2.2.2.2).trans (hb9.mono (hHeld.2.2.2.2).size)))
    refine hK.out _ _ ?_ (fun hHeld => ?_)
    · try dsimp only
      exact HSx.out _ b9
    clear hK K
    refine wpAnyH_ready (rs := [3]) (by kernel_rfl) (by simp) ?_
    refine AllReadyH.cons rfl (fun K hK => ?_) AllReadyH.nil
    go_simp
    go_wp2_with (first | (go_at_call 15; refine (HEq.out _ g2 h2 g3 h3 (RowG.later oG_w8.out.row (hHeld.2.2.2.2)) og3.row (RowG.later oH_w8.out.row (hHeld.2.2.2.2)) oh3.row).mono ?_; rintro e w10 ⟨rfl, hb10⟩; have b10 := (hHeld.2.2.2.2).trans (hb10.mono (hHeld.2.2.2.2).size)))
    refine hK.out _ _ ?_ (fun hHeld => ?_)
    · try dsimp only
      exact HSx.out _ b10
    clear hK K
    refine wpAnyH_take (i := 4) (oi := ⟨some 31, _, _, _, _, _⟩) (v := ?_) rfl (by kernel_rfl) (by kernel_rfl) (by kernel_rfl) (fun _ _ _ h => h) (Or.inl ⟨by rfl, ?_⟩) (by assumption) ?_
    rotate_left
    · intro w hSw
      try dsimp only at hSw
      go_simp
      try with_reducible rfl
    simp only [Act.put, List.setIfInBounds_toArray, List.set_cons_zero, List.set_cons_succ]
    have HE := hidP (hHeld.2.2.2.2)
    refine wpAnyH_done (by kernel_rfl) ?_ _
    clear hHeld
    have hb10 := HE.out
    have lp0_w10 := (hb10.cell lpL_w8).trans lp0_w8
    have lp1_w10 := (hb10.cell lpL_w8).trans lp1_w8
    have lpL_w10 : w.heap.size < w10.heap.size := Nat.lt_of_lt_of_le lpL_w8 hb10.size
    have x00_w10 := (hb10.cell x0L_w8).trans x00_w8
    have x01_w10 := (hb10.cell x0L_w8).trans x01_w8
    have x0L_w10 : w5.heap.size < w10.heap.size := Nat.lt_of_lt_of_le x0L_w8 hb10.size
    have oS_w10 := hidP (OwnG.later oS_w8.out hb10)
    have oG_w10 := hidP (OwnG.later oG_w8.out hb10)
    have oH_w10 := hidP (OwnG.later oH_w8.out hb10)
    have oI_w10 := hidP (OwnG.later oI_w8.out hb10)
    have acc_w10 := hidP (acc_w8.out.trans (hb10.mono acc_w8.out.size))
    have sz_w10 := hb10.size
    clear lp0_w8 lp1_w8 lpL_w8 x00_w8 x01_w8 x0L_w8 oS_w8 oG_w8 oH_w8 oI_w8 hb10 acc_w8 og3 oh3 gh3 hb9 b9 b10 HSx HE
    go_wp2_with fail
    refine (HMk.out w10 g2 h2 w4.heap.size oG_w10.out oH_w10.out (fun j h1 h2' => by simp [Value.ownBlock] at h1 h2'; omega)).mono ?_
    rintro e w11 ⟨rfl, om1, om2, wm, hgm, hgn⟩
    have lS := lg2.1
    have lS' := lh2.1
    have lS2 := lg2.2
    have lS3 := lh2.2
    clear x00_w10 x01_w10 x0L_w10
    clear oG_w10 oH_w10
    have lp0_wm := (World.cell?_of_block (hgm.block (w.heap.size) lpL_w10 (fun he => by simp [Value.ownBlock] at he; omega))).trans lp0_w10
    have lp1_wm := (World.cell?_of_block (hgm.block (w.heap.size) lpL_w10 (fun he => by simp [Value.ownBlock] at he; omega))).trans lp1_w10
    have lpL_wm : w.heap.size < wm.heap.size := Nat.lt_of_lt_of_le lpL_w10 hgm.size
    have oS_wm := hidP (OwnG.grown oS_w10.out hgm (fun j hj he => by have hl := hSB.out j hj; simp [Value.ownBlock] at he; omega))
    have oI_wm := hidP (OwnG.grown oI_w10.out hgm (fun j hj he => by have hl := OwnG.lt oI_w10.out j hj; simp [Value.ownBlock] at he; omega))
    have acc_wm := hidP (acc_w10.out.grown hgm acc_w10.out.size (fun j he => by simp [Value.ownBlock] at he; omega))
    have sz_wm := hgm.size
    clear lp0_w10 lp1_w10 lpL_w10 oS_w10 oI_w10 hgm acc_w10
    have lp0_w11 := (World.cell?_of_block (hgn.block (w.heap.size) lpL_wm (fun he => by simp [Value.ownBlock] at he; omega))).trans lp0_wm
    have lp1_w11 := (World.cell?_of_block (hgn.block (w.heap.size) lpL_wm (fun he => by simp [Value.ownBlock] at he; omega))).trans lp1_wm
    have lpL_w11 : w.heap.size < w11.heap.size := Nat.lt_of_lt_of_le lpL_wm hgn.size
    have oS_w11 := hidP (OwnG.grown oS_wm.out hgn (fun j hj he => by have hl := hSB.out j hj; simp [Value.ownBlock] at he; omega))
    have oI_w11 := hidP (OwnG.grown oI_wm.out hgn (fun j hj he => by have hl := OwnG.lt oI_wm.out j hj; simp [Value.ownBlock] at he; omega))
    have acc_w11 := hidP (acc_wm.out.grown hgn acc_wm.out.size (fun j he => by simp [Value.ownBlock] at he; omega))
    have sz_w11 := hgn.size
    clear lp0_wm lp1_wm lpL_wm oS_wm oI_wm hgn om1 om2 acc_wm
    go_wp2_with fail
    refine (eqIntS_same a7 a4 N c7 c4 U w11 HN.out oI_w11.out.row oS_w11.out.row (by omega)).mono ?_
    rintro e w12 ⟨rfl, hb12⟩
    have lp0_w12 := (hb12.cell lpL_w11).trans lp0_w11
    have lp1_w12 := (hb12.cell lpL_w11).trans lp1_w11
    have lpL_w12 : w.heap.size < w12.heap.size := Nat.lt_of_lt_of_le lpL_w11 hb12.size
    have oS_w12 := hidP (OwnG.later oS_w11.out hb12)
    have oI_w12 := hidP (OwnG.later oI_w11.out hb12)
    have acc_w12 := hidP (acc_w11.out.trans (hb12.mono acc_w11.out.size))
    have sz_w12 := hb12.size
    clear lp0_w11 lp1_w11 lpL_w11 oS_w11 oI_w11 hb12 acc_w11
    go_wp2_with fail
    refine (markIntS_any a7 N c7 W6.heap.size U 1 w12 HN.out oI_w12.out (by omega) (by omega) (by omega)).mono ?_
    rintro e w13 ⟨rfl, om3, hg13⟩
    have hlI := fun j hj => OwnG.lt oI_w12.out j hj
    have lp0_w13 := (World.cell?_of_block (hg13.block (w.heap.size) lpL_w12 (fun he => by have hl := hlI _ he.symm; omega))).trans lp0_w12
    have lp1_w13 := (World.cell?_of_block (hg13.block (w.heap.size) lpL_w12 (fun he => by have hl := hlI _ he.symm; omega))).trans lp1_w12
    have lpL_w13 : w.heap.size < w13.heap.size := Nat.lt_of_lt_of_le lpL_w12 hg13.size
    have oS_w13 := hidP (OwnG.grown oS_w12.out hg13 (fun j hj he => by have hl := hSB.out j hj; have hl2 := hlI j he; omega))
    have acc_w13 := hidP (acc_w12.out.grown hg13 acc_w12.out.size (fun j he => by have hl := hlI j he; omega))
    have sz_w13 := hg13.size
    have oI_w13 := hidP om3
    clear lp0_w12 lp1_w12 lpL_w12 oS_w12 hg13 om3 acc_w12 hlI oI_w12
    go_wp2_with fail
    refine (heldIntS_any a7 c7 N 1 w13 oI_w13.out.row (by omega) (by omega) (by omega)).mono ?_
    rintro e w14 ⟨rfl, hb14⟩
    have lp0_w14 := (hb14.cell lpL_w13).trans lp0_w13
    have lp1_w14 := (hb14.cell lpL_w13).trans lp1_w13
    have lpL_w14 : w.heap.size < w14.heap.size := Nat.lt_of_lt_of_le lpL_w13 hb14.size
    have oS_w14 := hidP (OwnG.later oS_w13.out hb14)
    have oI_w14 := hidP (OwnG.later oI_w13.out hb14)
    have acc_w14 := hidP (acc_w13.out.trans (hb14.mono acc_w13.out.size))
    have sz_w14 := hb14.size
    clear lp0_w13 lp1_w13 lpL_w13 oS_w13 oI_w13 hb14 acc_w13
    go_wp2_with fail
    refine (HTo.out _ acc_w14.out).mono ?_
    rintro e w15 ⟨g5, h5, rfl, og5, oh5, gh5, hb15⟩
    have R5 := hidP (And.intro og5.row oh5.row)
    have lp0_w15 := (hb15.cell lpL_w14).trans lp0_w14
    have lp1_w15 := (hb15.cell lpL_w14).trans lp1_w14
    have lpL_w15 : w.heap.size < w15.heap.size := Nat.lt_of_lt_of_le lpL_w14 hb15.size
    have oS_w15 := hidP (OwnG.later oS_w14.out hb15)
    have oI_w15 := hidP (OwnG.later oI_w14.out hb15)
    have acc_w15 := hidP (acc_w14.out.trans (hb15.mono acc_w14.out.size))
    have sz_w15 := hb15.size
    clear lp0_w14 lp1_w14 lpL_w14 oS_w14 oI_w14 hb15 og5 oh5 gh5 acc_w14
    go_wp2_with fail
    refine (HIm.out _ g5 h5 R5.out.1 R5.out.2).mono ?_
    rintro e w16 ⟨a16, c16, rfl, o16, hb16⟩
    have R6 := hidP o16.row
    have lp0_w16 := (hb16.cell lpL_w15).trans lp0_w15
    have lp1_w16 := (hb16.cell lpL_w15).trans lp1_w15
    have lpL_w16 : w.heap.size < w16.heap.size := Nat.lt_of_lt_of_le lpL_w15 hb16.size
    have oS_w16 := hidP (OwnG.later oS_w15.out hb16)
    have oI_w16 := hidP (OwnG.later oI_w15.out hb16)
    have acc_w16 := hidP (acc_w15.out.trans (hb16.mono acc_w15.out.size))
    have sz_w16 := hb16.size
    clear lp0_w15 lp1_w15 lpL_w15 oS_w15 oI_w15 hb16 o16 R5 acc_w15
    go_wp2_with fail
    refine (eqIntS_same a16 a4 N c16 c4 U w16 HN.out R6.out oS_w16.out.row (by omega)).mono ?_
    rintro e w17 ⟨rfl, hb17⟩
    have lp0_w17 := (hb17.cell lpL_w16).trans lp0_w16
    have lp1_w17 := (hb17.cell lpL_w16).trans lp1_w16
    have lpL_w17 : w.heap.size < w17.heap.size := Nat.lt_of_lt_of_le lpL_w16 hb17.size
    have oS_w17 := hidP (OwnG.later oS_w16.out hb17)
    have oI_w17 := hidP (OwnG.later oI_w16.out hb17)
    have acc_w17 := hidP (acc_w16.out.trans (hb17.mono acc_w16.out.size))
    have sz_w17 := hb17.size
    clear lp0_w16 lp1_w16 lpL_w16 oS_w16 oI_w16 hb17 R6 acc_w16
    go_wp2_with fail
    refine (heldIntS_any a7 c7 N 1 w17 oI_w17.out.row (by omega) (by omega) (by omega)).mono ?_
    rintro e w18 ⟨rfl, hb18⟩
    have lp0_w18 := (hb18.cell lpL_w17).trans lp0_w17
    have lp1_w18 := (hb18.cell lpL_w17).trans lp1_w17
    have lpL_w18 : w.heap.size < w18.heap.size := Nat.lt_of_lt_of_le lpL_w17 hb18.size
    have oS_w18 := hidP (OwnG.later oS_w17.out hb18)
    have oI_w18 := hidP (OwnG.later oI_w17.out hb18)
    have acc_w18 := hidP (acc_w17.out.trans (hb18.mono acc_w17.out.size))
    have sz_w18 := hb18.size
    clear lp0_w17 lp1_w17 lpL_w17 oS_w17 oI_w17 hb18 acc_w17
    go_wp2_with fail
    go_ret
    exact ⟨rfl, acc_w18.out⟩
  · rw [szT_no ht] at HSz
    clear hP hK hnp hnb hst ht
    go_enter Try.func8, Try.ntmps8
    go_wp2_with fail
    refine (HSz.out _ (alloc_below w _)).mono ?_
    rintro e w2 ⟨rfl, hb2⟩
    go_wp2_with fail
    go_ret
    exact ⟨rfl, (alloc_below w _).trans (hb2.mono (alloc_below w _).size)⟩

set_option maxRecDepth 100000 in
theorem usage_lifted (os : Os) (started : os.Started) (H : Type) (enc : TypeId × Value → H) :
    ReturnsInHanded {} Try.checked os 8 .any (Rows.fnExactUsageSpec.pre6 enc Try.prog Try.f8 Rows.fnExactUsageRow.domain false) (Rows.fnExactUsageSpec.post enc Try.prog Try.f8 false true false false) := by
  refine returnsInHanded_of_change (C := Try.checked) Try.ownP started (by kernel_rfl) Try.func8
    (ChangeSpec.witness6 (enc := enc) (C := Try.checked) false ⟨#[], #[.agg #[.slice none 0 0, .slice none 0 0]], []⟩ 8 (by kernel_rfl) (by kernel_rfl) (by kernel_rfl) (by kernel_rfl)) ?_
  intro W base args ds gs before hval0 hW _ _
  have hval : ∀ (j : Nat) t v, Try.f8.params[j]? = some t → args[j]? = some v → Value.okWide Try.prog W .any base t v := hval0
  have hW' := hW
  obtain ⟨p, q, hA0, hV, rfl, _, _⟩ := hW
  have hA : DataW.TrodAll enc Try.prog W 0 (fun _ => true) true Try.f8.params.toList args.toList ds p := hA0
  rw [Try.params8] at hA hval
  obtain ⟨v0, d0, rfl, rfl, h0⟩ := trodAll_one hA
  obtain ⟨rfl, rfl⟩ := trodVars_none hV
  obtain ⟨ap, np, cp, ab, nb, cb, ps, bs, rfl, hnp, hnb, hP, hK, h9, h9', hst⟩ := openPlan (hval 0 26 v0 rfl rfl) h0
  clear hA0 hval0
  simp only [List.append_nil] at hW'
  have hlt : ∀ x ∈ p, x.block < W.heap.size := fun x hx => by simpa using hW'.lt x hx
  refine (lawUsage ap np cp ab nb cb ps bs W hnp hnb hP hK h9 h9' hst).mono fun e W' ⟨he, hb⟩ => ?_
  subst he
  exact ⟨_, rfl, ⟨_, _, _, [], p, [], hW', trodAll_mk1 (shut_bool Try.underlying4 true), trodAll_mk1 (Below.trod Try.laidOutP (by kernel_rfl) (of_decide_eq_true (by kernel_rfl)) h0 hb hlt), rfl, hb.frame _, fun h => by cases h⟩⟩

theorem usage_holds : Rows.FnExactUsageSaid :=
  OpenClaim.holds_of_wide 8 Try.f8 rfl rfl rfl rfl rfl rfl rfl ⟨rfl, rfl, rfl, rfl, rfl⟩ rfl rfl rfl rfl rfl (by kernel_rfl) Try.func8 (by kernel_rfl)
    (of_decide_eq_true (by kernel_rfl)) (by unfold Func.isWrapper; rw [if_neg (of_decide_eq_false (by kernel_rfl))]; exact ⟨rfl, rfl⟩)
    (fun os started H enc _ => usage_lifted os started H enc)


end Go.Proofs.Ythbpehpnikknlaa
