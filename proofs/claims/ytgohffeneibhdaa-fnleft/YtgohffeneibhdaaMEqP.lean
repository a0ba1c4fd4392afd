/-
  The laws' eqAddr of two that are alike is true; nothing old in memory turns.
-/
import Derived.Test.YtgohffeneibhdaaAOk
import Derived.Deep.RegionWith
import Derived.Deep.DeepCutAuto
import Derived.Test.YtgohffeneibhdaaPTo
namespace Go.Proofs.Ytgohffeneibhdaa
open Go.RowKit

set_option maxHeartbeats 1000000 in
theorem eqA_same (s : Bool) (h l : Int) (w : World) :
    Calls Try.prog 78 #[.agg #[.bool s, .int .i64 h, .int .i64 l], .agg #[.bool s, .int .i64 h, .int .i64 l]] w fun e w' => e = .returned (.bool true) ∧ Below w.heap.size w w' := by
  go_enter Try.func78, Try.ntmps78
  go_wp2
  go_ret
  refine ⟨rfl, ?_⟩
  repeat (first | with_reducible exact Below.refl _ _ | (with_reducible refine Below.drew ?_) | (with_reducible refine Below.alloc ?_ ?_ _; rotate_left; (focus (first | omega | (simp; omega) | (simp; done)))) | (with_reducible refine Below.setCell ?_ ?_ _; rotate_left; (focus (first | omega | (simp; omega) | (simp; done)))))

end Go.Proofs.Ytgohffeneibhdaa

namespace Go.Proofs.Ytgohffeneibhdaa
open Go.RowKit

set_option maxHeartbeats 1000000 in
theorem eqP_same (s : Bool) (h l b : Int) (w : World) :
    Calls Try.prog 53 #[.agg #[.bool s, .int .i64 h, .int .i64 l, .int .i64 b], .agg #[.bool s, .int .i64 h, .int .i64 l, .int .i64 b]] w fun e w' => e = .returned (.bool true) ∧ Below w.heap.size w w' := by
  go_enter Try.func53, Try.ntmps53
  go_wp2_with fail
  refine (eqA_same s h l _).mono ?_
  rintro e w1 ⟨rfl, hb1⟩
  have hz1 := hb1.size
  try simp at hz1
  have f10 : w.heap.size < w1.heap.size := by omega
  have f11 : w.heap.size + 1 < w1.heap.size := by omega
  refine olds_k (w.heap.size + 2) hb1 ?_ ?_
  · first | omega | (simp; omega) | (simp; done)
  intro hc1 hf1
  go_wp2_with fail
  go_ret
  refine ⟨rfl, ?_⟩
  repeat (first | with_reducible exact Below.refl _ _ | (with_reducible refine Below.drew ?_) | (with_reducible refine Below.alloc ?_ ?_ _; rotate_left; (focus (first | omega | (simp; omega) | (simp; done)))) | (with_reducible refine Below.setCell ?_ ?_ _; rotate_left; (focus (first | omega | (simp; omega) | (simp; done)))) | (with_reducible refine Below.trans ?_ (hb1.mono ?_); rotate_left; (focus (first | omega | (simp; omega) | (simp; done)))))

end Go.Proofs.Ytgohffeneibhdaa

namespace Go.Proofs.Ytgohffeneibhdaa
open Go.RowKit

set_option maxHeartbeats 1000000 in
theorem eqPrefixS_same (a b : Option Addr) (c d : Nat) (ps : List Pf) (w : World) (ha : Row w a ps) (hb : Row w b ps) (hl : ps.length ≤ 9000000000) :
    Calls Try.prog 19 #[.slice a ps.length c, .slice b ps.length d] w fun e w' => e = .returned (.bool true) ∧ Below w.heap.size w w' := by
  obtain ⟨n, hn⟩ : ∃ n, n = ps.length := ⟨_, rfl⟩
  rw [← hn] at hl ⊢
  have HA := hidP ha
  have HB := hidP hb
  have HN := hidP hn
  clear ha hb hn
  go_enter Try.func19, Try.ntmps19
  go_wp2
  go_loopw [5] (fun t5 wr => ∃ k : Nat, k ≤ n ∧ t5 = .int .i64 k ∧ Below w.heap.size w wr) (fun t5 _ => n - (intOf t5).toNat)
  case atStart => exact ⟨0, Nat.zero_le _, rfl, Below.refl _ _⟩
  case round =>
    obtain ⟨k, hk, rfl, hbel⟩ := hrel
    have HW := hidP hbel
    by_cases hlt : k < n
    · obtain ⟨p, o, q, rfl, hp, hq, c0, c1, c2, c3⟩ := HA.out k (by rw [← HN.out]; exact hlt)
      obtain ⟨p', o', q', rfl, hp', hq', d0, d1, d2, d3⟩ := HB.out k (by rw [← HN.out]; exact hlt)
      rw [hq] at hq'
      cases hq'
      have c0' := (hbel.cell hp).trans c0
      have c1' := (hbel.cell hp).trans c1
      have c2' := (hbel.cell hp).trans c2
      have c3' := (hbel.cell hp).trans c3
      have d0' := (hbel.cell hp').trans d0
      have d1' := (hbel.cell hp').trans d1
      have d2' := (hbel.cell hp').trans d2
      have d3' := (hbel.cell hp').trans d3
      clear c0 c1 c2 c3 d0 d1 d2 d3 hq hbel
      go_wp2_with fail
      go_region_with (first | (go_at_call 53; refine (eqP_same q.s q.H.toInt q.L.toInt q.b _).mono ?_; rintro e w2 ⟨rfl, hb2⟩))
      all_goals
        have HW2 := hidP (HW.out.drew.trans (hb2.mono HW.out.drew.size))
        clear hb2
        go_wp2
        go_roundw
        case rel => exact ⟨k + 1, by omega, by go_num, HW2.out⟩
        case measure => simp [intOf]; omega
    · have hkn : k = n := by omega
      subst hkn
      clear hbel
      go_wp2
      go_ret
      exact ⟨rfl, HW.out⟩

/-- The marks of the j-th prefix. -/
def mkP (k : Int) (j : Nat) : Pf := ⟨(k + 4 * (j : Int)) % 3 == 0, BitVec.ofInt 64 (k + 4 * (j : Int) + 1), BitVec.ofInt 64 (k + 4 * (j : Int) + 1 + 1), k + 4 * (j : Int) + 1 + 1 + 1⟩
def mksP (k : Int) (n : Nat) : List Pf := (List.range n).map (mkP k)
theorem mksP_len (k : Int) (n : Nat) : (mksP k n).length = n := by simp [mksP]
theorem mksP_at (k : Int) (n j : Nat) (h : j < n) : (mksP k n)[j]? = some (mkP k j) := by simp [mksP, h]
theorem mksP_step (k : Int) (n i : Nat) (ps : List Pf) (hl : ps.length = n) (hi : i < n) : (mksP k i ++ ps.drop i).set i (mkP k i) = mksP k (i + 1) ++ ps.drop (i + 1) := by
  have e : mksP k (i + 1) = mksP k i ++ [mkP k i] := by simp [mksP, List.range_succ]
  have hd : ps.drop i = ps[i] :: ps.drop (i + 1) := List.drop_eq_getElem_cons (by omega)
  rw [e, hd, List.set_append_right _ _ (by simp [mksP])]
  have e0 : i - (mksP k i).length = 0 := by rw [mksP_len]; omega
  rw [e0, List.set_cons_zero, List.append_assoc]
  rfl
theorem toI64 (x : Int) (h0 : 0 ≤ x) (h1 : x ≤ 90000000000) : (BitVec.ofInt 64 x).toInt = x := by
  rw [BitVec.toInt_ofInt, Int.bmod_def]
  split <;> omega

theorem grown_cell (w : World) (g o : Nat) (v : Value) : w.grownBy (w.setCell ⟨g, o, none⟩ v) (some g) :=
  ⟨rfl, rfl, rfl, by simp, fun k _ hk => heap_setCell_other w ⟨g, o, none⟩ k v (fun e => hk (by simp [e]))⟩

set_option maxHeartbeats 1000000 in
theorem markPrefixS_any (a : Option Addr) (cap B : Nat) (ps : List Pf) (k : Int) (w : World) (h : OwnR 31 w B (.slice a ps.length cap) ps) (hl : ps.length ≤ 9000000000) (k0 : 0 ≤ k) (k1 : k ≤ 9000000000) :
    Calls Try.prog 20 #[.slice a ps.length cap, .int .i64 k] w fun e w' => e = .returned (.int .i64 (k + 4 * ps.length)) ∧ OwnR 31 w' B (.slice a ps.length cap) (mksP k ps.length) ∧ w.grownBy w' (Value.slice a ps.length cap).ownBlock := by
  obtain ⟨n, hn⟩ : ∃ n, n = ps.length := ⟨_, rfl⟩
  rw [← hn]
  rw [← hn] at hl h
  have hn' : ps.length = n := hn.symm
  clear hn
  by_cases h0 : n = 0
  · subst h0
    have HO := hidP h
    have HZ : Hid (ps = []) := List.length_eq_zero_iff.1 hn'
    clear h hn'
    go_enter Try.func20, Try.ntmps20
    go_wp2
    refine wp_loop_rounds 1 ?_
    rw [rounds_succ]
    go_wp2
    go_ret
    refine ⟨by simp, ?_, World.grownBy.refl _ _⟩
    have := HO.out; rw [HZ.out] at this; simpa [mksP] using this
  · obtain ⟨g, rfl⟩ : ∃ g, a = some ⟨g, 0, none⟩ := by
      rcases h.2 with ⟨hv, _⟩ | ⟨g, cap', cur, hv, _⟩
      · simp at hv; omega
      · simp at hv; exact ⟨g, hv.1⟩
    have HO : Hid (OwnR 31 w B (.slice (some ⟨g, 0, none⟩) n cap) (mksP k 0 ++ ps.drop 0)) := by
      refine hidP ?_; simpa [mksP] using h
    have HN : Hid (ps.length = n) := hn'
    clear h hn'
    go_enter Try.func20, Try.ntmps20
    go_wp2
    go_loopw [1, 5] (fun t1 t5 wr => ∃ i : Nat, i ≤ n ∧ t5 = .int .i64 i ∧ t1 = .int .i64 (k + 4 * i) ∧ OwnR 31 wr B (.slice (some ⟨g, 0, none⟩) n cap) (mksP k i ++ ps.drop i) ∧ w.grownBy wr (some g)) (fun _ t5 _ => n - (intOf t5).toNat)
    case atStart => exact ⟨0, Nat.zero_le _, rfl, by simp, HO.out, World.grownBy.refl _ _⟩
    case round =>
      obtain ⟨i, hi, rfl, rfl, hown, hgr⟩ := hrel
      have hlen : n = (mksP k i ++ ps.drop i).length := by rw [List.length_append, mksP_len, List.length_drop, HN.out]; omega
      by_cases hlt : i < n
      · obtain ⟨⟨f0, f1, f2, f3⟩, hput⟩ := hown.put hlen i hlt
        have hput' := hput (mkP k i)
        rw [mksP_step k n i ps HN.out hlt] at hput'
        have e1 : (mkP k i).H.toInt = k + 4 * (i : Int) + 1 := toI64 _ (by omega) (by omega)
        have e2 : (mkP k i).L.toInt = k + 4 * (i : Int) + 1 + 1 := toI64 _ (by omega) (by omega)
        have e3 : (mkP k i).b = k + 4 * (i : Int) + 1 + 1 + 1 := rfl
        have e0 : (mkP k i).s = ((k + 4 * (i : Int)) % 3 == 0) := rfl
        rw [e0, e1, e2, e3] at hput'
        clear e0 e1 e2 e3
        obtain ⟨p', o', q', e', hp', _, e0, e1, e2, e3⟩ := hown.row i (by rw [← hlen]; exact hlt)
        simp only [Option.some.injEq, Addr.mk.injEq, and_true] at e'
        obtain ⟨rfl, rfl⟩ := e'
        rw [Nat.zero_add] at e0 e1 e2 e3
        have HS := hidP hput'
        have HG := hidP hgr
        clear hown hgr HO hput hput' hlen
        go_wp2_with fail
        go_roundw
        case rel => exact ⟨i + 1, by omega, by go_num, by go_num, HS.out, (((HG.out.trans (grown_cell _ g _ _)).trans (grown_cell _ g _ _)).trans (grown_cell _ g _ _)).trans (grown_cell _ g _ _)⟩
        case measure => simp [intOf]; omega
      · have hin : i = n := by omega
        subst hin
        have HS : Hid (OwnR 31 wr B (.slice (some ⟨g, 0, none⟩) i cap) (mksP k i)) := by
          rw [List.drop_of_length_le (by rw [HN.out]; exact Nat.le_refl _), List.append_nil] at hown
          exact hidP hown
        have HG := hidP hgr
        clear hown hgr HO hlen
        go_wp2
        go_ret
        exact ⟨rfl, HS.out, HG.out⟩

set_option maxHeartbeats 1000000 in
theorem heldPrefixS_any (a : Option Addr) (cap n : Nat) (k : Int) (w : World) (h : Row w a (mksP k n)) (hl : n ≤ 9000000000) (k0 : 0 ≤ k) (k1 : k ≤ 9000000000) :
    Calls Try.prog 21 #[.slice a n cap, .int .i64 k] w fun e w' => e = .returned (.int .i64 (k + 4 * n)) ∧ Below w.heap.size w w' := by
  have HB := hidP h
  clear h
  go_enter Try.func21, Try.ntmps21
  go_wp2
  go_loop [1, 5] (fun t1 t5 => ∃ i : Nat, i ≤ n ∧ t5 = .int .i64 i ∧ t1 = .int .i64 (k + 4 * i)) (fun _ t5 => n - (intOf t5).toNat)
  case atStart => exact ⟨0, Nat.zero_le _, rfl, by simp⟩
  case round =>
    obtain ⟨i, hi, rfl, rfl⟩ := hrel
    by_cases hlt : i < n
    · obtain ⟨p, o, q, rfl, hp, hq, c0, c1, c2, c3⟩ := HB.out i (by rw [mksP_len]; exact hlt)
      rw [mksP_at k n i hlt] at hq
      cases hq
      have e1 : (mkP k i).H.toInt = k + 4 * (i : Int) + 1 := toI64 _ (by omega) (by omega)
      have e2 : (mkP k i).L.toInt = k + 4 * (i : Int) + 1 + 1 := toI64 _ (by omega) (by omega)
      have e3 : (mkP k i).b = k + 4 * (i : Int) + 1 + 1 + 1 := rfl
      have e0 : (mkP k i).s = ((k + 4 * (i : Int)) % 3 == 0) := rfl
      rw [e0] at c0
      rw [e1] at c1
      rw [e2] at c2
      rw [e3] at c3
      clear e0 e1 e2 e3
      go_wp2
      go_round
      case rel => exact ⟨i + 1, by omega, by go_num, by go_num⟩
      case measure => simp [intOf]; omega
    · have hin : i = n := by omega
      subst hin
      go_wp2
      go_ret
      exact ⟨rfl, Below.refl _ _⟩

end Go.Proofs.Ytgohffeneibhdaa
