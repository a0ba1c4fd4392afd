/-
  The program's CmpAddr and CmpPrefix once more, with one word more: what the walk draws is only counted on.
-/
import Derived.Test.YtmbmekcppmbokaaGreatKCmp
import Derived.Test.YtmbmekcppmbokaaGreatRBlock
import Derived.Maps.OwnSet
import Derived.DeepKeys4
import Derived.Test.YtmbmekcppmbokaaGreatVPool
import Derived.RangeFuncNested
import Derived.RangeFuncBound
import Derived.RangeFuncCalls
import Derived.RangeFuncLeaves
import Derived.Shelf.Abstract
import Derived.Shelf.RegionOpen
import Derived.WalkKit
import Derived.OwnWalkIn
import Derived.TacticsInMore
import Derived.LoopNIn
import Derived.LoopIn
import Derived.Sort.MapsRangeIn
import Derived.Sort.KeysCollected
import Derived.Shelf.SlSortCmp.WholeK
import Derived.Test.YtmbmekcppmbokaaGreatProg
import Derived.Test.YtmbmekcppmbokaaGreatKMath
import Derived.Lib.QuietBelow
import Derived.Shelf.SlSortCmp.NoneTotal
namespace Go.Proofs.YtmbmekcppmbokaaGreat.Mn
open Go.RowKit

/-- Nothing old has turned, and draws are only counted on. -/
structure Below (B : Nat) (w w' : World) : Prop where
  b : Go.RowKit.Below B w w'
  d : w.drawn ≤ w'.drawn
theorem Below.refl (B : Nat) (w : World) : Below B w w := ⟨Go.RowKit.Below.refl _ _, Nat.le_refl _⟩
theorem Below.trans {B : Nat} {a b c : World} (h : Below B a b) (k : Below B b c) : Below B a c := ⟨h.b.trans k.b, Nat.le_trans h.d k.d⟩
theorem Below.mono {B B' : Nat} {w w' : World} (h : Below B w w') (hB : B' ≤ B) : Below B' w w' := ⟨h.b.mono hB, h.d⟩
theorem Below.drew {B : Nat} {a w : World} (h : Below B a w) : Below B a w.drew := ⟨h.b.drew, Nat.le_trans h.d (Nat.le_succ _)⟩
theorem Below.alloc {B : Nat} {a w : World} (h : Below B a w) (hB : B ≤ w.heap.size) (o : Obj) : Below B a (w.alloc o) := ⟨h.b.alloc hB o, h.d⟩
theorem Below.setCell {B : Nat} {a w : World} (h : Below B a w) {p : Addr} (hp : B ≤ p.block) (u : Value) : Below B a (w.setCell p u) := ⟨h.b.setCell hp u, h.d⟩
theorem Below.cell {B : Nat} {w w' : World} (h : Below B w w') {p : Addr} (hp : p.block < B) : w'.cell? p = w.cell? p := h.b.cell hp
theorem Below.frozen {B : Nat} {w w' : World} (h : Below B w w') {p : Addr} (hp : p.block < B) : w'.frozen? p = w.frozen? p := h.b.frozen hp
theorem Below.size {B : Nat} {w w' : World} (h : Below B w w') : w.heap.size ≤ w'.heap.size := h.b.size
theorem below_drewN {B : Nat} {a w : World} (h : Below B a w) (n : Nat) : Below B a (w.drewN n) := ⟨Go.RowKit.Below.mk h.b.os h.b.tape h.b.output h.b.size h.b.block, Nat.le_trans h.d (Nat.le_add_right _ _)⟩
theorem olds {W w1 : World} {n : Nat} (hb : Below n W w1) :
    (∀ b o, b < n → w1.cell? ⟨b, o, none⟩ = W.cell? ⟨b, o, none⟩) ∧ (∀ b o, b < n → w1.frozen? ⟨b, o, none⟩ = W.frozen? ⟨b, o, none⟩) :=
  ⟨fun _ _ h => hb.cell h, fun _ _ h => hb.frozen h⟩
theorem olds_k {K : Prop} {W w1 : World} {B : Nat} (n : Nat) (hb : Below B W w1) (hn : n ≤ B)
    (k : (∀ b o, b < n → w1.cell? ⟨b, o, none⟩ = W.cell? ⟨b, o, none⟩) → (∀ b o, b < n → w1.frozen? ⟨b, o, none⟩ = W.frozen? ⟨b, o, none⟩) → K) : K :=
  k (olds (hb.mono hn)).1 (olds (hb.mono hn)).2

set_option maxHeartbeats 400000 in
theorem iAddrOk_any (s : Bool) (h l : Int) (w : World) :
    Calls Tryz.prog 84 #[.agg #[.bool s, .int .i64 h, .int .i64 l]] w fun e w' => e = .returned (.bool (okB s h l)) ∧ Below w.heap.size w w' := by
  cases s
  · by_cases hh : h = 0
    · subst hh
      by_cases h0 : 0 ≤ l
      · by_cases h1 : l ≤ 4294967295
        · rw [okB_yes l h0 h1]
          go_enter Tryz.func84, Tryz.ntmps84
          go_wp2
          go_ret
          exact ⟨rfl, (Below.refl _ _).alloc (Nat.le_refl _) _⟩
        · rw [okB_hi l h1]
          go_enter Tryz.func84, Tryz.ntmps84
          go_wp2
          go_ret
          exact ⟨rfl, (Below.refl _ _).alloc (Nat.le_refl _) _⟩
      · rw [okB_lo l h0]
        go_enter Tryz.func84, Tryz.ntmps84
        go_wp2
        go_ret
        exact ⟨rfl, (Below.refl _ _).alloc (Nat.le_refl _) _⟩
    · have hb : (h == 0) = false := by simp [hh]
      rw [okB_h h l hb]
      clear hh
      go_enter Tryz.func84, Tryz.ntmps84
      go_wp2
      go_ret
      exact ⟨rfl, (Below.refl _ _).alloc (Nat.le_refl _) _⟩
  · rw [okB_t]
    go_enter Tryz.func84, Tryz.ntmps84
    go_wp2
    go_ret
    exact ⟨rfl, (Below.refl _ _).alloc (Nat.le_refl _) _⟩

set_option maxHeartbeats 400000 in
theorem addrOrZero_any (s : Bool) (h l : Int) (S : Bool) (H L : Int) (hz : Nrm s h l S H L) (w : World) :
    Calls Tryz.prog 131 #[.agg #[.bool s, .int .i64 h, .int .i64 l]] w fun e w' => e = .returned (.agg #[.bool S, .int .i64 H, .int .i64 L]) ∧ Below w.heap.size w w' := by
  rcases hz with ⟨ok, rfl, rfl, rfl⟩ | ⟨ok, rfl, rfl, rfl⟩
  · have HK : Hid (okB S H L = true) := ok
    clear ok
    go_enter Tryz.func131, Tryz.ntmps131
    go_wp2_with fail
    refine (iAddrOk_any S H L _).mono ?_
    rw [HK.out]
    rintro e w1 ⟨rfl, hb⟩
    obtain ⟨hc, hf⟩ := olds (n := w.heap.size + 2) (hb.mono (by simp))
    have hz := hb.size
    simp at hz
    go_wp2
    exact bodyPost_ret (v := .agg #[.bool S, .int .i64 H, .int .i64 L]) (by simp [results, Tryz.results131, go_sem, hc]) rfl ⟨rfl, (((((Below.refl _ w).alloc (Nat.le_refl _) _).alloc (by simp) _).trans (hb.mono (by simp; omega))).setCell (by simp) _).setCell (by simp) _ |>.setCell (by simp) _⟩
  · have HK : Hid (okB s h l = false) := ok
    clear ok
    go_enter Tryz.func131, Tryz.ntmps131
    go_wp2_with fail
    refine (iAddrOk_any s h l _).mono ?_
    rw [HK.out]
    rintro e w1 ⟨rfl, hb⟩
    obtain ⟨hc, hf⟩ := olds (n := w.heap.size + 2) (hb.mono (by simp))
    have hz := hb.size
    simp at hz
    go_wp2
    exact bodyPost_ret (v := .agg #[.bool false, .int .i64 0, .int .i64 0]) (by simp [results, Tryz.results131, go_sem, hc]) rfl ⟨rfl, (((((Below.refl _ w).alloc (Nat.le_refl _) _).alloc (by simp) _).trans (hb.mono (by simp; omega))).setCell (by simp) _).setCell (by simp) _ |>.setCell (by simp) _⟩

set_option maxHeartbeats 400000 in
theorem rankOf_any (s : Bool) (h l : Int) (S : Bool) (H L r0 r1 r2 : Int) (hz : Nrm s h l S H L) (hr : Rank S H L r0 r1 r2) (w : World) :
    Calls Tryz.prog 122 #[.agg #[.bool s, .int .i64 h, .int .i64 l]] w fun e w' => e = .returned (.agg #[.int .u64 r0, .int .u64 r1, .int .u64 r2]) ∧ Below w.heap.size w w' := by
  rcases hr with ⟨rfl, rfl, rfl, rfl⟩ | ⟨rfl, rfl, rfl, rfl⟩
  all_goals
    go_enter Tryz.func122, Tryz.ntmps122
    go_wp2_with fail
    refine (addrOrZero_any _ _ _ _ _ _ hz _).mono ?_
    rintro e w1 ⟨rfl, hb⟩
    obtain ⟨hc, hf⟩ := olds (n := w.heap.size + 2) (hb.mono (by simp))
    have hz := hb.size
    simp at hz
    go_wp2
  · generalize IntKind.u64.wrap H = r1
    generalize IntKind.u64.wrap L = r2
    refine bodyPost_ret (v := .agg #[.int .u64 1, .int .u64 r1, .int .u64 r2]) (by simp [results, Tryz.results122, go_sem, hc]) rfl ⟨rfl, ?_⟩
    have b1 : Below w.heap.size w w1 := (((Below.refl _ w).alloc (Nat.le_refl _) _).alloc (by simp) _).trans (hb.mono (by simp; omega))
    exact (((((b1.setCell (by simp) _).setCell (by simp) _).setCell (by simp) _).setCell (by simp) _).setCell (by simp) _).setCell (by simp) _
  · generalize IntKind.u64.wrap L = r2
    refine bodyPost_ret (v := .agg #[.int .u64 0, .int .u64 0, .int .u64 r2]) (by simp [results, Tryz.results122, go_sem, hc]) rfl ⟨rfl, ?_⟩
    have b1 : Below w.heap.size w w1 := (((Below.refl _ w).alloc (Nat.le_refl _) _).alloc (by simp) _).trans (hb.mono (by simp; omega))
    exact (((((b1.setCell (by simp) _).setCell (by simp) _).setCell (by simp) _).setCell (by simp) _).setCell (by simp) _).setCell (by simp) _

theorem six_of_below {W X : World} {n b c : Nat} {v0 v1 v2 u0 u1 u2 : Value} (hB : Below n W X) (hb : b < n) (hc : c < n)
    (k : W.cell? ⟨b, 0, none⟩ = some v0 ∧ W.cell? ⟨b, 1, none⟩ = some v1 ∧ W.cell? ⟨b, 2, none⟩ = some v2 ∧ W.cell? ⟨c, 0, none⟩ = some u0 ∧ W.cell? ⟨c, 1, none⟩ = some u1 ∧ W.cell? ⟨c, 2, none⟩ = some u2) :
    X.cell? ⟨b, 0, none⟩ = some v0 ∧ X.cell? ⟨b, 1, none⟩ = some v1 ∧ X.cell? ⟨b, 2, none⟩ = some v2 ∧ X.cell? ⟨c, 0, none⟩ = some u0 ∧ X.cell? ⟨c, 1, none⟩ = some u1 ∧ X.cell? ⟨c, 2, none⟩ = some u2 := by
  obtain ⟨k0, k1, k2, k3, k4, k5⟩ := k
  exact ⟨(hB.cell hb).trans k0, (hB.cell hb).trans k1, (hB.cell hb).trans k2, (hB.cell hc).trans k3, (hB.cell hc).trans k4, (hB.cell hc).trans k5⟩

set_option maxHeartbeats 8000000 in
theorem iCmp_ne (s : Bool) (h l : Int) (s' : Bool) (h' l' : Int) (S : Bool) (H L : Int) (S' : Bool) (H' L' : Int) (r0 r1 r2 q0 q1 q2 : Int)
    (hz : Nrm s h l S H L) (hr : Rank S H L r0 r1 r2) (hz' : Nrm s' h' l' S' H' L') (hr' : Rank S' H' L' q0 q1 q2) (w : World) :
    Calls Tryz.prog 106 #[.agg #[.bool s, .int .i64 h, .int .i64 l], .agg #[.bool s', .int .i64 h', .int .i64 l']] w fun e w' => e = .returned (.int .i64 (cmp3 r0 r1 r2 q0 q1 q2)) ∧ Below w.heap.size w w' := by
  go_enter Tryz.func106, Tryz.ntmps106
  go_upto_region 1 with fail
  go_cut [5, 6] (fun t5 t6 wc => ∃ p q : Nat, t5 = .pointer (some ⟨p, 0, none⟩) ∧ t6 = .pointer (some ⟨q, 0, none⟩)
    ∧ (wc.cell? ⟨p, 0, none⟩ = some (.int .u64 r0) ∧ wc.cell? ⟨p, 1, none⟩ = some (.int .u64 r1) ∧ wc.cell? ⟨p, 2, none⟩ = some (.int .u64 r2))
    ∧ (wc.cell? ⟨q, 0, none⟩ = some (.int .u64 q0) ∧ wc.cell? ⟨q, 1, none⟩ = some (.int .u64 q1) ∧ wc.cell? ⟨q, 2, none⟩ = some (.int .u64 q2))
    ∧ Below w.heap.size w wc)
  case first =>
    go_region_held3 (fun x => x.cell? ⟨w.heap.size, 0, none⟩ = some (.bool s) ∧ x.cell? ⟨w.heap.size, 1, none⟩ = some (.int .i64 h) ∧ x.cell? ⟨w.heap.size, 2, none⟩ = some (.int .i64 l)
        ∧ x.cell? ⟨w.heap.size + 1, 0, none⟩ = some (.bool s') ∧ x.cell? ⟨w.heap.size + 1, 1, none⟩ = some (.int .i64 h') ∧ x.cell? ⟨w.heap.size + 1, 2, none⟩ = some (.int .i64 l')) ((refine six_of_below (W := (w.alloc (.cells #[.bool s, .int .i64 h, .int .i64 l] 35)).alloc (.cells #[.bool s', .int .i64 h', .int .i64 l'] 35)) (n := w.heap.size + 2) ?_ (Nat.lt_add_of_pos_right (Nat.succ_pos _)) (Nat.lt_succ_self _) ⟨by simp [go_sem], by simp [go_sem], by simp [go_sem], by simp [go_sem], by simp [go_sem], by simp [go_sem]⟩; repeat (first | with_reducible exact Below.refl _ _ | (with_reducible refine Below.drew ?_) | (with_reducible refine Below.alloc ?_ ?_ _; rotate_left; (focus (first | omega | (simp; omega) | (simp; done)))) | (with_reducible refine Below.setCell ?_ ?_ _; rotate_left; (focus (first | omega | (simp; omega) | (simp; done)))) | (with_reducible refine Below.trans ?_ (hb2.mono ?_); rotate_left; (focus (first | omega | (simp; omega) | (simp; done)))) | (with_reducible refine Below.trans ?_ (hb1.mono ?_); rotate_left; (focus (first | omega | (simp; omega) | (simp; done)))))))
      (first
        | (go_at_call_of 122 (Value.int .i64 h); refine (rankOf_any s h l S H L r0 r1 r2 hz hr _).mono ?_; rintro e w1 ⟨rfl, hb1⟩; have hz1 := hb1.size; (try simp at hz1); (first | (refine ltk (w.heap.size) (w1.heap.size) ?_ ?_; (focus omega); intro f0) | skip); (first | (refine ltk (w.heap.size + 1) (w1.heap.size) ?_ ?_; (focus omega); intro f1) | skip); (first | (refine ltk (w.heap.size + 2) (w1.heap.size) ?_ ?_; (focus omega); intro f2) | skip); (first | (refine ltk (w.heap.size + 3) (w1.heap.size) ?_ ?_; (focus omega); intro f3) | skip); (first | (refine olds_k (w.heap.size + 4) hb1 ?_ ?_; (focus (first | omega | (simp; omega) | (simp; done))); intro hc1 hf1) | (refine olds_k (w.heap.size + 3) hb1 ?_ ?_; (focus (first | omega | (simp; omega) | (simp; done))); intro hc1 hf1) | (refine olds_k (w.heap.size + 2) hb1 ?_ ?_; (focus (first | omega | (simp; omega) | (simp; done))); intro hc1 hf1)))
        | (go_at_call_of 122 (Value.int .i64 h'); refine (rankOf_any s' h' l' S' H' L' q0 q1 q2 hz' hr' _).mono ?_; rintro e w2 ⟨rfl, hb2⟩; have hz2 := hb2.size; (try simp at hz2); (first | (refine ltk (w.heap.size) (w2.heap.size) ?_ ?_; (focus omega); intro g0) | skip); (first | (refine ltk (w.heap.size + 1) (w2.heap.size) ?_ ?_; (focus omega); intro g1) | skip); (first | (refine ltk (w.heap.size + 2) (w2.heap.size) ?_ ?_; (focus omega); intro g2) | skip); (first | (refine ltk (w.heap.size + 3) (w2.heap.size) ?_ ?_; (focus omega); intro g3) | skip); (first | (refine ltk (w1.heap.size) (w2.heap.size) ?_ ?_; (focus omega); intro k0) | skip); (first | (refine ltk (w1.heap.size + 1) (w2.heap.size) ?_ ?_; (focus omega); intro k1) | skip); (first | (refine olds_k (w.heap.size + 4) hb2 ?_ ?_; (focus (first | omega | (simp; omega) | (simp; done))); intro hc2 hf2) | (refine olds_k (w.heap.size + 3) hb2 ?_ ?_; (focus (first | omega | (simp; omega) | (simp; done))); intro hc2 hf2) | (refine olds_k (w.heap.size + 2) hb2 ?_ ?_; (focus (first | omega | (simp; omega) | (simp; done))); intro hc2 hf2)); (first | (refine olds_k (w1.heap.size + 2) hb2 ?_ ?_; (focus (first | omega | (simp; omega) | (simp; done))); intro hc3 hf3) | (refine olds_k (w1.heap.size + 1) hb2 ?_ ?_; (focus (first | omega | (simp; omega) | (simp; done))); intro hc3 hf3) | (refine olds_k (w1.heap.size) hb2 ?_ ?_; (focus (first | omega | (simp; omega) | (simp; done))); intro hc3 hf3))))
    all_goals
      go_wp2_with fail
      go_meet
      refine ⟨_, _, rfl, rfl, ⟨?_, ?_, ?_⟩, ⟨?_, ?_, ?_⟩, ?_⟩
      all_goals try (go_simp; done)
      repeat (first | with_reducible exact Below.refl _ _ | (with_reducible refine Below.drew ?_) | (with_reducible refine Below.alloc ?_ ?_ _; rotate_left; (focus (first | omega | (simp; omega) | (simp; done)))) | (with_reducible refine Below.setCell ?_ ?_ _; rotate_left; (focus (first | omega | (simp; omega) | (simp; done)))) | (with_reducible refine Below.trans ?_ (hb2.mono ?_); rotate_left; (focus (first | omega | (simp; omega) | (simp; done)))) | (with_reducible refine Below.trans ?_ (hb1.mono ?_); rotate_left; (focus (first | omega | (simp; omega) | (simp; done)))))
  case rest =>
    obtain ⟨p, q, rfl, rfl, ⟨x0, x1, x2⟩, ⟨y0, y1, y2⟩, hb⟩ := hcut
    cases hE : (r0 == q0 && (r1 == q1 && r2 == q2))
    · have hq : ∀ wx, (Op.equalIn 10000 157 (.agg #[.int .u64 r0, .int .u64 r1, .int .u64 r2]) (.agg #[.int .u64 q0, .int .u64 q1, .int .u64 q2])).run Tryz.prog wx = .ok false wx := fun wx => by rw [eqArr, hE]
      clear hE
      go_wp2_with fail
      go_quiet ((go_at_call 123; exact Calls.quiet_of_same (slCompare_any r0 r1 r2 q0 q1 q2 p q _ x0 x1 x2 y0 y1 y2)))
      go_wp2
      go_ret
      exact ⟨rfl, below_drewN hb _⟩
    · have hq : ∀ wx, (Op.equalIn 10000 157 (.agg #[.int .u64 r0, .int .u64 r1, .int .u64 r2]) (.agg #[.int .u64 q0, .int .u64 q1, .int .u64 q2])).run Tryz.prog wx = .ok true wx := fun wx => by rw [eqArr, hE]
      have HZ : Hid (cmp3 r0 r1 r2 q0 q1 q2 = 0) := cmp3_same hE
      clear hE
      go_wp2
      go_ret
      exact ⟨ret_int HZ.out.symm, hb⟩

theorem eight_of_below' {W X : World} {n b c : Nat} {v0 v1 v2 v3 u0 u1 u2 u3 : Value} (hB : Below n W X) (hb : b < n) (hc : c < n)
    (k : W.cell? ⟨b, 0, none⟩ = some v0 ∧ W.cell? ⟨b, 1, none⟩ = some v1 ∧ W.cell? ⟨b, 2, none⟩ = some v2 ∧ W.cell? ⟨b, 3, none⟩ = some v3 ∧ W.cell? ⟨c, 0, none⟩ = some u0 ∧ W.cell? ⟨c, 1, none⟩ = some u1 ∧ W.cell? ⟨c, 2, none⟩ = some u2 ∧ W.cell? ⟨c, 3, none⟩ = some u3) :
    X.cell? ⟨b, 0, none⟩ = some v0 ∧ X.cell? ⟨b, 1, none⟩ = some v1 ∧ X.cell? ⟨b, 2, none⟩ = some v2 ∧ X.cell? ⟨b, 3, none⟩ = some v3 ∧ X.cell? ⟨c, 0, none⟩ = some u0 ∧ X.cell? ⟨c, 1, none⟩ = some u1 ∧ X.cell? ⟨c, 2, none⟩ = some u2 ∧ X.cell? ⟨c, 3, none⟩ = some u3 := by
  obtain ⟨k0, k1, k2, k3, k4, k5, k6, k7⟩ := k
  exact ⟨(hB.cell hb).trans k0, (hB.cell hb).trans k1, (hB.cell hb).trans k2, (hB.cell hb).trans k3, (hB.cell hc).trans k4, (hB.cell hc).trans k5, (hB.cell hc).trans k6, (hB.cell hc).trans k7⟩

set_option maxHeartbeats 1000000 in
theorem iCmpPrefix_any (s : Bool) (h l b : Int) (s' : Bool) (h' l' b' : Int) (c : Int) (hc : ∀ w : World, Calls Tryz.prog 106 #[.agg #[.bool s, .int .i64 h, .int .i64 l], .agg #[.bool s', .int .i64 h', .int .i64 l']] w fun e w' => e = .returned (.int .i64 c) ∧ Below w.heap.size w w') (w : World) :
    Calls Tryz.prog 93 #[.agg #[.bool s, .int .i64 h, .int .i64 l, .int .i64 b], .agg #[.bool s', .int .i64 h', .int .i64 l', .int .i64 b']] w fun e w' => e = .returned (.int .i64 (orI c (cmpW b b'))) ∧ Below w.heap.size w w' := by
  have HC : Hid (∀ w : World, _) := hc
  clear hc
  go_enter Tryz.func93, Tryz.ntmps93
  go_wp2_with fail
  go_region_held3 (fun x => x.cell? ⟨w.heap.size, 0, none⟩ = some (.bool s) ∧ x.cell? ⟨w.heap.size, 1, none⟩ = some (.int .i64 h) ∧ x.cell? ⟨w.heap.size, 2, none⟩ = some (.int .i64 l) ∧ x.cell? ⟨w.heap.size, 3, none⟩ = some (.int .i64 b) ∧ x.cell? ⟨w.heap.size + 1, 0, none⟩ = some (.bool s') ∧ x.cell? ⟨w.heap.size + 1, 1, none⟩ = some (.int .i64 h') ∧ x.cell? ⟨w.heap.size + 1, 2, none⟩ = some (.int .i64 l') ∧ x.cell? ⟨w.heap.size + 1, 3, none⟩ = some (.int .i64 b')) ((refine eight_of_below' (W := (w.alloc (.cells #[.bool s, .int .i64 h, .int .i64 l, .int .i64 b] 37)).alloc (.cells #[.bool s', .int .i64 h', .int .i64 l', .int .i64 b'] 37)) (n := w.heap.size + 2) ?_ (by omega) (by omega) ⟨by simp [go_sem], by simp [go_sem], by simp [go_sem], by simp [go_sem], by simp [go_sem], by simp [go_sem], by simp [go_sem], by simp [go_sem]⟩; repeat (first | with_reducible exact Below.refl _ _ | (with_reducible refine Below.drew ?_) | (with_reducible refine Below.alloc ?_ ?_ _; rotate_left; (focus (first | omega | (simp; omega) | (simp; done)))) | (with_reducible refine Below.setCell ?_ ?_ _; rotate_left; (focus (first | omega | (simp; omega) | (simp; done)))) | (with_reducible refine Below.trans ?_ (hb1.mono ?_); rotate_left; (focus (first | omega | (simp; omega) | (simp; done))))))) (first | (go_at_call 106; refine (HC.out _).mono ?_; rintro e w1 ⟨rfl, hb1⟩; have hz1 := hb1.size; (try simp at hz1); (first | (refine ltk (w.heap.size) (w1.heap.size) ?_ ?_; (focus omega); intro f10) | skip); (first | (refine ltk (w.heap.size + 1) (w1.heap.size) ?_ ?_; (focus omega); intro f11) | skip); (refine olds_k (w.heap.size + 2) hb1 ?_ ?_; (focus (first | omega | (simp; omega) | (simp; done))); intro hc1 hf1)) | (go_at_call 107; refine (cmpInt_any b b' _).mono ?_; rintro e w2 ⟨rfl, rfl⟩) | (go_at_call 105; refine (cmpOr_any c (cmpW b b') _ _ ?_ ?_).mono ?_; (focus (simp [go_sem])); (focus (simp [go_sem])); rintro e w3 ⟨rfl, rfl⟩))
  all_goals
    go_wp2_with fail
    go_ret
    refine ⟨rfl, ?_⟩
    repeat (first | with_reducible exact Below.refl _ _ | (with_reducible refine Below.drew ?_) | (with_reducible refine Below.alloc ?_ ?_ _; rotate_left; (focus (first | omega | (simp; omega) | (simp; done)))) | (with_reducible refine Below.setCell ?_ ?_ _; rotate_left; (focus (first | omega | (simp; omega) | (simp; done)))) | (with_reducible refine Below.trans ?_ (hb1.mono ?_); rotate_left; (focus (first | omega | (simp; omega) | (simp; done)))))

end Go.Proofs.YtmbmekcppmbokaaGreat.Mn

/-
  Maps of blocks by their prefixes: how a key and an element read, what such a map holds.
-/
namespace Go.Proofs.YtmbmekcppmbokaaGreat
open Go.RowKit Go.Maps

/-- A prefix as a value; its key. -/
def pfV (p : Pf) : Value := .agg #[.bool p.s, .int .i64 p.H.toInt, .int .i64 p.L.toInt, .int .i64 p.b]
def pfB (p : Pf) : List UInt8 := keyBytes [.bool p.s, .int .i64 p.H.toInt, .int .i64 p.L.toInt, .int .i64 p.b]
def bitW (p : Pf) : Prop := (Lit.int .i64 p.b).wf = true
theorem wf_bv (x : BitVec 64) : (Lit.int .i64 x.toInt).wf = true := by
  have h1 := BitVec.le_toInt x
  have h2 := BitVec.toInt_lt (x := x)
  have m1 : IntKind.i64.min = -9223372036854775808 := by decide
  have m2 : IntKind.i64.max = 9223372036854775807 := by decide
  simp [Lit.wf, m1, m2] at *
  first | omega | exact ⟨by omega, by omega⟩
theorem Tryz.laidOutK : laidOutB Tryz.prog = true := by kernel_rfl
theorem Tryz.widePf : (match Tryz.prog.underlying 37 with | some (.array _ _) | some (.struct _) => true | _ => false) = true := by kernel_rfl
set_option maxRecDepth 100000 in
theorem Tryz.keyPf : Keyed Tryz.prog 37 := Keyed.of_law (deep_law_laid Tryz.laidOutK (m := 4) (by omega) (of_decide_eq_true (by kernel_rfl)) (by kernel_rfl) Tryz.widePf)
theorem keyOf_pf {p : Pf} (h : bitW p) : keyOf Tryz.prog 37 (pfV p) = some (.string (pfB p)) := by
  have e1 : Tryz.prog.keyType 37 = true := by kernel_rfl
  have e2 : (pfV p).formed Tryz.prog 37 = true := by kernel_rfl
  unfold keyOf
  rw [Tryz.underlying37]
  simp only [e1, e2, Bool.and_self, if_true]
  have hH := wf_bv p.H
  have hL := wf_bv p.L
  have hb : (Lit.int .i64 p.b).wf = true := h
  have c1 : Tryz.prog.cellsOf 37 = 4 := by kernel_rfl
  have c2 : Tryz.prog.cellsOf 35 = 3 := by kernel_rfl
  have c3 : Tryz.prog.cellsOf 3 = 1 := by kernel_rfl
  have c4 : Tryz.prog.cellsOf 4 = 1 := by kernel_rfl
  have hsz : 2 ≤ Tryz.prog.types.size := of_decide_eq_true (by kernel_rfl)
  obtain ⟨n, hn⟩ : ∃ n, Tryz.prog.types.size + 1 = n + 3 := ⟨Tryz.prog.types.size - 2, by omega⟩
  rw [hn]
  simp [Program.keyLits, Tryz.underlying37, Tryz.underlying35, Tryz.underlying3, Tryz.underlying4, pfV, Value.cells, c1, c2, c3, c4, hH, hL, hb, pfB]
  rw [if_pos (by decide)]
  rfl

/-- How a block in such a map reads. -/
def dtB (q : Bk) : DataW Unit := .agg [.lit (.bool q.p.s), .lit (.int .i64 q.p.H.toInt), .lit (.int .i64 q.p.L.toInt), .lit (.int .i64 q.p.b), .lit (.string q.t.data.toList)]
def bkV (q : Bk) : Value := .agg #[.bool q.p.s, .int .i64 q.p.H.toInt, .int .i64 q.p.L.toInt, .int .i64 q.p.b, .string q.t]
def rdB (v : Value) : Option (DataW Unit × List MemPlace) :=
  match v with
  | .agg cs => match cs.toList with
    | [.bool s, .int .i64 H, .int .i64 L, .int .i64 b, .string t] => if (BitVec.ofInt 64 H).toInt = H ∧ (BitVec.ofInt 64 L).toInt = L then some (.agg [.lit (.bool s), .lit (.int .i64 H), .lit (.int .i64 L), .lit (.int .i64 b), .lit (.string t.data.toList)], []) else none
    | _ => none
  | _ => none
theorem rdB_mk (q : Bk) : rdB (bkV q) = some (dtB q, []) := by
  simp [rdB, bkV, dtB, BitVec.ofInt_toInt]
theorem rdB_inv {v : Value} {y : DataW Unit × List MemPlace} (h : rdB v = some y) : ∃ q, v = bkV q ∧ y = (dtB q, []) := by
  unfold rdB at h
  split at h
  · rename_i cs
    split at h
    · rename_i s H L b t hcs
      split at h
      · rename_i hw
        refine ⟨⟨⟨s, BitVec.ofInt 64 H, BitVec.ofInt 64 L, b⟩, t⟩, ?_, ?_⟩
        · unfold bkV
          rw [hw.1, hw.2]
          congr 1
          exact Array.ext' (by rw [hcs])
        · simp only [Option.some.injEq] at h
          rw [← h]
          unfold dtB
          rw [hw.1, hw.2]
      · cases h
    · cases h
  · cases h
theorem bkV_inj {q r : Bk} (h : bkV q = bkV r) : q = r := by
  obtain ⟨⟨s, H, L, b⟩, t⟩ := q
  obtain ⟨⟨s', H', L', b'⟩, t'⟩ := r
  simp [bkV] at h
  obtain ⟨rfl, h1, h2, rfl, rfl⟩ := h
  rw [BitVec.toInt_inj] at h1 h2
  subst h1 h2
  rfl
theorem dtB_inj {q r : Bk} (h : dtB q = dtB r) : q = r := by
  obtain ⟨⟨s, H, L, b⟩, t⟩ := q
  obtain ⟨⟨s', H', L', b'⟩, t'⟩ := r
  simp [dtB] at h
  obtain ⟨rfl, h1, h2, rfl, h3⟩ := h
  rw [BitVec.toInt_inj] at h1 h2
  subst h1 h2
  have : t = t' := by
    cases t; cases t'
    simp at h3
    subst h3
    rfl
  subst this
  rfl
theorem pfB_inj {p r : Pf} (hp : bitW p) (hr : bitW r) (h : pfB p = pfB r) : p = r := by
  have e := Tryz.keyPf.inj (keyOf_pf hp) (by rw [keyOf_pf hr, h])
  obtain ⟨s, H, L, b⟩ := p
  obtain ⟨s', H', L', b'⟩ := r
  simp [pfV] at e
  obtain ⟨rfl, h1, h2, rfl⟩ := e
  rw [BitVec.toInt_inj] at h1 h2
  subst h1 h2
  rfl
/-- The map's blocks are these, each under its own prefix. -/
structure HasB (D : DataW Unit) (bs : List Bk) : Prop where
  isM : IsMap D
  at' : ∀ q ∈ bs, ∀ z, D.atKey (.string (pfB q.p)) z = dtB q
  key : ∀ s, Maps.has D (.string s) = true → ∃ q ∈ bs, pfB q.p = s
  wf : ∀ q ∈ bs, bitW q.p
  uni : ∀ q ∈ bs, ∀ r ∈ bs, q.p = r.p → q = r

theorem HasB.put {D : DataW Unit} {bs : List Bk} (h : HasB D bs) (q : Bk) (hw : bitW q.p) (hn : ∀ r ∈ bs, r.p ≠ q.p) : HasB (D.put (.string (pfB q.p)) (dtB q)) (bs ++ [q]) := by
  have hk : WideAt.IsKeyLit (.string (pfB q.p)) := trivial
  have hne : ∀ r ∈ bs, (Lit.string (pfB r.p)) ≠ .string (pfB q.p) := fun r hr e => hn r hr (pfB_inj (h.wf r hr) hw (by injection e))
  refine ⟨IsMap.put h.isM _ _, ?_, ?_, ?_, ?_⟩
  · intro r hr z
    rcases List.mem_append.1 hr with h1 | h1
    · rw [atKey_put_other (hne r h1)]; exact h.at' r h1 z
    · simp at h1; subst h1; exact atKey_put_same h.isM hk _ z
  · intro s hs
    by_cases he : s = pfB q.p
    · exact ⟨q, by simp, he.symm⟩
    · rw [has_put_other (by intro e; injection e; contradiction)] at hs
      obtain ⟨r, h1, h2⟩ := h.key s hs
      exact ⟨r, List.mem_append.2 (Or.inl h1), h2⟩
  · intro r hr
    rcases List.mem_append.1 hr with h1 | h1
    · exact h.wf r h1
    · simp at h1; subst h1; exact hw
  · intro r hr r' hr' e
    rcases List.mem_append.1 hr with h1 | h1 <;> rcases List.mem_append.1 hr' with h2 | h2
    · exact h.uni r h1 r' h2 e
    · simp at h2; subst h2; exact absurd e (hn r h1)
    · simp at h1; subst h1; exact absurd e.symm (hn r' h2)
    · simp at h1 h2; rw [h1, h2]
theorem HasB.nil : HasB (.map []) [] := ⟨⟨_, rfl⟩, (fun q h => by cases h), (fun s h => by cases h), (fun q h => by cases h), (fun q h => by cases h)⟩

theorem HasB.del {D : DataW Unit} {bs : List Bk} (h : HasB D bs) (q : Bk) : HasB (D.del (.string (pfB q.p))) (bs.filter (fun r => !decide (pfB r.p = pfB q.p))) := by
  have hm : ∀ r, r ∈ bs.filter (fun r => !decide (pfB r.p = pfB q.p)) ↔ r ∈ bs ∧ pfB r.p ≠ pfB q.p := fun r => by simp
  refine ⟨IsMap.del h.isM _, ?_, ?_, ?_, ?_⟩
  · intro r hr z
    obtain ⟨h1, h2⟩ := (hm r).1 hr
    rw [atKey_del_other (by intro e; injection e; contradiction)]; exact h.at' r h1 z
  · intro s hs
    by_cases he : s = pfB q.p
    · subst he; rw [has_del_same] at hs; cases hs
    · rw [has_del_other (by intro e; injection e; contradiction)] at hs
      obtain ⟨r, h1, h2⟩ := h.key s hs
      exact ⟨r, (hm r).2 ⟨h1, by rw [h2]; exact he⟩, h2⟩
  · intro r hr; exact h.wf r ((hm r).1 hr).1
  · intro r hr r' hr' e; exact h.uni r ((hm r).1 hr).1 r' ((hm r').1 hr').1 e

end Go.Proofs.YtmbmekcppmbokaaGreat

/-
  The program's byPrefix: a map of the call's own with each block under its prefix.
-/
namespace Go.Proofs.YtmbmekcppmbokaaGreat
open Go.RowKit Go.Maps

theorem bsDrop {bs : List Bk} {k : Nat} {q : Bk} (h : bs[k]? = some q) : bs.take (k + 1) = bs.take k ++ [q] := by rw [List.take_add_one, h]; rfl

set_option maxRecDepth 100000 in
set_option maxHeartbeats 2000000 in
theorem byPrefix_any (a : Option Addr) (n c : Nat) (bs : List Bk) (w : World) (hn : n = bs.length) (hB : RowG KBk w a bs) (hl : n ≤ 1000) (hw : ∀ q ∈ bs, bitW q.p) (hd : bs.Pairwise (fun q r => q.p ≠ r.p)) :
    Calls Tryz.prog 36 #[.slice a n c] w fun e w' => e = .returned (.map (some w.heap.size)) ∧ (∃ D : DataW Unit, w'.ownsMap Tryz.prog 37 rdB w.heap.size n D ∧ HasB D bs) ∧ Below w.heap.size w w' := by
  have hmm : ∀ W : World, (Instr.makeMap 67 (some (.int .i64 (n : Int)))).run Tryz.prog W = .ok (.map (some W.heap.size)) (W.alloc (.map #[] 0)) := fun W => by
    simp [Instr.makeMap, go_sem]
  have HB := hidP hB
  have HN := hidP hn
  have HW := hidP hw
  have HD := hidP hd
  clear hB hn hw hd
  go_enter Tryz.func36, Tryz.ntmps36
  go_wp2_with fail
  have m1 : (w.alloc (.map #[] 0)).ownsMap Tryz.prog 37 rdB w.heap.size 0 (.map [] : DataW Unit) := World.ownsMap_made _ _ _ _
  have b1 : Below w.heap.size w (w.alloc (.map #[] 0)) := (Below.refl _ _).alloc (Nat.le_refl _) _
  have HM1 := hidP (And.intro m1 b1)
  generalize w.alloc (.map #[] 0) = W1 at *
  clear m1 b1
  go_loopw [5, 11] (fun _ t11 wr => ∃ (k : Nat) (D : DataW Unit), k ≤ n ∧ t11 = .int .i64 k ∧ wr.ownsMap Tryz.prog 37 rdB w.heap.size k D ∧ HasB D (bs.take k) ∧ Below w.heap.size w wr) (fun _ t11 _ => n - (intOf t11).toNat)
  case atStart => exact ⟨0, _, Nat.zero_le _, rfl, HM1.out.1, by rw [List.take_zero]; exact HasB.nil, HM1.out.2⟩
  case round =>
    obtain ⟨k, D, hk, rfl, hm, hs, hbel⟩ := hrel
    by_cases hlt : k < n
    · obtain ⟨p, o, q, rfl, hp, hq, c0, c1, c2, c3, c4⟩ := rowBk HB.out k (by rw [← HN.out]; exact hlt)
      have d0 := (hbel.cell hp).trans c0
      have d1 := (hbel.cell hp).trans c1
      have d2 := (hbel.cell hp).trans c2
      have d3 := (hbel.cell hp).trans c3
      have d4 := (hbel.cell hp).trans c4
      have hwq := HW.out q (List.mem_of_getElem? hq)
      have hkey : keyOf Tryz.prog 37 (.agg #[.bool q.p.s, .int .i64 q.p.H.toInt, .int .i64 q.p.L.toInt, .int .i64 q.p.b]) = some (.string (pfB q.p)) := keyOf_pf hwq
      have hrd : rdB (.agg #[.bool q.p.s, .int .i64 q.p.H.toInt, .int .i64 q.p.L.toInt, .int .i64 q.p.b, .string q.t]) = some (dtB q, []) := rdB_mk q
      have HS := hidP (hs.put q hwq (fun r hr e => by
        have hpw := HD.out
        rw [List.pairwise_iff_getElem] at hpw
        obtain ⟨j, hj, rfl⟩ := List.mem_take_iff_getElem.1 hr
        obtain ⟨hk2, hq2⟩ := List.getElem?_eq_some_iff.1 hq
        have := hpw j k (by omega) hk2 (by omega)
        rw [hq2] at this
        exact this e))
      have HT := hidP (bsDrop hq)
      have HM := hidP (And.intro hm hbel)
      clear c0 c1 c2 c3 c4 hq hs hm hbel hwq
      go_wp2_with (at_mapUpdate; refine wpList_mapUpdate_own _ rfl _ _ _ 67 rfl 37 62 Tryz.keyPf Tryz.underlying67 rdB w.heap.size k _ rfl (HM.out.1.alloc _) (by unfold maxLen; omega) _ _ _ rfl rfl hkey _ [] hrd ?_; intro w5 hown5 hgrow5)
      have HF := hidP (And.intro hown5 (Below.grown (HM.out.2.alloc HM.out.2.size _) hgrow5 (by have := HM.out.2.size; simp; omega) (fun j hj => by cases hj; exact Nat.le_refl _)))
      clear hown5 hgrow5
      go_roundw
      case rel => exact ⟨k + 1, _, by omega, by go_num, HF.out.1, by rw [HT.out]; exact HS.out, HF.out.2⟩
      case measure => simp [intOf]; omega
    · have hkn : k = n := by omega
      subst hkn
      have HS := hidP (show HasB D bs from by rw [List.take_of_length_le (by have := HN.out; omega)] at hs; exact hs)
      have HM := hidP (And.intro hm hbel)
      clear hs hm hbel
      go_wp2_with fail
      go_ret
      exact ⟨rfl, ⟨D, HM.out.1, HS.out⟩, HM.out.2⟩

end Go.Proofs.YtmbmekcppmbokaaGreat

/-
  A range over a function, told by footprints: a set M of blocks is the rounds' own; the iterator turns no block of M, a round turns no block that lay outside M. Nothing is asked of the depth.
-/
namespace Go.Proofs.YtmbmekcppmbokaaGreat
open Go.RowKit

/-- The blocks of M lie as they lay. -/
structure Kpt (M : Nat → Prop) (A B : World) : Prop where
  os : B.os = A.os
  tape : B.tape = A.tape
  output : B.output = A.output
  size : A.heap.size ≤ B.heap.size
  block : ∀ k, k < A.heap.size → M k → B.heap[k]? = A.heap[k]?

theorem Kpt.refl (M : Nat → Prop) (A : World) : Kpt M A A := ⟨rfl, rfl, rfl, Nat.le_refl _, fun _ _ _ => rfl⟩
theorem Kpt.mono {M N : Nat → Prop} {A B : World} (h : Kpt M A B) (hn : ∀ k, N k → M k) : Kpt N A B := ⟨h.os, h.tape, h.output, h.size, fun k hk hm => h.block k hk (hn k hm)⟩
theorem Kpt.trans {M : Nat → Prop} {A B C : World} (h : Kpt M A B) (g : Kpt M B C) : Kpt M A C :=
  ⟨g.os.trans h.os, g.tape.trans h.tape, g.output.trans h.output, Nat.le_trans h.size g.size, fun k hk hm => (g.block k (Nat.lt_of_lt_of_le hk h.size) hm).trans (h.block k hk hm)⟩
theorem Kpt.ofBelow {A B : World} (M : Nat → Prop) (h : Below A.heap.size A B) : Kpt M A B := ⟨h.os, h.tape, h.output, h.size, fun k hk _ => h.block k hk⟩
theorem Kpt.below {n : Nat} {A B : World} (h : Kpt (fun k => k < n) A B) (hn : n ≤ A.heap.size) : Below n A B := ⟨h.os, h.tape, h.output, h.size, fun k hk => h.block k (by omega) hk⟩
theorem Kpt.cell {M : Nat → Prop} {A B : World} (h : Kpt M A B) {p : Addr} (hp : p.block < A.heap.size) (hm : M p.block) : B.cell? p = A.cell? p := World.cell?_of_block (w := A) (h.block p.block hp hm)
theorem kpt_put (A : World) (l : Nat) (o : Obj) : Kpt (fun k => k ≠ l) A (A.putObj l o) := ⟨rfl, rfl, rfl, by simp, fun _ _ hk => World.putObj_heap_other hk⟩

/-- Behind a round (or a part of the iterator): what was none of M's lies; the new M' has of the old blocks none but M's. -/
structure Grw (M M' : Nat → Prop) (A B : World) : Prop where
  kept : Kpt (fun k => ¬ M k) A B
  old : ∀ k, M' k → k < A.heap.size → M k
  fit : ∀ k, M' k → k < B.heap.size

theorem Grw.trans {M M' M'' : Nat → Prop} {A B C : World} (h : Grw M M' A B) (g : Grw M' M'' B C) : Grw M M'' A C :=
  ⟨⟨g.kept.os.trans h.kept.os, g.kept.tape.trans h.kept.tape, g.kept.output.trans h.kept.output, Nat.le_trans h.kept.size g.kept.size, fun k hk hm =>
      (g.kept.block k (Nat.lt_of_lt_of_le hk h.kept.size) (fun h' => hm (h.old k h' hk))).trans (h.kept.block k hk hm)⟩,
    fun k hk hl => h.old k (g.old k hk (Nat.lt_of_lt_of_le hl h.kept.size)) hl, g.fit⟩
theorem Grw.ofBelow {M : Nat → Prop} {A B : World} (h : Below A.heap.size A B) (hf : ∀ k, M k → k < A.heap.size) : Grw M M A B :=
  ⟨Kpt.ofBelow _ h, fun _ hm _ => hm, fun k hm => Nat.lt_of_lt_of_le (hf k hm) h.size⟩
theorem Grw.refl {M : Nat → Prop} {A : World} (hf : ∀ k, M k → k < A.heap.size) : Grw M M A A := Grw.ofBelow (Below.refl _ A) hf

/-- The rounds of loop l, over xs: J b pre M W: pre have come; b: it goes on. -/
def Rnds {α : Type} (P : Program) (l : Nat) (encs : α → Array Value) (xs : List α) (J : Bool → List α → (Nat → Prop) → World → Prop) : Prop :=
  ∀ m pre x M W, J true pre M W → (∀ k, M k → k < W.heap.size) → pre ++ [x] <+: xs → YieldAt Fence.wide m P l (encs x) W fun e W' => ∃ b M', e = .returned (.bool b) ∧ J b (pre ++ [x]) M' W' ∧ Grw M M' W W'
def Abd {α : Type} (J : Bool → List α → (Nat → Prop) → World → Prop) : Prop := ∀ b pre M A B, J b pre M A → Kpt M A B → J b pre M B
/-- How an iterator may end that has been given pre ahead and has xs to hand out: all have come, or a round has said no. -/
def Ends {α : Type} (J : Bool → List α → (Nat → Prop) → World → Prop) (all xs : List α) (M : Nat → Prop) (W W' : World) (b : Bool) : Prop :=
  ∃ pre M', J b pre M' W' ∧ Grw M M' W W' ∧ (b = true → pre = xs) ∧ (b = false → pre <+: all)
/-- An iterator: it hands out xs, one by one; it reads the blocks of R. -/
def Iter {α : Type} (P : Program) (g : Nat) (lb : Array Value) (encs : α → Array Value) (xs : List α) (R : Nat → Prop) (w : World) : Prop :=
  ∀ (l : Nat) (J : Bool → List α → (Nat → Prop) → World → Prop) (M : Nat → Prop) (W : World), Kpt R w W → (∀ k, R k → ¬ M k) → (∀ k, M k → k < W.heap.size) → Abd J → Rnds P l encs xs J → J true [] M W →
    Calls P g (#[.func (.yield l) #[] #[]] ++ lb) W fun e W' => (∃ v, e = .returned v) ∧ ∃ b, Ends J xs xs M W W' b

/-- How the body of a round may be left. -/
def rndQ {α : Type} (I : List α → (Nat → Prop) → World → Prop) (Ix : Code → List α → (Nat → Prop) → World → Prop) (M : Nat → Prop) (ys : List α) (W : World) : Exit → Act → World → Prop
  | .normal, _, W' => ∃ M', I ys M' W' ∧ Grw M M' W W'
  | .ret, _, W' => ∃ M', Ix .ret ys M' W' ∧ Grw M M' W W'
  | .exit id, _, W' => ∃ M', Ix (.exit id) ys M' W' ∧ Grw M M' W W'
  | .goto t, _, W' => ∃ M', Ix (.goto t) ys M' W' ∧ Grw M M' W W'
  | .panic _, _, _ => False
  | .outgrown, _, _ => False

theorem wide_any {l m m' : Nat} {P : Program} {c : Code} {Q : Exit → Act → World → Prop} {a : Act} {w : World} (h : c.wpIn (Fence.wide.inRound l) m P Q a w) : c.wpIn (Fence.wide.inRound l) m' P Q a w :=
  fun b k cs hro hb _ => h b k cs hro hb (fun d hd => by simp [Fence.wide] at hd)

/-- The loop's own J. -/
def lpJ {α : Type} (rec : LoopState → Option Code → Loop) (D l : Nat) (I : List α → (Nat → Prop) → World → Prop) (Ix : Code → List α → (Nat → Prop) → World → Prop) (b : Bool) (pre : List α) (M : Nat → Prop) (W : World) : Prop :=
  ∃ M1, (∀ k, M k ↔ (M1 k ∨ k = D ∨ k = l)) ∧ ¬ M1 D ∧ ¬ M1 l ∧ W.heap[D]? = some (.deferred (some [])) ∧
    ((b = true ∧ I pre M1 W ∧ W.heap[l]? = some (.loop (rec .ready none))) ∨ (b = false ∧ ∃ c, Ix c pre M1 W ∧ W.heap[l]? = some (.loop (rec .done (some c)))))

theorem lp_abd {α : Type} {rec : LoopState → Option Code → Loop} {D l : Nat} {I : List α → (Nat → Prop) → World → Prop} {Ix : Code → List α → (Nat → Prop) → World → Prop}
    (hI : ∀ pre M A B, I pre M A → Kpt M A B → I pre M B) (hIx : ∀ c pre M A B, Ix c pre M A → Kpt M A B → Ix c pre M B) : Abd (lpJ rec D l I Ix) := by
  rintro b pre M A B ⟨M1, hM, h1, h2, hD, h⟩ hk
  have hk1 : Kpt M1 A B := hk.mono fun k h => (hM k).2 (Or.inl h)
  have lt : ∀ {k : Nat} {o : Obj}, A.heap[k]? = some o → k < A.heap.size := fun h => (Array.getElem?_eq_some_iff.1 h).1
  refine ⟨M1, hM, h1, h2, (hk.block D (lt hD) ((hM D).2 (Or.inr (Or.inl rfl)))).trans hD, ?_⟩
  rcases h with ⟨rfl, hi, hl⟩ | ⟨rfl, c, hi, hl⟩
  · exact Or.inl ⟨rfl, hI _ _ _ _ hi hk1, (hk.block l (lt hl) ((hM l).2 (Or.inr (Or.inr rfl)))).trans hl⟩
  · exact Or.inr ⟨rfl, c, hIx _ _ _ _ _ hi hk1, (hk.block l (lt hl) ((hM l).2 (Or.inr (Or.inr rfl)))).trans hl⟩

/-- The end of a round: the record is written anew, all else lies. -/
theorem lp_end {α : Type} {P : Program} {rec : LoopState → Option Code → Loop} {D l : Nat} {I : List α → (Nat → Prop) → World → Prop} {Ix : Code → List α → (Nat → Prop) → World → Prop}
    (hrec : ∀ s p s' p', { rec s p with state := s', pending := p' } = rec s' p')
    (hI : ∀ pre M A B, I pre M A → Kpt M A B → I pre M B) (hIx : ∀ c pre M A B, Ix c pre M A → Kpt M A B → Ix c pre M B)
    {M M1 M' : Nat → Prop} {W W2 W3 : World} {ys : List α} (hDl : D ≠ l) (hM : ∀ k, M k ↔ (M1 k ∨ k = D ∨ k = l)) (hD1 : ¬ M1 D) (hl1 : ¬ M1 l)
    (hWW : Kpt (fun k => k ≠ l) W W2) (hl2 : W2.heap[l]? = some (.loop (rec .busy none))) (hD2 : W2.heap[D]? = some (.deferred (some []))) (hg : Grw M1 M' W2 W3)
    (jump : Option Code) (hj : (jump = none ∧ I ys M' W3) ∨ ∃ c, jump = some c ∧ Ix c ys M' W3) :
    ∃ v w', (Instr.endRound l jump).run P W3 = .ok v w' ∧ ∃ b M'', Ending.returned v = .returned (.bool b) ∧ lpJ rec D l I Ix b ys M'' w' ∧ Grw M M'' W w' := by
  have lt : ∀ {A : World} {k : Nat} {o : Obj}, A.heap[k]? = some o → k < A.heap.size := fun h => (Array.getElem?_eq_some_iff.1 h).1
  have hl3 := (hg.kept.block l (lt hl2) hl1).trans hl2
  have hD3 := (hg.kept.block D (lt hD2) hD1).trans hD2
  have hlM : ¬ M' l := fun h => hl1 (hg.old l h (lt hl2))
  have hDM : ¬ M' D := fun h => hD1 (hg.old D h (lt hD2))
  have hrun := run_endRound (P := P) jump hl3
  rw [hrec] at hrun
  have kp : ∀ o, Kpt M' W3 (W3.putObj l o) := fun o => (kpt_put W3 l o).mono (fun k hk e => hlM (e ▸ hk))
  have hD4 : ∀ o, (W3.putObj l o).heap[D]? = some (.deferred (some [])) := fun o => (World.putObj_heap_other hDl).trans hD3
  have hl4 : ∀ o, (W3.putObj l o).heap[l]? = some o := fun o => World.putObj_heap_same (lt hl3)
  have hgr : ∀ o, Grw M (fun k => M' k ∨ k = D ∨ k = l) W (W3.putObj l o) := fun o =>
    ⟨⟨hg.kept.os.trans hWW.os, hg.kept.tape.trans hWW.tape, hg.kept.output.trans hWW.output, by have a := hWW.size; have b := hg.kept.size; simp; omega, fun k hk hn => by
        have n1 : ¬ M1 k := fun h => hn ((hM k).2 (Or.inl h))
        have n2 : k ≠ l := fun h => hn ((hM k).2 (Or.inr (Or.inr h)))
        exact (World.putObj_heap_other n2).trans ((hg.kept.block k (Nat.lt_of_lt_of_le hk hWW.size) n1).trans (hWW.block k hk n2))⟩,
      fun k hk hkw => (hM k).2 (hk.imp (fun h => hg.old k h (Nat.lt_of_lt_of_le hkw hWW.size)) id),
      fun k hk => by
        rw [World.putObj_size]
        rcases hk with h | rfl | rfl
        · exact hg.fit k h
        · exact lt hD3
        · exact lt hl3⟩
  refine ⟨_, _, hrun, ?_⟩
  rcases hj with ⟨rfl, hi⟩ | ⟨c, rfl, hi⟩
  · exact ⟨true, _, rfl, ⟨M', fun _ => Iff.rfl, hDM, hlM, hD4 _, Or.inl ⟨rfl, hI _ _ _ _ hi (kp _), hl4 _⟩⟩, hgr _⟩
  · exact ⟨false, _, rfl, ⟨M', fun _ => Iff.rfl, hDM, hlM, hD4 _, Or.inr ⟨rfl, c, hIx _ _ _ _ _ hi (kp _), hl4 _⟩⟩, hgr _⟩

theorem wp_range {α : Type} {n : Nat} {P : Program} {g : Operand} {ps : Array Tmp} {assign body : Code} {Q : Exit → Act → World → Prop} {a : Act} {w : World}
    {gf : Nat} {lb : Array Value} (hg : a.eval g = .func (.func gf) #[] lb) (eg : ∀ args w, (callFunc gf args).run P w = .ok (.enter gf args) w)
    {encs : α → Array Value} {xs : List α} {R : Nat → Prop} (hit : Iter P gf lb encs xs R w) (hps : ∀ x, (encs x).size = ps.size) (hR : ∀ k, R k → k < w.heap.size)
    (I : List α → (Nat → Prop) → World → Prop) (Ix : Code → List α → (Nat → Prop) → World → Prop)
    (hI : ∀ pre M A B, I pre M A → Kpt M A B → I pre M B) (hIx : ∀ c pre M A B, Ix c pre M A → Kpt M A B → Ix c pre M B)
    (M0 : Nat → Prop) (hM0 : ∀ k, M0 k → k < w.heap.size) (hRM : ∀ k, R k → ¬ M0 k) (h0 : I [] M0 w)
    (hround : ∀ l pre x M W, I pre M W → (∀ k, M k → k < W.heap.size) → ¬ M l → w.heap.size < l → l < W.heap.size → pre ++ [x] <+: xs →
      assign.wpIn (Fence.wide.inRound l) 9 P (Exit.then (fun a1 W1 => Below W.heap.size W W1 ∧ ∀ W2, Kpt (fun k => k ≠ l) W1 W2 → W2.heap.size = W1.heap.size → I pre M W2 →
        body.wpIn (Fence.wide.inRound l) 9 P (rndQ I Ix M (pre ++ [x]) W2) a1 W2) (fun _ _ _ => False)) { tmps := (ps.zip (encs x)).foldl (fun t (p, v) => t.setIfInBounds p v) a.tmps, defers := [] } W)
    (hdone : ∀ D M' W', w.heap.size ≤ D → D < W'.heap.size → ¬ M' D → I xs M' W' → Grw M0 M' w W' → W'.heap[D]? = some (.deferred (some [])) → Q .normal { a with defers := { target := .collected D, args := #[] } :: a.defers } W')
    (hstop : ∀ D c pre M' W', w.heap.size ≤ D → D < W'.heap.size → ¬ M' D → pre <+: xs → Ix c pre M' W' → Grw M0 M' w W' → W'.heap[D]? = some (.deferred (some [])) → c.wpIn Fence.wide n P Q { a with defers := { target := .collected D, args := #[] } :: a.defers } W') :
    (Code.rangeFunc g ps assign body).wpIn Fence.wide n P Q a w := by
  refine wpIn_rangeFunc ?_
  intro fn _
  obtain ⟨rec, hrec⟩ : ∃ rec : LoopState → Option Code → Loop, rec = fun st pe => { state := st, pending := pe, fn, tmps := a.tmps, params := ps, assign, body, defers := w.heap.size } := ⟨_, rfl⟩
  have hrr : ∀ s p s' p', { rec s p with state := s', pending := p' } = rec s' p' := by intro s p s' p'; rw [hrec]
  obtain ⟨W1, hW1⟩ : ∃ W1, (w.alloc (.deferred (some []))).alloc (.loop (rec .ready none)) = W1 := ⟨_, rfl⟩
  have hs1 : W1.heap.size = w.heap.size + 2 := by rw [← hW1]; simp
  have hl1 : W1.heap[w.heap.size + 1]? = some (.loop (rec .ready none)) := by
    rw [← hW1]; have := World.alloc_heap_new (w.alloc (.deferred (some []))) (.loop (rec .ready none)); rwa [World.size_alloc] at this
  have hD1 : W1.heap[w.heap.size]? = some (.deferred (some [])) := by
    rw [← hW1]; exact (Below.heap_alloc _ _ _ (by simp)).trans (World.alloc_heap_new w _)
  have hb1 : Below w.heap.size w W1 := by rw [← hW1]; exact ((Below.refl _ w).alloc (Nat.le_refl _) _).alloc (by simp) _
  have lt : ∀ {A : World} {k : Nat} {o : Obj}, A.heap[k]? = some o → k < A.heap.size := fun h => (Array.getElem?_eq_some_iff.1 h).1
  refine ⟨w.heap.size + 1, [{ target := .collected w.heap.size, args := #[] }], W1, { target := .fn (.func gf) lb, args := #[.func (.yield (w.heap.size + 1)) #[] #[]] }, W1, gf,
    #[.func (.yield (w.heap.size + 1)) #[] #[]] ++ lb, W1, ?_, ?_, fun _ _ => trivial, ?_, fun h => by simp [Fence.wide] at h, ?_⟩
  · rw [← hW1, hrec]; exact run_enterLoop_outer _ _ _ _ _
  · simp only [resolve, hg]
    simp [go_sem]
  · simp [invoke, go_sem, eg]
  · refine callsIn_wide.2 ?_
    refine (hit (w.heap.size + 1) (lpJ rec w.heap.size (w.heap.size + 1) I Ix) (fun k => M0 k ∨ k = w.heap.size ∨ k = w.heap.size + 1) W1 (Kpt.ofBelow _ hb1)
      (fun k hk h => h.elim (hRM k hk) fun h => by have := hR k hk; omega)
      (fun k h => h.elim (fun h => by have := hM0 k h; omega) fun h => by omega) (lp_abd hI hIx) ?_
      ⟨M0, fun _ => Iff.rfl, fun h => Nat.lt_irrefl _ (hM0 _ h), fun h => by have := hM0 _ h; omega, hD1, Or.inl ⟨rfl, hI _ _ _ _ h0 (Kpt.ofBelow _ hb1), hl1⟩⟩).mono ?_
    · rintro m pre x M W ⟨M1, hM, n1, n2, hD, ⟨_, hi, hl⟩ | ⟨hb, _⟩⟩ hfit hpre
      case inr => cases hb
      have hy := run_yield (P := P) (args := encs x) hl (by rw [hrec]; exact hps x)
      rw [hrec] at hy
      refine ⟨fn, _, assign, body, hy, roundIn_of_wpIn trivial (wide_any (wpIn_mono (hround _ pre x M1 W hi (fun k hk => hfit k ((hM k).2 (Or.inl hk))) n2 (Nat.lt_succ_self _) (lt hl) hpre) ?_))⟩
      intro e a1 V1 hV
      cases e with
      | normal =>
        obtain ⟨hb, hbody⟩ := hV
        have hl2 := (hb.block _ (lt hl)).trans hl
        have hD2 := (hb.block _ (lt hD)).trans hD
        have hbr := run_beginRound (P := P) hl2 (by rw [hrec])
        have e1 : { rec .ready none with state := .busy } = rec .busy none := by rw [hrec]
        rw [e1] at hbr
        have kp := kpt_put V1 (w.heap.size + 1) (.loop (rec .busy none))
        refine ⟨_, hbr, wide_any (wpIn_mono (hbody _ kp (by simp) (hI _ _ _ _ hi ((Kpt.ofBelow M1 hb).trans (kp.mono fun k hk h => n2 (h ▸ hk))))) ?_)⟩
        have hl3 : (V1.putObj (w.heap.size + 1) (.loop (rec .busy none))).heap[w.heap.size + 1]? = some (.loop (rec .busy none)) := World.putObj_heap_same (lt hl2)
        have hD3 : (V1.putObj (w.heap.size + 1) (.loop (rec .busy none))).heap[w.heap.size]? = some (.deferred (some [])) := (World.putObj_heap_other (by omega)).trans hD2
        have fin := fun {M' W3} (hg : Grw M1 M' (V1.putObj (w.heap.size + 1) (.loop (rec .busy none))) W3) => lp_end (P := P) (ys := pre ++ [x]) hrr hI hIx (by omega) hM n1 n2 ((Kpt.ofBelow _ hb).trans kp) hl3 hD3 hg
        rintro e a3 W3 hp
        cases e with
        | normal => obtain ⟨M', hi', hg'⟩ := hp; exact fin hg' none (Or.inl ⟨rfl, hi'⟩)
        | ret => obtain ⟨M', hi', hg'⟩ := hp; exact fin hg' (some .ret) (Or.inr ⟨_, rfl, hi'⟩)
        | exit id => obtain ⟨M', hi', hg'⟩ := hp; exact fin hg' (some (.exit id)) (Or.inr ⟨_, rfl, hi'⟩)
        | goto t => obtain ⟨M', hi', hg'⟩ := hp; exact fin hg' (some (.goto t)) (Or.inr ⟨_, rfl, hi'⟩)
        | panic ch => exact hp.elim
        | outgrown => exact hp.elim
      | exit id => exact hV.elim
      | goto t => exact hV.elim
      | ret => exact hV.elim
      | panic ch => exact hV.elim
      | outgrown => exact hV.elim
    · rintro e W2 ⟨⟨v, rfl⟩, b, pre, M, ⟨M1, hM, n1, n2, hD, h⟩, hg', ht, hf⟩
      have kp : ∀ o, Kpt M1 W2 (W2.putObj (w.heap.size + 1) o) := fun o => (kpt_put W2 _ o).mono fun k hk e => n2 (e ▸ hk)
      have hgr : ∀ o, Grw M0 M1 w (W2.putObj (w.heap.size + 1) o) := fun o =>
        ⟨⟨hg'.kept.os.trans hb1.os, hg'.kept.tape.trans hb1.tape, hg'.kept.output.trans hb1.output, by have := hg'.kept.size; simp; omega, fun k hk hn => by
            refine (World.putObj_heap_other (by omega)).trans ((hg'.kept.block k (by omega) ?_).trans (hb1.block k hk))
            rintro (h | h | h)
            · exact hn h
            · omega
            · omega⟩,
          fun k hk hkw => by
            rcases hg'.old k ((hM k).2 (Or.inl hk)) (by omega) with h | h | h
            · exact h
            · omega
            · omega,
          fun k hk => by rw [World.putObj_size]; exact hg'.fit k ((hM k).2 (Or.inl hk))⟩
      have hD2 : ∀ o, (W2.putObj (w.heap.size + 1) o).heap[w.heap.size]? = some (.deferred (some [])) := fun o => (World.putObj_heap_other (by omega)).trans hD
      rcases h with ⟨rfl, hi, hl⟩ | ⟨rfl, c, hi, hl⟩
      · refine ⟨none, _, by have := run_endLoop (P := P) hl (by rw [hrec]; simp); rw [hrec] at this; exact this, ?_⟩
        have := ht rfl
        subst this
        exact hdone _ M1 _ (Nat.le_refl _) (by rw [World.putObj_size]; exact lt hD) n1 (hI _ _ _ _ hi (kp _)) (hgr _) (hD2 _)
      · refine ⟨some c, _, by have := run_endLoop (P := P) hl (by rw [hrec]; simp); rw [hrec] at this; exact this, ?_⟩
        exact hstop _ c pre M1 _ (Nat.le_refl _) (by rw [World.putObj_size]; exact lt hD) n1 (hf rfl) (hIx _ _ _ _ _ hi (kp _)) (hgr _) (hD2 _)

theorem rnd_of {F : Fence} {n : Nat} {P : Program} {c : Code} {K : Act → World → Prop} {N : Exit → Act → World → Prop} {a : Act} {w : World}
    (h : ∀ K' : Act → World → Prop, Hid (∀ a1 W1, K a1 W1 → K' a1 W1) → c.wpIn F n P (Exit.then K' N) a w) : c.wpIn F n P (Exit.then K N) a w := h K (fun _ _ h => h)

end Go.Proofs.YtmbmekcppmbokaaGreat

/-
  Ranges over functions whose values come in an order that is not known ahead: what may have come so far (Pt), and what has when all have (Fu).
-/
namespace Go.Proofs.YtmbmekcppmbokaaGreat
open Go.RowKit

/-- The rounds of loop l: J b pre M W: pre have come; b: it goes on. -/
def RndsS {α : Type} (P : Program) (l : Nat) (encs : α → Array Value) (Pt : List α → Prop) (J : Bool → List α → (Nat → Prop) → World → Prop) : Prop :=
  ∀ m pre x M W, J true pre M W → (∀ k, M k → k < W.heap.size) → Pt (pre ++ [x]) → YieldAt Fence.wide m P l (encs x) W fun e W' => ∃ b M', e = .returned (.bool b) ∧ J b (pre ++ [x]) M' W' ∧ Grw M M' W W'
/-- How an iterator may end: all have come, or a round has said no. -/
def EndsS {α : Type} (J : Bool → List α → (Nat → Prop) → World → Prop) (Pt Fu : List α → Prop) (M : Nat → Prop) (W W' : World) (b : Bool) : Prop :=
  ∃ pre M', J b pre M' W' ∧ Grw M M' W W' ∧ (b = true → Fu pre) ∧ (b = false → Pt pre)
/-- An iterator: it reads the blocks of R. -/
def IterS {α : Type} (P : Program) (g : Nat) (lb : Array Value) (encs : α → Array Value) (Pt Fu : List α → Prop) (R : Nat → Prop) (w : World) : Prop :=
  ∀ (l : Nat) (J : Bool → List α → (Nat → Prop) → World → Prop) (M : Nat → Prop) (W : World), Kpt R w W → (∀ k, R k → ¬ M k) → (∀ k, M k → k < W.heap.size) → Abd J → RndsS P l encs Pt J → J true [] M W →
    Calls P g (#[.func (.yield l) #[] #[]] ++ lb) W fun e W' => (∃ v, e = .returned v) ∧ ∃ b, EndsS J Pt Fu M W W' b
theorem IterS.later {α : Type} {P : Program} {g : Nat} {lb : Array Value} {encs : α → Array Value} {Pt Fu : List α → Prop} {R : Nat → Prop} {w w1 : World} (h : IterS P g lb encs Pt Fu R w) (hk : Kpt R w w1) : IterS P g lb encs Pt Fu R w1 :=
  fun l J M W h1 h2 h3 h4 h5 h6 => h l J M W (hk.trans h1) h2 h3 h4 h5 h6

theorem wp_rangeS {α : Type} {n : Nat} {P : Program} {g : Operand} {ps : Array Tmp} {assign body : Code} {Q : Exit → Act → World → Prop} {a : Act} {w : World}
    {gf : Nat} {lb : Array Value} (hg : a.eval g = .func (.func gf) #[] lb) (eg : ∀ args w, (callFunc gf args).run P w = .ok (.enter gf args) w)
    {encs : α → Array Value} {Pt Fu : List α → Prop} {R : Nat → Prop} (hit : IterS P gf lb encs Pt Fu R w) (hps : ∀ x, (encs x).size = ps.size) (hR : ∀ k, R k → k < w.heap.size)
    (I : List α → (Nat → Prop) → World → Prop) (Ix : Code → List α → (Nat → Prop) → World → Prop)
    (hI : ∀ pre M A B, I pre M A → Kpt M A B → I pre M B) (hIx : ∀ c pre M A B, Ix c pre M A → Kpt M A B → Ix c pre M B)
    (M0 : Nat → Prop) (hM0 : ∀ k, M0 k → k < w.heap.size) (hRM : ∀ k, R k → ¬ M0 k) (h0 : I [] M0 w)
    (hround : ∀ l pre x M W, I pre M W → (∀ k, M k → k < W.heap.size) → ¬ M l → w.heap.size < l → l < W.heap.size → Pt (pre ++ [x]) →
      assign.wpIn (Fence.wide.inRound l) 9 P (Exit.then (fun a1 W1 => Below W.heap.size W W1 ∧ ∀ W2, Kpt (fun k => k ≠ l) W1 W2 → W2.heap.size = W1.heap.size → I pre M W2 →
        body.wpIn (Fence.wide.inRound l) 9 P (rndQ I Ix M (pre ++ [x]) W2) a1 W2) (fun _ _ _ => False)) { tmps := (ps.zip (encs x)).foldl (fun t (p, v) => t.setIfInBounds p v) a.tmps, defers := [] } W)
    (hdone : ∀ D ys M' W', w.heap.size ≤ D → D < W'.heap.size → ¬ M' D → Fu ys → I ys M' W' → Grw M0 M' w W' → W'.heap[D]? = some (.deferred (some [])) → Q .normal { a with defers := { target := .collected D, args := #[] } :: a.defers } W')
    (hstop : ∀ D c pre M' W', w.heap.size ≤ D → D < W'.heap.size → ¬ M' D → Pt pre → Ix c pre M' W' → Grw M0 M' w W' → W'.heap[D]? = some (.deferred (some [])) → c.wpIn Fence.wide n P Q { a with defers := { target := .collected D, args := #[] } :: a.defers } W') :
    (Code.rangeFunc g ps assign body).wpIn Fence.wide n P Q a w := by
  refine wpIn_rangeFunc ?_
  intro fn _
  obtain ⟨rec, hrec⟩ : ∃ rec : LoopState → Option Code → Loop, rec = fun st pe => { state := st, pending := pe, fn, tmps := a.tmps, params := ps, assign, body, defers := w.heap.size } := ⟨_, rfl⟩
  have hrr : ∀ s p s' p', { rec s p with state := s', pending := p' } = rec s' p' := by intro s p s' p'; rw [hrec]
  obtain ⟨W1, hW1⟩ : ∃ W1, (w.alloc (.deferred (some []))).alloc (.loop (rec .ready none)) = W1 := ⟨_, rfl⟩
  have hs1 : W1.heap.size = w.heap.size + 2 := by rw [← hW1]; simp
  have hl1 : W1.heap[w.heap.size + 1]? = some (.loop (rec .ready none)) := by
    rw [← hW1]; have := World.alloc_heap_new (w.alloc (.deferred (some []))) (.loop (rec .ready none)); rwa [World.size_alloc] at this
  have hD1 : W1.heap[w.heap.size]? = some (.deferred (some [])) := by
    rw [← hW1]; exact (Below.heap_alloc _ _ _ (by simp)).trans (World.alloc_heap_new w _)
  have hb1 : Below w.heap.size w W1 := by rw [← hW1]; exact ((Below.refl _ w).alloc (Nat.le_refl _) _).alloc (by simp) _
  have lt : ∀ {A : World} {k : Nat} {o : Obj}, A.heap[k]? = some o → k < A.heap.size := fun h => (Array.getElem?_eq_some_iff.1 h).1
  refine ⟨w.heap.size + 1, [{ target := .collected w.heap.size, args := #[] }], W1, { target := .fn (.func gf) lb, args := #[.func (.yield (w.heap.size + 1)) #[] #[]] }, W1, gf,
    #[.func (.yield (w.heap.size + 1)) #[] #[]] ++ lb, W1, ?_, ?_, fun _ _ => trivial, ?_, fun h => by simp [Fence.wide] at h, ?_⟩
  · rw [← hW1, hrec]; exact run_enterLoop_outer _ _ _ _ _
  · simp only [resolve, hg]
    simp [go_sem]
  · simp [invoke, go_sem, eg]
  · refine callsIn_wide.2 ?_
    refine (hit (w.heap.size + 1) (lpJ rec w.heap.size (w.heap.size + 1) I Ix) (fun k => M0 k ∨ k = w.heap.size ∨ k = w.heap.size + 1) W1 (Kpt.ofBelow _ hb1)
      (fun k hk h => h.elim (hRM k hk) fun h => by have := hR k hk; omega)
      (fun k h => h.elim (fun h => by have := hM0 k h; omega) fun h => by omega) (lp_abd hI hIx) ?_
      ⟨M0, fun _ => Iff.rfl, fun h => Nat.lt_irrefl _ (hM0 _ h), fun h => by have := hM0 _ h; omega, hD1, Or.inl ⟨rfl, hI _ _ _ _ h0 (Kpt.ofBelow _ hb1), hl1⟩⟩).mono ?_
    · rintro m pre x M W ⟨M1, hM, n1, n2, hD, ⟨_, hi, hl⟩ | ⟨hb, _⟩⟩ hfit hpre
      case inr => cases hb
      have hy := run_yield (P := P) (args := encs x) hl (by rw [hrec]; exact hps x)
      rw [hrec] at hy
      refine ⟨fn, _, assign, body, hy, roundIn_of_wpIn trivial (wide_any (wpIn_mono (hround _ pre x M1 W hi (fun k hk => hfit k ((hM k).2 (Or.inl hk))) n2 (Nat.lt_succ_self _) (lt hl) hpre) ?_))⟩
      intro e a1 V1 hV
      cases e with
      | normal =>
        obtain ⟨hb, hbody⟩ := hV
        have hl2 := (hb.block _ (lt hl)).trans hl
        have hD2 := (hb.block _ (lt hD)).trans hD
        have hbr := run_beginRound (P := P) hl2 (by rw [hrec])
        have e1 : { rec .ready none with state := .busy } = rec .busy none := by rw [hrec]
        rw [e1] at hbr
        have kp := kpt_put V1 (w.heap.size + 1) (.loop (rec .busy none))
        refine ⟨_, hbr, wide_any (wpIn_mono (hbody _ kp (by simp) (hI _ _ _ _ hi ((Kpt.ofBelow M1 hb).trans (kp.mono fun k hk h => n2 (h ▸ hk))))) ?_)⟩
        have hl3 : (V1.putObj (w.heap.size + 1) (.loop (rec .busy none))).heap[w.heap.size + 1]? = some (.loop (rec .busy none)) := World.putObj_heap_same (lt hl2)
        have hD3 : (V1.putObj (w.heap.size + 1) (.loop (rec .busy none))).heap[w.heap.size]? = some (.deferred (some [])) := (World.putObj_heap_other (by omega)).trans hD2
        have fin := fun {M' W3} (hg : Grw M1 M' (V1.putObj (w.heap.size + 1) (.loop (rec .busy none))) W3) => lp_end (P := P) (ys := pre ++ [x]) hrr hI hIx (by omega) hM n1 n2 ((Kpt.ofBelow _ hb).trans kp) hl3 hD3 hg
        rintro e a3 W3 hp
        cases e with
        | normal => obtain ⟨M', hi', hg'⟩ := hp; exact fin hg' none (Or.inl ⟨rfl, hi'⟩)
        | ret => obtain ⟨M', hi', hg'⟩ := hp; exact fin hg' (some .ret) (Or.inr ⟨_, rfl, hi'⟩)
        | exit id => obtain ⟨M', hi', hg'⟩ := hp; exact fin hg' (some (.exit id)) (Or.inr ⟨_, rfl, hi'⟩)
        | goto t => obtain ⟨M', hi', hg'⟩ := hp; exact fin hg' (some (.goto t)) (Or.inr ⟨_, rfl, hi'⟩)
        | panic ch => exact hp.elim
        | outgrown => exact hp.elim
      | exit id => exact hV.elim
      | goto t => exact hV.elim
      | ret => exact hV.elim
      | panic ch => exact hV.elim
      | outgrown => exact hV.elim
    · rintro e W2 ⟨⟨v, rfl⟩, b, pre, M, ⟨M1, hM, n1, n2, hD, h⟩, hg', ht, hf⟩
      have kp : ∀ o, Kpt M1 W2 (W2.putObj (w.heap.size + 1) o) := fun o => (kpt_put W2 _ o).mono fun k hk e => n2 (e ▸ hk)
      have hgr : ∀ o, Grw M0 M1 w (W2.putObj (w.heap.size + 1) o) := fun o =>
        ⟨⟨hg'.kept.os.trans hb1.os, hg'.kept.tape.trans hb1.tape, hg'.kept.output.trans hb1.output, by have := hg'.kept.size; simp; omega, fun k hk hn => by
            refine (World.putObj_heap_other (by omega)).trans ((hg'.kept.block k (by omega) ?_).trans (hb1.block k hk))
            rintro (h | h | h)
            · exact hn h
            · omega
            · omega⟩,
          fun k hk hkw => by
            rcases hg'.old k ((hM k).2 (Or.inl hk)) (by omega) with h | h | h
            · exact h
            · omega
            · omega,
          fun k hk => by rw [World.putObj_size]; exact hg'.fit k ((hM k).2 (Or.inl hk))⟩
      have hD2 : ∀ o, (W2.putObj (w.heap.size + 1) o).heap[w.heap.size]? = some (.deferred (some [])) := fun o => (World.putObj_heap_other (by omega)).trans hD
      rcases h with ⟨rfl, hi, hl⟩ | ⟨rfl, c, hi, hl⟩
      · refine ⟨none, _, by have := run_endLoop (P := P) hl (by rw [hrec]; simp); rw [hrec] at this; exact this, ?_⟩
        exact hdone _ pre M1 _ (Nat.le_refl _) (by rw [World.putObj_size]; exact lt hD) n1 (ht rfl) (hI _ _ _ _ hi (kp _)) (hgr _) (hD2 _)
      · refine ⟨some c, _, by have := run_endLoop (P := P) hl (by rw [hrec]; simp); rw [hrec] at this; exact this, ?_⟩
        exact hstop _ c pre M1 _ (Nat.le_refl _) (by rw [World.putObj_size]; exact lt hD) n1 (hf rfl) (hIx _ _ _ _ _ hi (kp _)) (hgr _) (hD2 _)

end Go.Proofs.YtmbmekcppmbokaaGreat

/-
  The library's maps.Values of a map of blocks: it hands out the blocks, in whatever order, to the rounds of whoever asks.
-/
namespace Go.Proofs.YtmbmekcppmbokaaGreat
open Go.RowKit Go.Maps Go.Sort

attribute [local go_sem] Oper.semAt_some

def encBk (q : Bk) : Array Value := #[bkV q]
set_option maxRecDepth 100000 in
theorem keyOf_str {v : Value} {kl : Lit} (h : keyOf Tryz.prog 37 v = some kl) : ∃ s, kl = .string s := by
  unfold keyOf at h
  rw [Tryz.underlying37] at h
  simp only at h
  split at h
  · obtain ⟨ls, _, rfl⟩ := Option.map_eq_some_iff.1 h
    exact ⟨_, rfl⟩
  · cases h
theorem Grw.step {M M' : Nat → Prop} {W A B : World} {r : Nat} (h : Grw M M' W A) (hg : A.grownBy B (some r)) (hr : W.heap.size ≤ r) : Grw M M' W B :=
  ⟨⟨hg.os.trans h.kept.os, hg.tape.trans h.kept.tape, hg.output.trans h.kept.output, Nat.le_trans h.kept.size hg.size, fun k hk hm =>
      (hg.block k (Nat.lt_of_lt_of_le hk h.kept.size) (fun e => by have := Option.some.inj e; omega)).trans (h.kept.block k hk hm)⟩, h.old, fun k hk => Nat.lt_of_lt_of_le (h.fit k hk) hg.size⟩
theorem Kpt.ofGrown {M : Nat → Prop} {A B : World} {r : Nat} (hg : A.grownBy B (some r)) (hr : ¬ M r) : Kpt M A B :=
  ⟨hg.os, hg.tape, hg.output, hg.size, fun k hk hm => hg.block k hk (fun e => hr (by rw [← Option.some.inj e]; exact hm))⟩
theorem ranges_of {A B : World} {b r n cnt : Nat} {D : DataW Unit} {left : Lit → Bool} (h : A.ranges Tryz.prog 37 rdB b r n D left cnt) (h1 : B.heap[b]? = A.heap[b]?) (h2 : B.heap[r]? = A.heap[r]?) : B.ranges Tryz.prog 37 rdB b r n D left cnt := by
  obtain ⟨es, clock, since, seen, c0, hb, F, hs, hD, hr, rest⟩ := h
  exact ⟨es, clock, since, seen, c0, h1.trans hb, F, hs, hD, h2.trans hr, rest⟩
theorem vals_perm {D : DataW Unit} {bs ps : List Bk} {left : Lit → Bool} (h : HasB D bs) (hd : bs.Pairwise (fun q r => q.p ≠ r.p)) (hC : Collected D left (ps.map (fun q => pfB q.p))) (hV : ∀ q ∈ ps, ∀ z, D.atKey (.string (pfB q.p)) z = dtB q) (hl : ∀ kl, left kl = false) : ps.Perm bs := by
  have n1 : ps.Nodup := by
    have := hC.1
    rw [List.nodup_iff_pairwise_ne, List.pairwise_map] at this
    exact this.imp (fun {a b} hne e => hne (by rw [e]))
  have n2 : bs.Nodup := hd.imp (fun {a b} hne e => hne (by rw [e]))
  refine (List.perm_ext_iff_of_nodup n1 n2).2 fun q => ⟨fun hq => ?_, fun hq => ?_⟩
  · have h1 := has_true_of_atKey (hV q hq)
    obtain ⟨r, hr, e⟩ := h.key _ h1
    have h2 := h.at' r hr (.agg [])
    rw [e, hV q hq (.agg [])] at h2
    rw [dtB_inj h2]; exact hr
  · have h1 := has_true_of_atKey (h.at' q hq)
    have h2 := (hC.2 (pfB q.p)).2 ⟨h1, hl _⟩
    obtain ⟨y, hy, e⟩ := List.mem_map.1 h2
    have h3 := hV y hy (.agg [])
    rw [show pfB y.p = pfB q.p from e, h.at' q hq (.agg [])] at h3
    rw [dtB_inj h3]; exact hy

set_option maxRecDepth 100000 in
set_option maxHeartbeats 2000000 in
theorem values_iter (Bm b nn : Nat) (D : DataW Unit) (bs : List Bk) (hH : HasB D bs) (hd : bs.Pairwise (fun q r => q.p ≠ r.p)) (w : World) (hm : w.cell? ⟨Bm, 0, none⟩ = some (.map (some b))) (hown : w.ownsMap Tryz.prog 37 rdB b nn D) :
    IterS Tryz.prog 92 #[.pointer (some ⟨Bm, 0, none⟩)] encBk (fun ys => ys.length ≤ Maps.size D) (fun ys => ys.Perm bs) (fun k => k = Bm ∨ k = b) w := by
  intro l J M W hk hRM hfit hA hRn hJ0
  have hBm : Bm < w.heap.size := World.block_lt_of_cell? w _ hm
  have hbl := hown.lt
  have hm' : W.cell? ⟨Bm, 0, none⟩ = some (.map (some b)) := (hk.cell hBm (Or.inl rfl)).trans hm
  have hown' : W.ownsMap Tryz.prog 37 rdB b nn D := by
    obtain ⟨es, clock, hb, F, hs, hD⟩ := hown
    exact ⟨es, clock, (hk.block b hbl (Or.inr rfl)).trans hb, F, hs, hD⟩
  have hMb : ¬ M b := hRM b (Or.inr rfl)
  have hbW : b < W.heap.size := Nat.lt_of_lt_of_le hbl hk.size
  have hMr : ¬ M W.heap.size := fun h => Nat.lt_irrefl _ (hfit _ h)
  refine (callsIn_wide (n := 9)).1 (callsIn_of_wp Tryz.func92 rfl trivial ?_ rfl)
  simp only [Tryz.ntmps92, List.size_toArray, List.length_cons, List.length_nil, Nat.reduceAdd, Nat.reduceSub, Array.replicate_succ, Array.replicate_zero, List.push_toArray, List.append_toArray, List.nil_append, List.cons_append]
  gi_wp2_with (first
    | (gi_at_range; refine wpListIn_range_own _ rfl _ 67 rfl 37 62 Tryz.keyPf Tryz.underlying67 _ b nn _ rfl hown' ?_; intro w0 hrg0 hg0 hs0)
    | gi_in)
  have hG0 : Grw M M W w0 := ⟨⟨hg0.os, hg0.tape, hg0.output, hg0.size, fun k hk' _ => hg0.block k hk' (by simp)⟩, fun _ h _ => h, fun k h => by have := hfit k h; omega⟩
  have hJ1 : J true [] M w0 := hA _ _ _ _ _ hJ0 ⟨hg0.os, hg0.tape, hg0.output, hg0.size, fun k hk' _ => hg0.block k hk' (by simp)⟩
  try go_frame
  gi_loopw [4] (fun _ wr => ∃ (left : Lit → Bool) (cnt : Nat) (ps : List Bk) (M' : Nat → Prop), wr.ranges Tryz.prog 37 rdB b W.heap.size nn D left cnt ∧ ps.length + cnt ≤ Maps.size D ∧ Collected D left (ps.map (fun q => pfB q.p)) ∧ (∀ q ∈ ps, ∀ z, D.atKey (.string (pfB q.p)) z = dtB q) ∧ J true ps M' wr ∧ Grw M M' W wr ∧ ¬ M' W.heap.size)
    (fun _ wr => wr.rangeLeft b W.heap.size)
  case atStart => exact ⟨_, _, [], M, hrg0, by simp, Collected.start D, by simp, hJ1, hG0, hMr⟩
  case round =>
    obtain ⟨left, cnt, ps, M', hrg, hcs, hC, hV, hJs, hG, hM'r⟩ := hrel
    have hM'b : ¬ M' b := fun h => hMb (hG.old b h hbW)
    gi_wp2_with (first
      | (gi_at_next; refine wpListIn_next_ranges _ rfl _ rfl 37 Tryz.keyPf rdB (fun v : Value => v) bkV (fun key kl hk => ⟨key, rfl⟩) (fun v y hv => by obtain ⟨c, rfl, _⟩ := rdB_inv hv; exact ⟨c, rfl⟩) b W.heap.size nn _ _ _ rfl hrg ?_ ?_)
      | gi_in)
    · intro hc0 hl0
      gi_wp2
      go_end0
      exact ⟨⟨_, rfl⟩, true, ps, M', hJs, hG, fun _ => vals_perm hH hd hC hV hl0, fun h => by cases h⟩
    · intro key c kl yd yp w2 cnt2 hkey hlk hv hat hrg2 hlt hg2 hs2 hen
      obtain ⟨c', ec, ey⟩ := rdB_inv hv
      obtain rfl : c = c' := bkV_inj ec
      obtain rfl : yd = dtB c := (Prod.mk.inj ey).1
      obtain ⟨s, rfl⟩ := keyOf_str hkey
      obtain ⟨r, hr, es⟩ := hH.key s (has_true_of_atKey hat)
      have hrc : r = c := dtB_inj (by have h1 := hH.at' r hr (.agg []); rw [es, hat (.agg [])] at h1; exact h1.symm)
      subst hrc
      subst es
      have hC2 : Collected D (fun z => left z && !z.sameKey (.string (pfB r.p))) ((ps ++ [r]).map (fun q => pfB q.p)) := by simpa using hC.step hlk hat
      have hV2 : ∀ q ∈ ps ++ [r], ∀ z, D.atKey (.string (pfB q.p)) z = dtB q := fun q hq => (List.mem_append.1 hq).elim (hV q) (fun e => by simp at e; subst e; exact hat)
      have hJ2 : J true ps M' w2 := hA _ _ _ _ _ hJs (Kpt.ofGrown hg2 hM'r)
      have hG2 : Grw M M' W w2 := hG.step hg2 (Nat.le_refl _)
      have hrW : W.heap.size < w2.heap.size := hrg2.lt
      have zb := (Below.refl w2.heap.size w2).alloc (Nat.le_refl _) (.cells #[.bool r.p.s, .int .i64 r.p.H.toInt, .int .i64 r.p.L.toInt, .int .i64 r.p.b, .string r.t] 62)
      have hJ3 := hA _ _ _ _ _ hJ2 (Kpt.ofBelow M' zb)
      have hG3 : Grw M M' W _ := hG2.trans (Grw.ofBelow zb hG2.fit)
      have hrg3 := hrg2.alloc (.cells #[.bool r.p.s, .int .i64 r.p.H.toInt, .int .i64 r.p.L.toInt, .int .i64 r.p.b, .string r.t] 62)
      have hbl3 := hrg3.owns.lt
      have hrl3 := hrg3.lt
      obtain ⟨fn, tmps, assign, body, hy, hR⟩ := hRn 8 ps r M' _ hJ3 hG3.fit (by show (ps ++ [r]).length ≤ Maps.size D; rw [List.length_append]; simp; omega)
      dsimp only [encBk, bkV] at hy
      dsimp only [bkV] at hen
      clear hs2
      gi_wp2
      refine hR.mono ?_
      rintro e W4 ⟨bb, M4, rfl, hJ4, hG4⟩
      have hM4r : ¬ M4 W.heap.size := fun h => hM'r (hG4.old _ h hrl3)
      have hrg4 := ranges_of hrg3 (hG4.kept.block b hbl3 hM'b) (hG4.kept.block W.heap.size hrl3 hM'r)
      cases bb
      · gi_wp2
        refine bodyPost_ret (results_none rfl _ _ _) rfl ?_
        exact ⟨⟨_, rfl⟩, false, ps ++ [r], M4, hJ4, hG3.trans hG4, fun h => (by cases h), fun _ => (by show (ps ++ [r]).length ≤ Maps.size D; rw [List.length_append]; simp; omega)⟩
      · gi_wp2
        go_roundw
        case rel => exact ⟨_, cnt2, ps ++ [r], M4, hrg4, by rw [List.length_append]; simp; omega, hC2, hV2, hJ4, hG3.trans hG4, hM4r⟩
        case measure => rw [hrg4.left_eq, hrg.left_eq]; exact hlt

end Go.Proofs.YtmbmekcppmbokaaGreat

/-
  The library's AppendSeq and Collect at rows of blocks: what an iterator hands out, one behind another in a row of its own.
-/
namespace Go.Proofs.YtmbmekcppmbokaaGreat
open Go.RowKit Go.Maps

attribute [local go_sem] Oper.semAt_some

theorem sizeA (w : World) (o : Obj) : (w.alloc o).heap.size = w.heap.size + 1 := by simp
theorem lt_heap {A : World} {k : Nat} {o : Obj} (h : A.heap[k]? = some o) : k < A.heap.size := (Array.getElem?_eq_some_iff.1 h).1
theorem Kpt.at {M : Nat → Prop} {A B : World} {k : Nat} {o : Obj} (hk : Kpt M A B) (hm : M k) (h : A.heap[k]? = some o) : B.heap[k]? = some o := (hk.block k (lt_heap h) hm).trans h
theorem kpt_set {M : Nat → Prop} (V : World) (p : Addr) (u : Value) (hm : M p.block) : Kpt (fun k => ¬ M k) V (V.setCell p u) :=
  ⟨rfl, rfl, rfl, by simp [World.setCell], fun k _ hk => Below.heap_setCell V p u k fun e => hk (e ▸ hm)⟩
theorem set1 {V : World} {k : Nat} {v u : Value} {t : TypeId} (h : V.heap[k]? = some (.cells #[v] t)) : (V.setCell ⟨k, 0, none⟩ u).heap[k]? = some (.cells #[u] t) := by
  simp [World.setCell, Array.getElem?_modify, h]
theorem of1 {V : World} {k : Nat} {v : Value} {t : TypeId} (h : V.heap[k]? = some (.cells #[v] t)) : V.cell? ⟨k, 0, none⟩ = some v ∧ V.frozen? ⟨k, 0, none⟩ = false := by
  constructor <;> simp [World.cell?, World.frozen?, h]
theorem wpListIn_appG {F : Fence} {fu : Nat} {α : Type} {K : Kd α} {z : Value} {bytes : Nat} {P : Program} {t e : TypeId} (h4 : GTy K z bytes P t e) {ops : Array Oper} {rest : List Oper} {o : Oper} {a : Act} {Q : Exit → Act → World → Prop} (w : World) (hgd : o.guard = none) (s x : Operand) (tx : TypeId)
    (ho : o.op = .call { callee := .builtin .append, args := #[s, x], argTypes := #[t, tx] })
    (B : Nat) (ad : Option Addr) (n cap m : Nat) (ps qs : List α) (xv : Value) (hsv : a.eval s = .slice ad n cap) (hn : n = ps.length) (hm : m = qs.length) (hown : OwnG K e w B (.slice ad n cap) ps)
    (hx : a.eval x = xv) (hs : Src P K.k tx xv m (gflat K qs) w) (hl : n + m ≤ 1000000000) (hB : B ≤ w.heap.size)
    (h : ∀ a' c' w', OwnG K e w' B (.slice a' (n + m) c') (ps ++ qs) → w.grownBy w' (Value.slice ad n cap).ownBlock → (a' = ad ∨ a' = some ⟨w.heap.size, 0, none⟩) → wpListIn F fu P ops Q rest (a.put o.dst (.slice a' (n + m) c')) w') : wpListIn F fu P ops Q (o :: rest) a w := by
  refine wpListIn_plain hgd fun K9 hK' => ?_
  obtain ⟨b, c, w', hr, h2, h3, h5⟩ := app_rowG h4 w B tx o.type ad n cap m ps qs xv hn hm hown hs hl hB
  unfold Oper.wpIn
  refine ⟨?_, ?_⟩
  · simp [Oper.about, ho, resolve, Target.leads, Sem.run_pure]
  · rw [Oper.semAt_plain F _ _ (by rw [ho]; intro c hc'; cases hc')]
    simp [execOp, ho, resolve, invoke, builtin, hsv, hx, hr, Result.andThen]
    exact hK' _ _ (h b c w' h2 h3 h5)

theorem OwnG.kptG {α : Type} {K : Kd α} {t : TypeId} {w w' : World} {B : Nat} {v : Value} {ps : List α} {M : Nat → Prop} (h : OwnG K t w B v ps) (hk : Kpt M w w') (hm : ∀ k, v.ownBlock = some k → M k) : OwnG K t w' B v ps := by
  refine ⟨h.1, ?_⟩
  rcases h.2 with h1 | ⟨g, cap, cur, hv, hb, hr, hr'⟩
  · exact Or.inl h1
  · exact Or.inr ⟨g, cap, cur, hv, hb, hk.at (hm g (by rw [hv]; rfl)) hr, hr'⟩
/-- The rounds of AppendSeq own the box and the row in it. -/
def apM (s : Nat) (v : Value) (k : Nat) : Prop := k = s ∨ v.ownBlock = some k

set_option maxRecDepth 10000 in
set_option maxHeartbeats 2000000 in
theorem appSeqB (gf : Nat) (lb : Array Value) (eg : ∀ args w, (callFunc gf args).run Tryz.prog w = .ok (.enter gf args) w) (N : Nat) (hl : N ≤ 100000) (Fu : List Bk → Prop) (R : Nat → Prop) (B : Nat) (w : World) (hit : IterS Tryz.prog gf lb encBk (fun ys => ys.length ≤ N) Fu R w) (hR : ∀ k, R k → k < w.heap.size) (hB : B ≤ w.heap.size) :
    Calls Tryz.prog 102 #[.slice none 0 0, .func (.func gf) #[] lb] w fun e w' => ∃ a' n' c' ys, e = .returned (.slice a' n' c') ∧ n' = ys.length ∧ Fu ys ∧ n' ≤ N ∧ OwnG KBk 62 w' B (.slice a' n' c') ys ∧ Below B w w' := by
  have HIt := hidP (hit.later (Kpt.ofBelow R ((Below.refl _ w).alloc (Nat.le_refl _) (.cells #[.slice none 0 0] 32))))
  have HR := hidP hR
  have HO := hidP (own_noneG KBk (w.alloc (.cells #[.slice none 0 0] 32)) B 62)
  have HEg := hidP eg
  clear hit hR eg
  refine (callsIn_wide (n := 9)).1 (callsIn_of_wp_marks Tryz.func102 rfl trivial ?_ rfl)
  simp only [Tryz.ntmps102, List.size_toArray, List.length_cons, List.length_nil, Nat.reduceAdd, Nat.reduceSub, Array.replicate_succ, Array.replicate_zero, List.push_toArray, List.append_toArray, List.nil_append, List.cons_append]
  gi_wp2
  have HN0 := hidP (World.alloc_heap_new w (.cells #[.slice none 0 0] 32))
  have hs1 : (w.alloc (.cells #[.slice none 0 0] 32)).heap.size = w.heap.size + 1 := by simp
  have HB1 := hidP ((Below.refl _ w).alloc (Nat.le_refl _) (.cells #[.slice none 0 0] 32))
  generalize w.alloc (.cells #[.slice none 0 0] 32) = W1 at *
  refine wp_rangeS (gf := gf) (lb := lb) rfl HEg.out HIt.out (fun _ => rfl) (fun k h => by have := HR.out k h; omega)
    (fun pre M V => ∃ ad c, pre.length ≤ N ∧ OwnG KBk 62 V B (.slice ad pre.length c) pre ∧ M = apM w.heap.size (.slice ad pre.length c) ∧ (Value.slice ad pre.length c).ownBlock ≠ some w.heap.size ∧ V.heap[w.heap.size]? = some (.cells #[.slice ad pre.length c] 32))
    (fun _ _ _ _ => False)
    (fun pre M A B' h hk => ?hI) (fun c pre M A B' h hk => h.elim) (apM w.heap.size (.slice none 0 0)) (fun k h => ?hfit) (fun k h hm => ?hdis) ⟨none, 0, Nat.zero_le _, HO.out, rfl, (fun h => by cases h), HN0.out⟩ ?round ?done ?stop
  case hI =>
    obtain ⟨ad, c, hN, ho, rfl, hne, hh⟩ := h
    exact ⟨ad, c, hN, ho.kptG hk (fun k h => Or.inr h), rfl, hne, hk.at (Or.inl rfl) hh⟩
  case hfit =>
    rcases h with h | h
    · omega
    · cases h
  case hdis =>
    rcases hm with hm | hm
    · have := HR.out k h; omega
    · cases hm
  case stop =>
    intro D c pre M1 V _ _ _ _ h
    exact h.elim
  case done =>
    rintro D ys M1 V hD hDl hMD hFu ⟨ad, c, hN, ho, rfl, hne, hh⟩ hg hK
    obtain ⟨v0, f0⟩ := of1 hh
    have lz := lt_heap hh
    have HE : Hid (OwnG KBk 62 (V.putObj D (.deferred none)) B (.slice ad ys.length c) ys ∧ Below B w (V.putObj D (.deferred none))) := by
      refine hidP ⟨ho.kptG (kpt_put V D _) (fun k h e => hMD (Or.inr (e ▸ h))), ?_⟩
      have hz := HB1.out.size
      refine ⟨hg.kept.os.trans HB1.out.os, hg.kept.tape.trans HB1.out.tape, hg.kept.output.trans HB1.out.output, by have := hg.kept.size; rw [World.putObj_size]; omega, fun k hk => (World.putObj_heap_other (by omega)).trans ((hg.kept.block k (by omega) ?_).trans (HB1.out.block k (by omega)))⟩
      rintro (h | h)
      · omega
      · cases h
    have HFN := hidP (And.intro hFu hN)
    clear ho hh hg hFu hN
    gi_wp2
    refine ⟨by simp, .inl ⟨_, _, rfl, run_takeDeferred hK, ?_⟩⟩
    exact ⟨_, results_tmp rfl _ _ _, ad, _, c, ys, rfl, rfl, HFN.out.1, HFN.out.2, HE.out⟩
  case round =>
    intro l' pre x M1 V _ hf hl' _ hlt hpre
    unfold encBk bkV
    refine rnd_of ?_
    intro K' HK'
    have HF0 := hidP hf
    have hpl0 : pre.length + 1 ≤ N := by
      have h9 : (pre ++ [x]).length ≤ N := hpre
      rw [List.length_append, List.length_singleton] at h9
      exact h9
    have hpl : pre.length + 1 ≤ 100000 := by omega
    have HPl := hidP hpl0
    clear hf hl' hpre hpl0
    gi_wp2
    refine HK'.out _ _ ⟨(Below.refl _ V).alloc (Nat.le_refl _) _, ?_⟩
    clear HK'
    rintro V2 hk2 hs2 ⟨ad, c, _, ho, rfl, hne, hh⟩
    obtain ⟨x0, x1, x2, x3, x4⟩ := boxBk (q := x) V 62
    have lV : V.heap.size < (V.alloc (.cells #[.bool x.p.s, .int .i64 x.p.H.toInt, .int .i64 x.p.L.toInt, .int .i64 x.p.b, .string x.t] 62)).heap.size := by simp
    have nV : V.heap.size ≠ l' := by omega
    have y0 := (hk2.cell (p := ⟨V.heap.size, 0, none⟩) lV nV).trans x0
    have y1 := (hk2.cell (p := ⟨V.heap.size, 1, none⟩) lV nV).trans x1
    have y2 := (hk2.cell (p := ⟨V.heap.size, 2, none⟩) lV nV).trans x2
    have y3 := (hk2.cell (p := ⟨V.heap.size, 3, none⟩) lV nV).trans x3
    have y4 := (hk2.cell (p := ⟨V.heap.size, 4, none⟩) lV nV).trans x4
    have hVs : V.heap.size < V2.heap.size := by rw [hs2]; exact lV
    obtain ⟨v0, f0⟩ := of1 hh
    have lz := lt_heap hh
    have HOw := hidP ho
    have HH := hidP hh
    have HNe := hidP hne
    have HFt : Hid (∀ k, apM w.heap.size (.slice ad pre.length c) k → k < V2.heap.size) := hidP fun k h => by have := HF0.out k h; omega
    obtain ⟨m, hm⟩ : ∃ m, m = pre.length := ⟨_, rfl⟩
    have HM := hidP hm
    rw [← hm] at hpl v0
    clear hk2 hs2 ho hh hne x0 x1 x2 x3 x4 lV nV hm
    have HOa := hidP (HOw.out.alloc (.cells #[.bool x.p.s, .int .i64 x.p.H.toInt, .int .i64 x.p.L.toInt, .int .i64 x.p.b, .string x.t] 62))
    have HRo := hidP ((own_oneG KBk V2 V2.heap.size 62 x (Nat.le_refl _)).row)
    have HSz := hidP (sizeA V2 (.cells #[.bool x.p.s, .int .i64 x.p.H.toInt, .int .i64 x.p.L.toInt, .int .i64 x.p.b, .string x.t] 62))
    gi_wp2_with (gi_at_builtin; refine wpListIn_appG Tryz.tyBk _ rfl (.tmp 8) (.tmp 10) 32 rfl B ad m c 1 pre [x] (.slice (some ⟨V2.heap.size, 0, none⟩) 1 1) rfl HM.out rfl (by rw [HM.out]; exact HOa.out) rfl (src_rowG Tryz.tyBk.1 1 1 (by show 0 < 5; omega) rfl HRo.out (fun h => by cases h)) (by omega) (by have := HSz.out; omega) ?_; intro a6 c6 w4 ho4 hg4 ht4; have HH4 := hidP ((hg4.block w.heap.size (by rw [HSz.out]; omega) (by rw [HM.out]; exact fun e => HNe.out e.symm)).trans ((Below.heap_alloc V2 _ w.heap.size lz).trans HH.out)); have v4 := (of1 HH4.out).1; have f4 := (of1 HH4.out).2; have lz4 := lt_heap HH4.out)
    have hlen : (pre ++ [x]).length = m + 1 := by rw [List.length_append, ← HM.out]; rfl
    have hnb : (Value.slice a6 (m + 1) c6).ownBlock ≠ some w.heap.size := by
      rcases ht4 with h | h
      · rw [h]; have := HNe.out; rw [← HM.out] at this
        cases ad <;> exact this
      · rw [h]; intro e
        have e2 : (V2.alloc (.cells #[.bool x.p.s, .int .i64 x.p.H.toInt, .int .i64 x.p.L.toInt, .int .i64 x.p.b, .string x.t] 62)).heap.size = w.heap.size := Option.some.inj e
        rw [HSz.out] at e2
        omega
    refine ⟨apM w.heap.size (.slice a6 (m + 1) c6), ⟨a6, c6, by rw [hlen, HM.out]; exact HPl.out, ?_, by rw [hlen], by rw [hlen]; exact hnb, by rw [hlen]; exact set1 HH4.out⟩, ?_⟩
    · rw [hlen]
      exact OwnG.kptG ho4 (kpt_set (M := fun k => k = w.heap.size) w4 ⟨w.heap.size, 0, none⟩ _ rfl) (fun k h e => hnb (e ▸ h))
    · have hz4 := hg4.size
      rw [HSz.out] at hz4
      refine ⟨⟨hg4.os, hg4.tape, hg4.output, by simp [World.setCell]; omega, fun k hk hn => ?_⟩, fun k h hk => ?_, fun k h => ?_⟩
      · refine (Below.heap_setCell w4 _ _ k (fun e => hn (Or.inl e))).trans ((hg4.block k (by rw [HSz.out]; omega) (fun e => hn (Or.inr ?_))).trans (Below.heap_alloc V2 _ k hk))
        rw [← HM.out]; exact e.symm
      · rcases h with h | h
        · exact Or.inl h
        · rcases ht4 with h' | h'
          · rw [h'] at h
            refine Or.inr ?_
            cases ad <;> exact h
          · rw [h'] at h
            have e2 : (V2.alloc (.cells #[.bool x.p.s, .int .i64 x.p.H.toInt, .int .i64 x.p.L.toInt, .int .i64 x.p.b, .string x.t] 62)).heap.size = k := Option.some.inj h
            rw [HSz.out] at e2
            omega
      · have hz5 : (w4.setCell ⟨w.heap.size, 0, none⟩ (.slice a6 (m + 1) c6)).heap.size = w4.heap.size := by simp [World.setCell]
        rw [hz5]
        rcases h with h | h
        · omega
        · exact (ho4.lt k h).2

end Go.Proofs.YtmbmekcppmbokaaGreat

/-
  The library's sort of rows of structs, laid at this program: one application of the guide's own contract.
-/
namespace Go.Proofs
open Go.Shelf
def Tryz.sortF_ren : Go.Shelf.Ren := ⟨fun | 6 => 91 | 15 => 104 | 14 => 103 | 28 => 120 | 29 => 121 | 20 => 112 | 21 => 113 | 22 => 114 | 23 => 115 | 24 => 116 | 25 => 117 | 26 => 118 | 27 => 119 | 46 => 126 | 47 => 127 | 48 => 128 | 49 => 129 | 50 => 130 | 57 => 134 | n => n, fun | 22 => 32 | 24 => 62 | 25 => 107 | 3 => 3 | 39 => 113 | 0 => 0 | 53 => 154 | 55 => 111 | 4 => 4 | 46 => 147 | 45 => 146 | 50 => 151 | 5 => 5 | 9 => 9 | 66 => 163 | 70 => 167 | 76 => 170 | 77 => 140 | n => n, fun | n => n⟩
theorem Tryz.sortF : Go.Proofs.SlLaysF0.n6 Tryz.prog Tryz.sortF_ren := {
  mixed := by kernel_rfl
  f6 := ⟨Tryz.f91.name, by decide, Tryz.func91.trans (congrArg some (by kernel_rfl))⟩
  f14 := ⟨Tryz.f103.name, by decide, Tryz.func103.trans (congrArg some (by kernel_rfl))⟩
  f15 := Tryz.func104.trans (congrArg some (by kernel_rfl))
  f20 := ⟨Tryz.f112.name, by decide, Tryz.func112.trans (congrArg some (by kernel_rfl))⟩
  f21 := ⟨Tryz.f113.name, by decide, Tryz.func113.trans (congrArg some (by kernel_rfl))⟩
  f22 := ⟨Tryz.f114.name, by decide, Tryz.func114.trans (congrArg some (by kernel_rfl))⟩
  f23 := ⟨Tryz.f115.name, by decide, Tryz.func115.trans (congrArg some (by kernel_rfl))⟩
  f24 := ⟨Tryz.f116.name, by decide, Tryz.func116.trans (congrArg some (by kernel_rfl))⟩
  f25 := ⟨Tryz.f117.name, by decide, Tryz.func117.trans (congrArg some (by kernel_rfl))⟩
  f26 := ⟨Tryz.f118.name, by decide, Tryz.func118.trans (congrArg some (by kernel_rfl))⟩
  f27 := ⟨Tryz.f119.name, by decide, Tryz.func119.trans (congrArg some (by kernel_rfl))⟩
  f28 := Tryz.func120.trans (congrArg some (by kernel_rfl))
  f29 := Tryz.func121.trans (congrArg some (by kernel_rfl))
  f46 := ⟨Tryz.f126.name, by decide, Tryz.func126.trans (congrArg some (by kernel_rfl))⟩
  f47 := Tryz.func127.trans (congrArg some (by kernel_rfl))
  f48 := Tryz.func128.trans (congrArg some (by kernel_rfl))
  f49 := ⟨Tryz.f129.name, by decide, Tryz.func129.trans (congrArg some (by kernel_rfl))⟩
  f50 := ⟨Tryz.f130.name, by decide, Tryz.func130.trans (congrArg some (by kernel_rfl))⟩
  f57 := ⟨Tryz.f134.name, by decide, Tryz.func134.trans (congrArg some (by kernel_rfl))⟩
  t0 := Tryz.underlying0
  a0 := Tryz.isAgg0
  z0 := Tryz.sizeOf0
  v0 := Tryz.zeroValue0
  t3 := Tryz.underlying3
  a3 := Tryz.isAgg3
  z3 := Tryz.sizeOf3
  v3 := Tryz.zeroValue3
  t4 := Tryz.underlying4
  a4 := Tryz.isAgg4
  z4 := Tryz.sizeOf4
  v4 := Tryz.zeroValue4
  t5 := Tryz.underlying5
  a5 := Tryz.isAgg5
  z5 := Tryz.sizeOf5
  v5 := Tryz.zeroValue5
  t9 := Tryz.underlying9
  a9 := Tryz.isAgg9
  z9 := Tryz.sizeOf9
  v9 := Tryz.zeroValue9
  t22 := Tryz.underlying32
  a22 := Tryz.isAgg32
  z22 := Tryz.sizeOf32
  v22 := Tryz.zeroValue32
  t25 := Tryz.underlying107
  a25 := Tryz.isAgg107
  z25 := Tryz.sizeOf107
  v25 := Tryz.zeroValue107
  t39 := Tryz.underlying113
  a39 := Tryz.isAgg113
  z39 := Tryz.sizeOf113
  v39 := Tryz.zeroValue113
  t45 := Tryz.underlying146
  a45 := Tryz.isAgg146
  z45 := Tryz.sizeOf146
  v45 := Tryz.zeroValue146
  t46 := Tryz.underlying147
  a46 := Tryz.isAgg147
  z46 := Tryz.sizeOf147
  v46 := Tryz.zeroValue147
  t50 := Tryz.underlying151
  a50 := Tryz.isAgg151
  z50 := Tryz.sizeOf151
  v50 := Tryz.zeroValue151
  t53 := Tryz.underlying154
  a53 := Tryz.isAgg154
  z53 := Tryz.sizeOf154
  v53 := Tryz.zeroValue154
  t55 := Tryz.underlying111
  a55 := Tryz.isAgg111
  z55 := Tryz.sizeOf111
  v55 := Tryz.zeroValue111
  t66 := Tryz.underlying163
  a66 := Tryz.isAgg163
  z66 := Tryz.sizeOf163
  v66 := Tryz.zeroValue163
  t70 := Tryz.underlying167
  a70 := Tryz.isAgg167
  z70 := Tryz.sizeOf167
  v70 := Tryz.zeroValue167
  t76 := Tryz.underlying170
  a76 := Tryz.isAgg170
  z76 := Tryz.sizeOf170
  v76 := Tryz.zeroValue170
  t77 := Tryz.underlying140
  a77 := Tryz.isAgg140
  z77 := Tryz.sizeOf140
  v77 := Tryz.zeroValue140 }
end Go.Proofs

/-
  The library's sort of rows of right blocks by their prefixes.
-/
namespace Go.Proofs.YtmbmekcppmbokaaGreat
open Go.RowKit Go.Sort Go.Shelf

theorem iCmpPM (p q : Pf) (hp : p.pk = true) (hq : q.pk = true) (w : World) :
    Calls Tryz.prog 93 #[.agg #[.bool p.s, .int .i64 p.H.toInt, .int .i64 p.L.toInt, .int .i64 p.b], .agg #[.bool q.s, .int .i64 q.H.toInt, .int .i64 q.L.toInt, .int .i64 q.b]] w fun e w' => e = .returned (.int .i64 (cmpP p q)) ∧ Mn.Below w.heap.size w w' := by
  have h := (pokB_parts hp).1
  have h' := (pokB_parts hq).1
  have hz : Nrm p.s p.H.toInt p.L.toInt p.s p.H.toInt p.L.toInt := Or.inl ⟨h, rfl, rfl, rfl⟩
  have hz' : Nrm q.s q.H.toInt q.L.toInt q.s q.H.toInt q.L.toInt := Or.inl ⟨h', rfl, rfl, rfl⟩
  obtain ⟨r0, r1, r2, hr, rt, rf, r2e⟩ := Rank_ex p.s p.H.toInt p.L.toInt
  obtain ⟨q0, q1, q2, hr', qt, qf, q2e⟩ := Rank_ex q.s q.H.toInt q.L.toInt
  have hi := Mn.iCmp_ne p.s p.H.toInt p.L.toInt q.s q.H.toInt q.L.toInt p.s p.H.toInt p.L.toInt q.s q.H.toInt q.L.toInt r0 r1 r2 q0 q1 q2 hz hr hz' hr'
  rw [wrapU] at rt r2e qt q2e
  have hk := cmp_keys p.s p.H p.L q.s q.H q.L h h' r0 r1 r2 q0 q1 q2 ⟨rt, rf, r2e⟩ ⟨qt, qf, q2e⟩
  rw [hk] at hi
  exact Mn.iCmpPrefix_any p.s p.H.toInt p.L.toInt p.b q.s q.H.toInt q.L.toInt q.b _ hi w

set_option maxHeartbeats 1000000 in
theorem cmpBlockM (x y : Bk) (hx : x.p.pk = true) (hy : y.p.pk = true) (w : World) :
    Calls Tryz.prog 71 #[.agg #[.bool x.p.s, .int .i64 x.p.H.toInt, .int .i64 x.p.L.toInt, .int .i64 x.p.b, .string x.t], .agg #[.bool y.p.s, .int .i64 y.p.H.toInt, .int .i64 y.p.L.toInt, .int .i64 y.p.b, .string y.t]] w fun e w' => e = .returned (.int .i64 (cmpP x.p y.p)) ∧ Mn.Below w.heap.size w w' := by
  have HC := hidP (iCmpPM x.p y.p hx hy)
  clear hx hy
  go_enter Tryz.func71, Tryz.ntmps71
  go_wp2_with fail
  refine (HC.out _).mono ?_
  rintro e w2 ⟨rfl, hb2⟩
  have B2 := hidP (((Mn.Below.refl w.heap.size w).alloc (Nat.le_refl _) (.cells #[.bool x.p.s, .int .i64 x.p.H.toInt, .int .i64 x.p.L.toInt, .int .i64 x.p.b, .string x.t] 62)).alloc (by simp) (.cells #[.bool y.p.s, .int .i64 y.p.H.toInt, .int .i64 y.p.L.toInt, .int .i64 y.p.b, .string y.t] 62))
  have B3 := hidP (B2.out.trans (hb2.mono (by simp; omega)))
  clear hb2
  go_wp2_with fail
  go_ret
  exact ⟨rfl, B3.out⟩
theorem grow_ofM {w w' : World} (h : Mn.Below w.heap.size w w') : ∃ q os', w' = grow (w.drewN q) os' := by
  obtain ⟨p, hp⟩ := regrown_of_below h.b
  refine ⟨w'.drawn - w.drawn, p.os, ?_⟩
  have hd : w'.drawn = p.d := by rw [hp]; rfl
  have e : redrawn w p.d = w.drewN (w'.drawn - w.drawn) := by
    have := h.d
    unfold redrawn World.drewN
    congr 1
    omega
  rw [← e]; exact hp

/-- A block that is right. -/
def RB : Type := { q : Bk // q.p.pk = true }
instance : Inhabited RB := ⟨⟨⟨⟨false, 0, 0, 0⟩, ⟨#[]⟩⟩, by kernel_rfl⟩⟩
def cfB (x y : RB) : Int := cmpP x.1.p y.1.p
def csB (x : RB) : List Value := x.1.cs
theorem swoB : SWO (ltOf cfB) := by
  refine ⟨fun x => ?_, fun x y z h1 h2 => ?_, fun x y z h1 h2 => ?_⟩
  · refine decide_eq_false ?_
    show ¬ cmpP x.1.p x.1.p < 0
    rw [cmp_neg]
    cases hx : x.1.p.s <;> simp
  · have h1' : cmpP x.1.p y.1.p < 0 := of_decide_eq_true h1
    have h2' : cmpP y.1.p z.1.p < 0 := of_decide_eq_true h2
    refine decide_eq_true ?_
    show cmpP x.1.p z.1.p < 0
    rw [cmp_neg] at h1' h2' ⊢
    cases hx : x.1.p.s <;> cases hy : y.1.p.s <;> cases hz : z.1.p.s <;> simp [hx, hy, hz] at h1' h2' ⊢ <;> omega
  · have h1' : ¬ cmpP x.1.p y.1.p < 0 := of_decide_eq_false h1
    have h2' : ¬ cmpP y.1.p z.1.p < 0 := of_decide_eq_false h2
    refine decide_eq_false ?_
    show ¬ cmpP x.1.p z.1.p < 0
    rw [cmp_neg] at h1' h2' ⊢
    cases hx : x.1.p.s <;> cases hy : y.1.p.s <;> cases hz : z.1.p.s <;> simp [hx, hy, hz] at h1' h2' ⊢ <;> omega
theorem laysB (blk off size : Nat) (w : World) : CmpLays Tryz.prog 71 #[] csB 5 cfB blk off size w := fun _ _ _ _ x y =>
  (cmpBlockM x.1 y.1 x.2 y.2 _).mono fun _ _ h => ⟨h.1, grow_ofM h.2⟩

end Go.Proofs.YtmbmekcppmbokaaGreat

/-
  The library's SortFunc, Collect and SortedFunc at blocks, and the program's rising: the blocks of a map in the order of their prefixes.
-/
namespace Go.Proofs.YtmbmekcppmbokaaGreat
open Go.RowKit Go.Sort Go.Shelf Go.Maps

theorem flat_gf (d : Array RB) : ∀ t, t < d.size * 5 → (gflat KBk (d.toList.map (fun x => x.1)))[t]? = some ((csB d[t / 5]!)[t % 5]!) := fun t ht => by
  have hj : t / 5 < d.size := by omega
  have hq : (d.toList.map (fun x => x.1))[t / 5]? = some (d[t / 5]!).1 := by
    rw [List.getElem?_map, Array.getElem?_toList, getElem!_pos d (t / 5) hj]
    simp [hj]
  have h1 := gflat_at KBk _ (t / 5) _ hq (t % 5) (by show t % 5 < 5; omega)
  have e : t / 5 * KBk.k + t % 5 = t := by show t / 5 * 5 + t % 5 = t; omega
  rw [e] at h1
  rw [h1]
  have hl : t % 5 < (csB d[t / 5]!).length := by show t % 5 < 5; omega
  show (csB d[t / 5]!)[t % 5]? = _
  rw [List.getElem?_eq_getElem hl, getElem!_pos (csB d[t / 5]!) (t % 5) hl]
theorem flat_list (d : Array RB) : gflat KBk (d.toList.map (fun x => x.1)) = (flatK csB 5 d).toList := by
  apply List.ext_getElem?
  intro t
  by_cases ht : t < d.size * 5
  · rw [flat_gf d t ht, Array.getElem?_toList]
    simp [flatK, ht]
  · rw [List.getElem?_eq_none (by rw [gflat_len]; simp; show d.size * 5 ≤ t; omega), List.getElem?_eq_none (by simp; omega)]
theorem holdsB {w : World} {B g n cap : Nat} {t : TypeId} (d : Array RB) (hn : n = d.size) (h : OwnG KBk t w B (.slice (some ⟨g, 0, none⟩) n cap) (d.toList.map (fun x => x.1))) : HoldsK csB 5 w g 0 d := fun j hj => by
  rw [size_flatK] at hj
  have hlen : (d.toList.map (fun x => x.1)).length = d.size := by simp
  unfold OwnG at h
  rw [hlen] at h
  subst hn
  have hc := World.ownsRow.cellAt h j (by show j < d.size * 5; omega)
  have hf := World.ownsRow.frozenAt h j
  rw [Nat.zero_add]
  refine ⟨?_, hf⟩
  rw [hc, get_flatK csB 5 d j hj]
  exact flat_gf d j hj
theorem ownSorted {w : World} {B g n cap m : Nat} {t : TypeId} {os : Array Obj} (d d' : Array RB) (hs : d'.size = d.size) (hn : n = d.size) (h : OwnG KBk t w B (.slice (some ⟨g, 0, none⟩) n cap) (d.toList.map (fun x => x.1))) :
    OwnG KBk t (sortWorldK csB 5 w g 0 m d' os) B (.slice (some ⟨g, 0, none⟩) n cap) (d'.toList.map (fun x => x.1)) ∧ w.grownBy (sortWorldK csB 5 w g 0 m d' os) (some g) := by
  rcases h.2 with ⟨hv, _⟩ | ⟨g', cap', cur, hv, hb, hr, h1, h2, h3, h4⟩
  · simp at hv
  · simp only [Value.slice.injEq, Option.some.injEq, Addr.mk.injEq, and_true] at hv
    obtain ⟨rfl, hnl, rfl⟩ := hv
    have hgl : g < w.heap.size := (Array.getElem?_eq_some_iff.1 hr).1
    have h3' : cur.size = cap * 5 := h3
    have hl : (d.toList.map (fun x => x.1)).length = d.size := by simp
    have hl' : (d'.toList.map (fun x => x.1)).length = d.size := by simp [hs]
    rw [hl] at h1
    have hh : (sortWorldK csB 5 w g 0 m d' os).heap[g]? = some (.cells (putCells id 0 (flatK csB 5 d') cur) t (0, 0)) := by
      unfold sortWorldK
      rw [heap_grow_old _ _ (by simpa [putRowK] using hgl)]
      simp [putRowK, putRow, mapBlock, Sort.ahead, Array.getElem?_modify, hr, onCells]
    refine ⟨⟨by rw [gflat_len], Or.inr ⟨g, cap, _, by rw [hl', hn], hb, hh, by rw [hl']; exact h1, h2, by simp [putCells]; exact h3', ?_⟩⟩, ?_⟩
    · rw [hl', flat_list d']
      apply List.ext_getElem?
      intro j
      show ((putCells id 0 (flatK csB 5 d') cur).toList.take (d.size * 5))[j]? = _
      by_cases hj : j < d.size * 5
      · rw [List.getElem?_take_of_lt hj, Array.getElem?_toList, Array.getElem?_toList]
        have hjc : j < cur.size := by rw [h3']; omega
        have hjf : j < (flatK csB 5 d').size := by rw [size_flatK, hs]; exact hj
        simp only [putCells, Nat.zero_le, true_and, Nat.zero_add, Nat.sub_zero]
        have hjf' : j < d'.size * 5 := by rw [hs]; exact hj
        simp [hjc, hjf', getElem!_pos]
      · rw [List.getElem?_take_eq_none (by omega), List.getElem?_eq_none (by simp; omega)]
    · refine ⟨rfl, rfl, rfl, by simp [sortWorldK, putRowK], fun k hk hne => ?_⟩
      have hkg : ¬ g = k := fun e => hne (by rw [e])
      unfold sortWorldK
      rw [heap_grow_old _ _ (by simpa [putRowK] using hk)]
      simp [putRowK, putRow, mapBlock, Sort.ahead, Array.getElem?_modify, hkg]

theorem mapVal : ∀ {ys : List Bk} (hA : ∀ y ∈ ys, y.p.pk = true), (ys.pmap (fun y h => (⟨y, h⟩ : RB)) hA).toArray.toList.map (fun x => x.1) = ys
  | [], _ => rfl
  | y :: r, hA => congrArg (y :: ·) (mapVal (ys := r) fun z hz => hA z (List.mem_cons_of_mem _ hz))

set_option maxRecDepth 10000 in
theorem sortB_any (g n cap B : Nat) (ys : List Bk) (hn : n = ys.length) (hA : ∀ y ∈ ys, y.p.pk = true) (hl : n ≤ 100000) (w : World) (h : OwnG KBk 62 w B (.slice (some ⟨g, 0, none⟩) n cap) ys) :
    Calls Tryz.prog 91 #[.slice (some ⟨g, 0, none⟩) n cap, .func (.func 71) #[] #[]] w fun e w' => e = .returned (.tuple #[]) ∧ (∃ R : List Bk, R.Perm ys ∧ R.Pairwise (fun x y => ¬ cmpP y.p x.p < 0) ∧ OwnG KBk 62 w' B (.slice (some ⟨g, 0, none⟩) n cap) R) ∧ w.grownBy w' (some g) := by
  obtain ⟨d, hd⟩ : ∃ d : Array RB, d.toList.map (fun x => x.1) = ys := ⟨(ys.pmap (fun y h => (⟨y, h⟩ : RB)) hA).toArray, mapVal hA⟩
  have hds : d.size = n := by rw [hn, ← hd]; simp
  subst hd
  have hgl : g < w.heap.size := (OwnG.lt h g rfl).2
  have hS := AnyQ.slices_SortFunc Tryz.sortF 5 (fun w => Tryz.isAgg62 w) (fun w => Tryz.sizeOf62 w) csB (fun x => rfl) (fun x v hv => KBk.one x.1 v hv) cfB swoB 71 #[] g 0 cap d w (enters_of Tryz.func71 (by kernel_rfl) rfl) (laysB g 0 d.size w) (holdsB d hds.symm h) hgl (by omega)
  rw [hds] at hS
  refine Calls.mono hS ?_
  rintro e w' ⟨rfl, d', m, os, hp, hs, rfl⟩
  obtain ⟨ho, hg⟩ := ownSorted (m := m) (os := os) d d' hp.1 hds.symm h
  refine ⟨rfl, ⟨_, ?_, ?_, ho⟩, hg⟩
  · have h9 := hp.2.2
    rw [← hds] at h9
    have e1 : d'.extract 0 d.size = d' := by rw [← hp.1]; simp
    rw [e1, Array.extract_size] at h9
    exact h9.map _
  · rw [List.pairwise_map, List.pairwise_iff_getElem]
    intro i j hi hj hij
    have h9 := hs i j (Nat.zero_le _) hij (by rw [← hds, ← hp.1]; simpa using hj)
    have hi' : i < d'.size := by simpa using hi
    have hj' : j < d'.size := by simpa using hj
    rw [getElem!_pos d' i hi', getElem!_pos d' j hj'] at h9
    exact of_decide_eq_false h9

end Go.Proofs.YtmbmekcppmbokaaGreat

/-
  The library's Collect and SortedFunc at blocks, and the program's rising: the blocks of a map in the order of their prefixes.
-/
namespace Go.Proofs.YtmbmekcppmbokaaGreat
open Go.RowKit Go.Sort Go.Shelf Go.Maps

set_option maxHeartbeats 1000000 in
theorem collectB (gf : Nat) (lb : Array Value) (eg : ∀ args w, (callFunc gf args).run Tryz.prog w = .ok (.enter gf args) w) (N : Nat) (hl : N ≤ 100000) (Fu : List Bk → Prop) (R : Nat → Prop) (B : Nat) (w : World) (hit : IterS Tryz.prog gf lb encBk (fun ys => ys.length ≤ N) Fu R w) (hR : ∀ k, R k → k < w.heap.size) (hB : B ≤ w.heap.size) :
    Calls Tryz.prog 90 #[.func (.func gf) #[] lb] w fun e w' => ∃ a' n' c' ys, e = .returned (.slice a' n' c') ∧ n' = ys.length ∧ Fu ys ∧ n' ≤ N ∧ OwnG KBk 62 w' B (.slice a' n' c') ys ∧ Below B w w' := by
  have HC := hidP (appSeqB gf lb eg N hl Fu R B w hit hR hB)
  clear hit hR eg
  go_enter Tryz.func90, Tryz.ntmps90
  go_wp2_with fail
  refine HC.out.mono ?_
  rintro e w2 ⟨a', n', c', ys, rfl, h1⟩
  have H1 := hidP h1
  clear h1 HC
  go_wp2_with fail
  go_ret
  exact ⟨a', n', c', ys, rfl, H1.out⟩

theorem sortAny (a : Option Addr) (n cap B : Nat) (ys : List Bk) (hn : n = ys.length) (hA : ∀ y ∈ ys, y.p.pk = true) (hl : n ≤ 100000) (w : World) (h : OwnG KBk 62 w B (.slice a n cap) ys) (hB : B ≤ w.heap.size) :
    Calls Tryz.prog 91 #[.slice a n cap, .func (.func 71) #[] #[]] w fun e w' => e = .returned (.tuple #[]) ∧ (∃ R : List Bk, R.Perm ys ∧ R.Pairwise (fun x y => ¬ cmpP y.p x.p < 0) ∧ OwnG KBk 62 w' B (.slice a n cap) R) ∧ Below B w w' := by
  rcases h.2 with ⟨hv, he⟩ | ⟨g, cap', cur, hv, hb, hr⟩
  · obtain ⟨rfl, rfl, rfl⟩ := Value.slice.inj hv
    have : ys = [] := List.eq_nil_of_length_eq_zero hn.symm
    subst this
    refine (AnyF.slices_SortFunc_none Tryz.sortF none 0 _ w).mono ?_
    rintro e w' ⟨rfl, rfl⟩
    exact ⟨rfl, ⟨[], List.Perm.refl _, List.Pairwise.nil, h⟩, Below.refl _ _⟩
  · obtain ⟨rfl, _, _⟩ := Value.slice.inj hv
    refine (sortB_any g n cap B ys hn hA hl w h).mono ?_
    rintro e w' ⟨rfl, h1, hg⟩
    exact ⟨rfl, h1, Below.grown (Below.refl B w) hg hB (fun j hj => by cases hj; exact hb)⟩

set_option maxHeartbeats 1000000 in
theorem sortedB (gf : Nat) (lb : Array Value) (eg : ∀ args w, (callFunc gf args).run Tryz.prog w = .ok (.enter gf args) w) (N : Nat) (hl : N ≤ 100000) (Fu : List Bk → Prop) (R : Nat → Prop) (B : Nat) (w : World) (hit : IterS Tryz.prog gf lb encBk (fun ys => ys.length ≤ N) Fu R w) (hR : ∀ k, R k → k < w.heap.size) (hB : B ≤ w.heap.size)
    (hA : ∀ ys, Fu ys → ∀ y ∈ ys, y.p.pk = true) :
    Calls Tryz.prog 69 #[.func (.func gf) #[] lb, .func (.func 71) #[] #[]] w fun e w' => ∃ a' n' c' ys, e = .returned (.slice a' n' c') ∧ n' = ys.length ∧ (∃ zs, Fu zs ∧ ys.Perm zs) ∧ ys.Pairwise (fun x y => ¬ cmpP y.p x.p < 0) ∧ OwnG KBk 62 w' B (.slice a' n' c') ys ∧ Below B w w' := by
  have HC := hidP (collectB gf lb eg N hl Fu R B w hit hR hB)
  clear hit hR eg
  go_enter Tryz.func69, Tryz.ntmps69
  go_wp2_with fail
  refine HC.out.mono ?_
  rintro e w2 ⟨a', n', c', ys, rfl, hn, hF, hN, ho, hb⟩
  have HS := hidP (sortAny a' n' c' B ys hn (hA ys hF) (by omega) w2 ho (Nat.le_trans hB hb.size))
  have HF := hidP (And.intro hn (And.intro hF hb))
  clear HC hn hF ho hb hA
  go_wp2_with fail
  refine HS.out.mono ?_
  rintro e w3 ⟨rfl, ⟨R', hp, hs, ho⟩, hb⟩
  have H3 := hidP (And.intro hp (And.intro hs (And.intro ho hb)))
  clear HS hp hs ho hb
  go_wp2_with fail
  go_ret
  exact ⟨a', n', c', rfl, R', HF.out.1.trans H3.out.1.length_eq.symm, ⟨ys, HF.out.2.1, H3.out.1⟩, H3.out.2.1, H3.out.2.2.1, HF.out.2.2.trans H3.out.2.2.2⟩

set_option maxHeartbeats 1000000 in
theorem values_any (b : Nat) (w : World) :
    Calls Tryz.prog 70 #[.map (some b)] w fun e w' => e = .returned (.func (.func 92) #[] #[.pointer (some ⟨w.heap.size, 0, none⟩)]) ∧ w' = w.alloc (.cells #[.map (some b)] 67) := by
  go_enter Tryz.func70, Tryz.ntmps70
  go_wp2_with fail
  go_ret
  exact ⟨rfl, rfl⟩

set_option maxRecDepth 10000 in
set_option maxHeartbeats 1000000 in
theorem rising_any (b nn : Nat) (D : DataW Unit) (bs : List Bk) (hH : HasB D bs) (hd : bs.Pairwise (fun q r => q.p ≠ r.p)) (hA : ∀ y ∈ bs, y.p.pk = true) (hl : nn ≤ 100000) (w : World) (hown : w.ownsMap Tryz.prog 37 rdB b nn D) :
    Calls Tryz.prog 37 #[.map (some b)] w fun e w' => ∃ a' n' c' ys, e = .returned (.slice a' n' c') ∧ n' = ys.length ∧ ys.Perm bs ∧ ys.Pairwise (fun x y => ¬ cmpP y.p x.p < 0) ∧ OwnG KBk 62 w' w.heap.size (.slice a' n' c') ys ∧ Below w.heap.size w w' := by
  have hbl := hown.lt
  have hown1 := hown.alloc (.cells #[.map (some b)] 67)
  have hm1 : (w.alloc (.cells #[.map (some b)] 67)).cell? ⟨w.heap.size, 0, none⟩ = some (.map (some b)) := by unfold World.cell?; rw [World.alloc_heap_new]; rfl
  have hit := values_iter w.heap.size b nn D bs hH hd (w.alloc (.cells #[.map (some b)] 67)) hm1 hown1
  have HS := hidP (sortedB 92 #[.pointer (some ⟨w.heap.size, 0, none⟩)] (enters_of Tryz.func92 (by kernel_rfl) rfl) (Maps.size D) (Nat.le_trans hown.size_le hl) (fun ys => ys.Perm bs) _ w.heap.size _ hit (fun k h => by simp; rcases h with h | h <;> omega) (by simp) (fun ys hp y hy => hA y (hp.mem_iff.1 hy)))
  have HV := hidP (values_any b w)
  have HB := hidP ((Below.refl w.heap.size w).alloc (Nat.le_refl _) (.cells #[.map (some b)] 67))
  clear hown hown1 hm1 hit hH hd hA hbl
  go_enter Tryz.func37, Tryz.ntmps37
  go_wp2_with fail
  refine HV.out.mono ?_
  rintro e w2 ⟨rfl, rfl⟩
  clear HV
  generalize w.alloc (.cells #[.map (some b)] 67) = W1 at *
  go_wp2_with fail
  refine HS.out.mono ?_
  rintro e w3 ⟨a', n', c', ys, rfl, hn, ⟨zs, hz, hp⟩, hs, ho, hb⟩
  have H3 := hidP (And.intro hn (And.intro (hp.trans hz) (And.intro hs (And.intro ho (HB.out.trans hb)))))
  clear HS hn hz hp hs ho hb
  go_wp2_with fail
  go_ret
  exact ⟨a', n', c', rfl, ys, H3.out⟩

end Go.Proofs.YtmbmekcppmbokaaGreat

/-
  Blocks of a right plan: in strict order, and what is left of them when one goes.
-/
namespace Go.Proofs.YtmbmekcppmbokaaGreat
open Go.RowKit Go.Maps

theorem cmp_trans {p q r : Pf} (h1 : cmpP p q < 0) (h2 : cmpP q r < 0) : cmpP p r < 0 := by
  rw [cmp_neg] at h1 h2 ⊢
  cases hx : p.s <;> cases hy : q.s <;> cases hz : r.s <;> simp [hx, hy, hz] at h1 h2 ⊢ <;> omega
theorem cmp_irr (p : Pf) : ¬ cmpP p p < 0 := by
  rw [cmp_neg]; cases hx : p.s <;> simp
theorem blocks_sorted {ps : List Pl} : ∀ (bs : List Bk) (r : Option Pf), blocksI ps r bs = true → (∀ q ∈ bs, q.p.pk = true) ∧ bs.Pairwise (fun q r => cmpP q.p r.p < 0) ∧ ∀ p, r = some p → ∀ q ∈ bs, cmpP p q.p < 0
  | [], _, _ => ⟨(fun _ h => by cases h), List.Pairwise.nil, fun _ _ _ h => by cases h⟩
  | q :: t, r, h => by
      unfold blocksI at h
      rw [Bool.and_eq_true, Bool.and_eq_true, Bool.and_eq_true] at h
      obtain ⟨⟨⟨_, h1⟩, h2⟩, h3⟩ := h
      obtain ⟨d1, d2, d3⟩ := blocks_sorted t (some q.p) h3
      have d3' := d3 q.p rfl
      refine ⟨fun x hx => ?_, List.pairwise_cons.2 ⟨fun x hx => d3' x hx, d2⟩, fun p e x hx => ?_⟩
      · rcases List.mem_cons.1 hx with rfl | hx
        · exact carB_pk h1
        · exact d1 x hx
      · subst e
        have h2' : folB p q.p = true := h2
        unfold folB at h2'
        rw [Bool.and_eq_true, decide_eq_true_eq] at h2'
        rcases List.mem_cons.1 hx with rfl | hx
        · exact h2'.1
        · exact cmp_trans h2'.1 (d3' x hx)
theorem plan_bs {ps : List Pl} {bs : List Bk} (h : planB ps bs = true) : (ps.length ≤ 20 ∧ bs.length ≤ 60) ∧ (∀ q ∈ bs, q.p.pk = true) ∧ bs.Pairwise (fun q r => cmpP q.p r.p < 0) := by
  unfold planB at h
  rw [Bool.and_eq_true, Bool.and_eq_true, Bool.and_eq_true, decide_eq_true_eq, decide_eq_true_eq] at h
  obtain ⟨h0, _, h1⟩ := h
  have h2 := blocks_sorted bs none h1
  exact ⟨h0, h2.1, h2.2.1⟩
theorem apart_of {bs : List Bk} (h : bs.Pairwise (fun q r => cmpP q.p r.p < 0)) : bs.Pairwise (fun q r => q.p ≠ r.p) := h.imp fun {a b} hc (e : a.p = b.p) => cmp_irr b.p (by rw [e] at hc; exact hc)
theorem bit_of {p : Pf} (h : p.pk = true) : bitW p := by
  obtain ⟨h1, h2, _⟩ := pk_parts h
  have h3 : wd p.s ≤ 128 := by unfold wd; split <;> omega
  have m1 : IntKind.i64.min = -9223372036854775808 := by decide
  have m2 : IntKind.i64.max = 9223372036854775807 := by decide
  unfold bitW
  simp [Lit.wf, m1, m2]
  omega
theorem sorted_one : ∀ (S R : List Bk), R.Perm S → S.Pairwise (fun q r => cmpP q.p r.p < 0) → R.Pairwise (fun x y => ¬ cmpP y.p x.p < 0) → R = S
  | [], R, hp, _, _ => hp.eq_nil
  | s :: S, [], hp, _, _ => by have := hp.length_eq; simp at this
  | s :: S, r :: R, hp, hS, hR => by
      have e : r = s := by
        rcases List.mem_cons.1 (hp.mem_iff.1 (List.mem_cons_self (a := r) (l := R))) with h | h
        · exact h
        · rcases List.mem_cons.1 (hp.mem_iff.2 (List.mem_cons_self (a := s) (l := S))) with h' | h'
          · exact h'.symm
          · exact absurd ((List.pairwise_cons.1 hS).1 r h) ((List.pairwise_cons.1 hR).1 s h')
      subst e
      rw [sorted_one S R ((List.perm_cons r).1 hp) (List.pairwise_cons.1 hS).2 (List.pairwise_cons.1 hR).2]
theorem filter_erase {pt : Pf} (hpt : bitW pt) : ∀ (bs : List Bk) (i : Nat) (q : Bk), bs[i]? = some q → q.p = pt → bs.Pairwise (fun q r => q.p ≠ r.p) → (∀ r ∈ bs, bitW r.p) → bs.filter (fun r => !decide (pfB r.p = pfB pt)) = bs.eraseIdx i
  | [], i, q, h, _, _, _ => by simp at h
  | x :: t, 0, q, h, hq, hd, hw => by
      have hx : x = q := by simpa using h
      subst hx
      rw [List.filter_cons, if_neg (by simp [hq]), List.eraseIdx_cons_zero]
      refine List.filter_eq_self.2 fun r hr => ?_
      have hne := (List.pairwise_cons.1 hd).1 r hr
      have : pfB r.p ≠ pfB pt := fun e => hne (by rw [hq]; exact (pfB_inj (hw r (List.mem_cons_of_mem _ hr)) hpt e).symm)
      simp [this]
  | x :: t, i + 1, q, h, hq, hd, hw => by
      have h' : t[i]? = some q := by simpa using h
      have hne := (List.pairwise_cons.1 hd).1 q (List.mem_of_getElem? h')
      have : pfB x.p ≠ pfB pt := fun e => hne (by rw [hq]; exact pfB_inj (hw x List.mem_cons_self) hpt e)
      rw [List.filter_cons, if_pos (by simp [this]), List.eraseIdx_cons_succ, filter_erase hpt t i q h' hq (List.pairwise_cons.1 hd).2 (fun r hr => hw r (List.mem_cons_of_mem _ hr))]
theorem sub_strict {bs : List Bk} (f : Bk → Bool) (h : bs.Pairwise (fun q r => cmpP q.p r.p < 0)) : (bs.filter f).Pairwise (fun q r => cmpP q.p r.p < 0) := h.filter f

theorem Tryz.zeroBk5 (w : World) : (zeroValue 62).run Tryz.prog w = .ok (.agg #[.bool false, .int .i64 0, .int .i64 0, .int .i64 0, .string ⟨#[]⟩]) w := by
  obtain ⟨i0, hi, hz0, hz1, hz2⟩ := info_parts Tryz.tyBk.2.1
  simp [zeroValue, typeInfo, hi, hz0]
theorem rdB_zero : rdB (.agg #[.bool false, .int .i64 0, .int .i64 0, .int .i64 0, .string ⟨#[]⟩]) = some (dtB ⟨⟨false, 0, 0, 0⟩, ⟨#[]⟩⟩, []) := rdB_mk ⟨⟨false, 0, 0, 0⟩, ⟨#[]⟩⟩
theorem owns_below {w w' : World} {b n N : Nat} {D : DataW Unit} (h : w.ownsMap Tryz.prog 37 rdB b n D) (hb : Below N w w') (hl : b < N) : w'.ownsMap Tryz.prog 37 rdB b n D := by
  obtain ⟨es, clock, h1, h2⟩ := h
  exact ⟨es, clock, (hb.block b hl).trans h1, h2⟩
/-- 'v, ok := m[k]' where the block is there, and where it is not. -/
theorem wpList_lookB {bs : List Bk} {D : DataW Unit} {n : Nat} (w : World) {ops : Array Oper} {rest : List Oper} {o : Oper} {a : Act} {Q : Exit → Act → World → Prop} (hg : o.guard = none) (m x : Operand) (hop : o.op = Op.lookup 67 m x true)
    (b : Nat) (pt : Pf) (q : Bk) (hH : HasB D bs) (hq : q ∈ bs) (hp : q.p = pt) (hm : a.eval m = .map (some b)) (hown : w.ownsMap Tryz.prog 37 rdB b n D) (hx : a.eval x = pfV pt)
    (hK : wpList Tryz.prog ops Q rest (a.put o.dst (.tuple #[.agg #[.bool q.p.s, .int .i64 q.p.H.toInt, .int .i64 q.p.L.toInt, .int .i64 q.p.b, .string q.t], .bool true])) w) : wpList Tryz.prog ops Q (o :: rest) a w := by
  subst hp
  refine wpList_lookup_own_ok w hg m x _ hop 37 62 Tryz.keyPf Tryz.underlying67 rdB (Tryz.zeroBk5 w) (dtB ⟨⟨false, 0, 0, 0⟩, ⟨#[]⟩⟩) [] rdB_zero b n D hm hown _ _ hx (keyOf_pf (hH.wf q hq)) ?_
  intro v ps hv
  rw [hH.at' q hq] at hv
  obtain ⟨r, rfl, e⟩ := rdB_inv hv
  have e2 := dtB_inj (congrArg Prod.fst e)
  subst e2
  rw [has_true_of_atKey (hH.at' q hq)]
  exact hK
theorem wpList_lookN {bs : List Bk} {D : DataW Unit} {n : Nat} (w : World) {ops : Array Oper} {rest : List Oper} {o : Oper} {a : Act} {Q : Exit → Act → World → Prop} (hg : o.guard = none) (m x : Operand) (hop : o.op = Op.lookup 67 m x true)
    (b : Nat) (pt : Pf) (hH : HasB D bs) (hw : bitW pt) (hn : ∀ q ∈ bs, q.p ≠ pt) (hm : a.eval m = .map (some b)) (hown : w.ownsMap Tryz.prog 37 rdB b n D) (hx : a.eval x = pfV pt)
    (hK : ∀ q : Bk, wpList Tryz.prog ops Q rest (a.put o.dst (.tuple #[.agg #[.bool q.p.s, .int .i64 q.p.H.toInt, .int .i64 q.p.L.toInt, .int .i64 q.p.b, .string q.t], .bool false])) w) : wpList Tryz.prog ops Q (o :: rest) a w := by
  refine wpList_lookup_own_ok w hg m x _ hop 37 62 Tryz.keyPf Tryz.underlying67 rdB (Tryz.zeroBk5 w) (dtB ⟨⟨false, 0, 0, 0⟩, ⟨#[]⟩⟩) [] rdB_zero b n D hm hown _ _ hx (keyOf_pf hw) ?_
  intro v ps hv
  obtain ⟨r, rfl, e⟩ := rdB_inv hv
  have hf : Maps.has D (.string (pfB pt)) = false := by
    cases hh : Maps.has D (.string (pfB pt))
    · rfl
    · obtain ⟨q, hq, e⟩ := hH.key _ hh
      exact absurd (pfB_inj (hH.wf q hq) hw e) (hn q hq)
  rw [hf]
  exact hK r

end Go.Proofs.YtmbmekcppmbokaaGreat
