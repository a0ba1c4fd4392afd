/-
  The program's CmpAddr and CmpPrefix once more, with one word more: what the walk draws is only counted on.
-/
import Derived.Test.YtdbcdichmmcnbaaGreatZK12
namespace Go.Proofs.YtdbcdichmmcnbaaGreat.Mn
open Go.RowKit

/-- Nothing old has turned, and draws are only counted on. -/
structure Below (B : Nat) (w w' : World) : Prop where
  b : Go.RowKit.Below B w w'
  d : w.drawn ≤ w'.drawn
theorem Below.refl (B : Nat) (w : World) : Below B w w := ⟨Go.RowKit.Below.refl _ _, Nat.le_refl _⟩
theorem Below.trans {B : Nat} {a b c : World} (h : Below B a b) (k : Below B b c) : Below B a c := ⟨h.b.trans k.b, Nat.le_trans h.d k.d⟩
theorem Below.mono {B B' : Nat} {w w' : World} (h : Below B w w') (hB : B' ≤ B) : Below B' w w' := ⟨h.b.mono hB, h.d⟩
theorem Below.drew {B : Nat} {a w : World} (h : Below B a w) : Below B a w.drew := ⟨h.b.drew, Nat.le_trans h.d (Nat.le_succ _)⟩
theorem Below.alloc {B : Nat} {a w : World} (h : Below B a w) (hB : B ≤ w.heap.size) (o : Obj) : Below B a (w.alloc o) := ⟨h.b.alloc hB o, h.d⟩
theorem Below.setCell {B : Nat} {a w : World} (h : Below B a w) {p : Addr} (hp : B ≤ p.block) (u : Value) : Below B a (w.setCell p u) := ⟨h.b.setCell hp u, h.d⟩
theorem Below.cell {B : Nat} {w w' : World} (h : Below B w w') {p : Addr} (hp : p.block < B) : w'.cell? p = w.cell? p := h.b.cell hp
theorem Below.frozen {B : Nat} {w w' : World} (h : Below B w w') {p : Addr} (hp : p.block < B) : w'.frozen? p = w.frozen? p := h.b.frozen hp
theorem Below.size {B : Nat} {w w' : World} (h : Below B w w') : w.heap.size ≤ w'.heap.size := h.b.size
theorem below_drewN {B : Nat} {a w : World} (h : Below B a w) (n : Nat) : Below B a (w.drewN n) := ⟨Go.RowKit.Below.mk h.b.os h.b.tape h.b.output h.b.size h.b.block, Nat.le_trans h.d (Nat.le_add_right _ _)⟩
theorem olds {W w1 : World} {n : Nat} (hb : Below n W w1) :
    (∀ b o, b < n → w1.cell? ⟨b, o, none⟩ = W.cell? ⟨b, o, none⟩) ∧ (∀ b o, b < n → w1.frozen? ⟨b, o, none⟩ = W.frozen? ⟨b, o, none⟩) :=
  ⟨fun _ _ h => hb.cell h, fun _ _ h => hb.frozen h⟩
theorem olds_k {K : Prop} {W w1 : World} {B : Nat} (n : Nat) (hb : Below B W w1) (hn : n ≤ B)
    (k : (∀ b o, b < n → w1.cell? ⟨b, o, none⟩ = W.cell? ⟨b, o, none⟩) → (∀ b o, b < n → w1.frozen? ⟨b, o, none⟩ = W.frozen? ⟨b, o, none⟩) → K) : K :=
  k (olds (hb.mono hn)).1 (olds (hb.mono hn)).2

set_option maxHeartbeats 400000 in
theorem iAddrOk_any (s : Bool) (h l : Int) (w : World) :
    Calls Tryz.prog 99 #[.agg #[.bool s, .int .i64 h, .int .i64 l]] w fun e w' => e = .returned (.bool (okB s h l)) ∧ Below w.heap.size w w' := by
  cases s
  · by_cases hh : h = 0
    · subst hh
      by_cases h0 : 0 ≤ l
      · by_cases h1 : l ≤ 4294967295
        · rw [okB_yes l h0 h1]
          go_enter Tryz.func99, Tryz.ntmps99
          go_wp2
          go_ret
          exact ⟨rfl, (Below.refl _ _).alloc (Nat.le_refl _) _⟩
        · rw [okB_hi l h1]
          go_enter Tryz.func99, Tryz.ntmps99
          go_wp2
          go_ret
          exact ⟨rfl, (Below.refl _ _).alloc (Nat.le_refl _) _⟩
      · rw [okB_lo l h0]
        go_enter Tryz.func99, Tryz.ntmps99
        go_wp2
        go_ret
        exact ⟨rfl, (Below.refl _ _).alloc (Nat.le_refl _) _⟩
    · have hb : (h == 0) = false := by simp [hh]
      rw [okB_h h l hb]
      clear hh
      go_enter Tryz.func99, Tryz.ntmps99
      go_wp2
      go_ret
      exact ⟨rfl, (Below.refl _ _).alloc (Nat.le_refl _) _⟩
  · rw [okB_t]
    go_enter Tryz.func99, Tryz.ntmps99
    go_wp2
    go_ret
    exact ⟨rfl, (Below.refl _ _).alloc (Nat.le_refl _) _⟩

set_option maxHeartbeats 400000 in
theorem addrOrZero_any (s : Bool) (h l : Int) (S : Bool) (H L : Int) (hz : Nrm s h l S H L) (w : World) :
    Calls Tryz.prog 174 #[.agg #[.bool s, .int .i64 h, .int .i64 l]] w fun e w' => e = .returned (.agg #[.bool S, .int .i64 H, .int .i64 L]) ∧ Below w.heap.size w w' := by
  rcases hz with ⟨ok, rfl, rfl, rfl⟩ | ⟨ok, rfl, rfl, rfl⟩
  · have HK : Hid (okB S H L = true) := ok
    clear ok
    go_enter Tryz.func174, Tryz.ntmps174
    go_wp2_with fail
    refine (iAddrOk_any S H L _).mono ?_
    rw [HK.out]
    rintro e w1 ⟨rfl, hb⟩
    obtain ⟨hc, hf⟩ := olds (n := w.heap.size + 2) (hb.mono (by simp))
    have hz := hb.size
    simp at hz
    go_wp2
    exact bodyPost_ret (v := .agg #[.bool S, .int .i64 H, .int .i64 L]) (by simp [results, Tryz.results174, go_sem, hc]) rfl ⟨rfl, (((((Below.refl _ w).alloc (Nat.le_refl _) _).alloc (by simp) _).trans (hb.mono (by simp; omega))).setCell (by simp) _).setCell (by simp) _ |>.setCell (by simp) _⟩
  · have HK : Hid (okB s h l = false) := ok
    clear ok
    go_enter Tryz.func174, Tryz.ntmps174
    go_wp2_with fail
    refine (iAddrOk_any s h l _).mono ?_
    rw [HK.out]
    rintro e w1 ⟨rfl, hb⟩
    obtain ⟨hc, hf⟩ := olds (n := w.heap.size + 2) (hb.mono (by simp))
    have hz := hb.size
    simp at hz
    go_wp2
    exact bodyPost_ret (v := .agg #[.bool false, .int .i64 0, .int .i64 0]) (by simp [results, Tryz.results174, go_sem, hc]) rfl ⟨rfl, (((((Below.refl _ w).alloc (Nat.le_refl _) _).alloc (by simp) _).trans (hb.mono (by simp; omega))).setCell (by simp) _).setCell (by simp) _ |>.setCell (by simp) _⟩

set_option maxHeartbeats 400000 in
theorem rankOf_any (s : Bool) (h l : Int) (S : Bool) (H L r0 r1 r2 : Int) (hz : Nrm s h l S H L) (hr : Rank S H L r0 r1 r2) (w : World) :
    Calls Tryz.prog 157 #[.agg #[.bool s, .int .i64 h, .int .i64 l]] w fun e w' => e = .returned (.agg #[.int .u64 r0, .int .u64 r1, .int .u64 r2]) ∧ Below w.heap.size w w' := by
  rcases hr with ⟨rfl, rfl, rfl, rfl⟩ | ⟨rfl, rfl, rfl, rfl⟩
  all_goals
    go_enter Tryz.func157, Tryz.ntmps157
    go_wp2_with fail
    refine (addrOrZero_any _ _ _ _ _ _ hz _).mono ?_
    rintro e w1 ⟨rfl, hb⟩
    obtain ⟨hc, hf⟩ := olds (n := w.heap.size + 2) (hb.mono (by simp))
    have hz := hb.size
    simp at hz
    go_wp2
  · generalize IntKind.u64.wrap H = r1
    generalize IntKind.u64.wrap L = r2
    refine bodyPost_ret (v := .agg #[.int .u64 1, .int .u64 r1, .int .u64 r2]) (by simp [results, Tryz.results157, go_sem, hc]) rfl ⟨rfl, ?_⟩
    have b1 : Below w.heap.size w w1 := (((Below.refl _ w).alloc (Nat.le_refl _) _).alloc (by simp) _).trans (hb.mono (by simp; omega))
    exact (((((b1.setCell (by simp) _).setCell (by simp) _).setCell (by simp) _).setCell (by simp) _).setCell (by simp) _).setCell (by simp) _
  · generalize IntKind.u64.wrap L = r2
    refine bodyPost_ret (v := .agg #[.int .u64 0, .int .u64 0, .int .u64 r2]) (by simp [results, Tryz.results157, go_sem, hc]) rfl ⟨rfl, ?_⟩
    have b1 : Below w.heap.size w w1 := (((Below.refl _ w).alloc (Nat.le_refl _) _).alloc (by simp) _).trans (hb.mono (by simp; omega))
    exact (((((b1.setCell (by simp) _).setCell (by simp) _).setCell (by simp) _).setCell (by simp) _).setCell (by simp) _).setCell (by simp) _

theorem six_of_below {W X : World} {n b c : Nat} {v0 v1 v2 u0 u1 u2 : Value} (hB : Below n W X) (hb : b < n) (hc : c < n)
    (k : W.cell? ⟨b, 0, none⟩ = some v0 ∧ W.cell? ⟨b, 1, none⟩ = some v1 ∧ W.cell? ⟨b, 2, none⟩ = some v2 ∧ W.cell? ⟨c, 0, none⟩ = some u0 ∧ W.cell? ⟨c, 1, none⟩ = some u1 ∧ W.cell? ⟨c, 2, none⟩ = some u2) :
    X.cell? ⟨b, 0, none⟩ = some v0 ∧ X.cell? ⟨b, 1, none⟩ = some v1 ∧ X.cell? ⟨b, 2, none⟩ = some v2 ∧ X.cell? ⟨c, 0, none⟩ = some u0 ∧ X.cell? ⟨c, 1, none⟩ = some u1 ∧ X.cell? ⟨c, 2, none⟩ = some u2 := by
  obtain ⟨k0, k1, k2, k3, k4, k5⟩ := k
  exact ⟨(hB.cell hb).trans k0, (hB.cell hb).trans k1, (hB.cell hb).trans k2, (hB.cell hc).trans k3, (hB.cell hc).trans k4, (hB.cell hc).trans k5⟩

set_option maxHeartbeats 8000000 in
theorem iCmp_ne (s : Bool) (h l : Int) (s' : Bool) (h' l' : Int) (S : Bool) (H L : Int) (S' : Bool) (H' L' : Int) (r0 r1 r2 q0 q1 q2 : Int)
    (hz : Nrm s h l S H L) (hr : Rank S H L r0 r1 r2) (hz' : Nrm s' h' l' S' H' L') (hr' : Rank S' H' L' q0 q1 q2) (w : World) :
    Calls Tryz.prog 139 #[.agg #[.bool s, .int .i64 h, .int .i64 l], .agg #[.bool s', .int .i64 h', .int .i64 l']] w fun e w' => e = .returned (.int .i64 (cmp3 r0 r1 r2 q0 q1 q2)) ∧ Below w.heap.size w w' := by
  go_enter Tryz.func139, Tryz.ntmps139
  go_upto_region 1 with fail
  go_cut [5, 6] (fun t5 t6 wc => ∃ p q : Nat, t5 = .pointer (some ⟨p, 0, none⟩) ∧ t6 = .pointer (some ⟨q, 0, none⟩)
    ∧ (wc.cell? ⟨p, 0, none⟩ = some (.int .u64 r0) ∧ wc.cell? ⟨p, 1, none⟩ = some (.int .u64 r1) ∧ wc.cell? ⟨p, 2, none⟩ = some (.int .u64 r2))
    ∧ (wc.cell? ⟨q, 0, none⟩ = some (.int .u64 q0) ∧ wc.cell? ⟨q, 1, none⟩ = some (.int .u64 q1) ∧ wc.cell? ⟨q, 2, none⟩ = some (.int .u64 q2))
    ∧ Below w.heap.size w wc)
  case first =>
    go_region_held3 (fun x => x.cell? ⟨w.heap.size, 0, none⟩ = some (.bool s) ∧ x.cell? ⟨w.heap.size, 1, none⟩ = some (.int .i64 h) ∧ x.cell? ⟨w.heap.size, 2, none⟩ = some (.int .i64 l)
        ∧ x.cell? ⟨w.heap.size + 1, 0, none⟩ = some (.bool s') ∧ x.cell? ⟨w.heap.size + 1, 1, none⟩ = some (.int .i64 h') ∧ x.cell? ⟨w.heap.size + 1, 2, none⟩ = some (.int .i64 l')) ((refine six_of_below (W := (w.alloc (.cells #[.bool s, .int .i64 h, .int .i64 l] 29)).alloc (.cells #[.bool s', .int .i64 h', .int .i64 l'] 29)) (n := w.heap.size + 2) ?_ (Nat.lt_add_of_pos_right (Nat.succ_pos _)) (Nat.lt_succ_self _) ⟨by simp [go_sem], by simp [go_sem], by simp [go_sem], by simp [go_sem], by simp [go_sem], by simp [go_sem]⟩; repeat (first | with_reducible exact Below.refl _ _ | (with_reducible refine Below.drew ?_) | (with_reducible refine Below.alloc ?_ ?_ _; rotate_left; (focus (first | omega | (simp; omega) | (simp; done)))) | (with_reducible refine Below.setCell ?_ ?_ _; rotate_left; (focus (first | omega | (simp; omega) | (simp; done)))) | (with_reducible refine Below.trans ?_ (hb2.mono ?_); rotate_left; (focus (first | omega | (simp; omega) | (simp; done)))) | (with_reducible refine Below.trans ?_ (hb1.mono ?_); rotate_left; (focus (first | omega | (simp; omega) | (simp; done)))))))
      (first
        | (go_at_call_of 157 (Value.int .i64 h); refine (rankOf_any s h l S H L r0 r1 r2 hz hr _).mono ?_; rintro e w1 ⟨rfl, hb1⟩; have hz1 := hb1.size; (try simp at hz1); (first | (refine ltk (w.heap.size) (w1.heap.size) ?_ ?_; (focus omega); intro f0) | skip); (first | (refine ltk (w.heap.size + 1) (w1.heap.size) ?_ ?_; (focus omega); intro f1) | skip); (first | (refine ltk (w.heap.size + 2) (w1.heap.size) ?_ ?_; (focus omega); intro f2) | skip); (first | (refine ltk (w.heap.size + 3) (w1.heap.size) ?_ ?_; (focus omega); intro f3) | skip); (first | (refine olds_k (w.heap.size + 4) hb1 ?_ ?_; (focus (first | omega | (simp; omega) | (simp; done))); intro hc1 hf1) | (refine olds_k (w.heap.size + 3) hb1 ?_ ?_; (focus (first | omega | (simp; omega) | (simp; done))); intro hc1 hf1) | (refine olds_k (w.heap.size + 2) hb1 ?_ ?_; (focus (first | omega | (simp; omega) | (simp; done))); intro hc1 hf1)))
        | (go_at_call_of 157 (Value.int .i64 h'); refine (rankOf_any s' h' l' S' H' L' q0 q1 q2 hz' hr' _).mono ?_; rintro e w2 ⟨rfl, hb2⟩; have hz2 := hb2.size; (try simp at hz2); (first | (refine ltk (w.heap.size) (w2.heap.size) ?_ ?_; (focus omega); intro g0) | skip); (first | (refine ltk (w.heap.size + 1) (w2.heap.size) ?_ ?_; (focus omega); intro g1) | skip); (first | (refine ltk (w.heap.size + 2) (w2.heap.size) ?_ ?_; (focus omega); intro g2) | skip); (first | (refine ltk (w.heap.size + 3) (w2.heap.size) ?_ ?_; (focus omega); intro g3) | skip); (first | (refine ltk (w1.heap.size) (w2.heap.size) ?_ ?_; (focus omega); intro k0) | skip); (first | (refine ltk (w1.heap.size + 1) (w2.heap.size) ?_ ?_; (focus omega); intro k1) | skip); (first | (refine olds_k (w.heap.size + 4) hb2 ?_ ?_; (focus (first | omega | (simp; omega) | (simp; done))); intro hc2 hf2) | (refine olds_k (w.heap.size + 3) hb2 ?_ ?_; (focus (first | omega | (simp; omega) | (simp; done))); intro hc2 hf2) | (refine olds_k (w.heap.size + 2) hb2 ?_ ?_; (focus (first | omega | (simp; omega) | (simp; done))); intro hc2 hf2)); (first | (refine olds_k (w1.heap.size + 2) hb2 ?_ ?_; (focus (first | omega | (simp; omega) | (simp; done))); intro hc3 hf3) | (refine olds_k (w1.heap.size + 1) hb2 ?_ ?_; (focus (first | omega | (simp; omega) | (simp; done))); intro hc3 hf3) | (refine olds_k (w1.heap.size) hb2 ?_ ?_; (focus (first | omega | (simp; omega) | (simp; done))); intro hc3 hf3))))
    all_goals
      go_wp2_with fail
      go_meet
      refine ⟨_, _, rfl, rfl, ⟨?_, ?_, ?_⟩, ⟨?_, ?_, ?_⟩, ?_⟩
      all_goals try (go_simp; done)
      repeat (first | with_reducible exact Below.refl _ _ | (with_reducible refine Below.drew ?_) | (with_reducible refine Below.alloc ?_ ?_ _; rotate_left; (focus (first | omega | (simp; omega) | (simp; done)))) | (with_reducible refine Below.setCell ?_ ?_ _; rotate_left; (focus (first | omega | (simp; omega) | (simp; done)))) | (with_reducible refine Below.trans ?_ (hb2.mono ?_); rotate_left; (focus (first | omega | (simp; omega) | (simp; done)))) | (with_reducible refine Below.trans ?_ (hb1.mono ?_); rotate_left; (focus (first | omega | (simp; omega) | (simp; done)))))
  case rest =>
    obtain ⟨p, q, rfl, rfl, ⟨x0, x1, x2⟩, ⟨y0, y1, y2⟩, hb⟩ := hcut
    cases hE : (r0 == q0 && (r1 == q1 && r2 == q2))
    · have hq : ∀ wx, (Op.equalIn 10000 201 (.agg #[.int .u64 r0, .int .u64 r1, .int .u64 r2]) (.agg #[.int .u64 q0, .int .u64 q1, .int .u64 q2])).run Tryz.prog wx = .ok false wx := fun wx => by rw [eqArr, hE]
      clear hE
      go_wp2_with fail
      go_quiet ((go_at_call 158; exact Calls.quiet_of_same (slCompare_any r0 r1 r2 q0 q1 q2 p q _ x0 x1 x2 y0 y1 y2)))
      go_wp2
      go_ret
      exact ⟨rfl, below_drewN hb _⟩
    · have hq : ∀ wx, (Op.equalIn 10000 201 (.agg #[.int .u64 r0, .int .u64 r1, .int .u64 r2]) (.agg #[.int .u64 q0, .int .u64 q1, .int .u64 q2])).run Tryz.prog wx = .ok true wx := fun wx => by rw [eqArr, hE]
      have HZ : Hid (cmp3 r0 r1 r2 q0 q1 q2 = 0) := cmp3_same hE
      clear hE
      go_wp2
      go_ret
      exact ⟨ret_int HZ.out.symm, hb⟩

theorem eight_of_below' {W X : World} {n b c : Nat} {v0 v1 v2 v3 u0 u1 u2 u3 : Value} (hB : Below n W X) (hb : b < n) (hc : c < n)
    (k : W.cell? ⟨b, 0, none⟩ = some v0 ∧ W.cell? ⟨b, 1, none⟩ = some v1 ∧ W.cell? ⟨b, 2, none⟩ = some v2 ∧ W.cell? ⟨b, 3, none⟩ = some v3 ∧ W.cell? ⟨c, 0, none⟩ = some u0 ∧ W.cell? ⟨c, 1, none⟩ = some u1 ∧ W.cell? ⟨c, 2, none⟩ = some u2 ∧ W.cell? ⟨c, 3, none⟩ = some u3) :
    X.cell? ⟨b, 0, none⟩ = some v0 ∧ X.cell? ⟨b, 1, none⟩ = some v1 ∧ X.cell? ⟨b, 2, none⟩ = some v2 ∧ X.cell? ⟨b, 3, none⟩ = some v3 ∧ X.cell? ⟨c, 0, none⟩ = some u0 ∧ X.cell? ⟨c, 1, none⟩ = some u1 ∧ X.cell? ⟨c, 2, none⟩ = some u2 ∧ X.cell? ⟨c, 3, none⟩ = some u3 := by
  obtain ⟨k0, k1, k2, k3, k4, k5, k6, k7⟩ := k
  exact ⟨(hB.cell hb).trans k0, (hB.cell hb).trans k1, (hB.cell hb).trans k2, (hB.cell hb).trans k3, (hB.cell hc).trans k4, (hB.cell hc).trans k5, (hB.cell hc).trans k6, (hB.cell hc).trans k7⟩

set_option maxHeartbeats 1000000 in
theorem iCmpPrefix_any (s : Bool) (h l b : Int) (s' : Bool) (h' l' b' : Int) (c : Int) (hc : ∀ w : World, Calls Tryz.prog 139 #[.agg #[.bool s, .int .i64 h, .int .i64 l], .agg #[.bool s', .int .i64 h', .int .i64 l']] w fun e w' => e = .returned (.int .i64 c) ∧ Below w.heap.size w w') (w : World) :
    Calls Tryz.prog 108 #[.agg #[.bool s, .int .i64 h, .int .i64 l, .int .i64 b], .agg #[.bool s', .int .i64 h', .int .i64 l', .int .i64 b']] w fun e w' => e = .returned (.int .i64 (orI c (cmpW b b'))) ∧ Below w.heap.size w w' := by
  have HC : Hid (∀ w : World, _) := hc
  clear hc
  go_enter Tryz.func108, Tryz.ntmps108
  go_wp2_with fail
  go_region_held3 (fun x => x.cell? ⟨w.heap.size, 0, none⟩ = some (.bool s) ∧ x.cell? ⟨w.heap.size, 1, none⟩ = some (.int .i64 h) ∧ x.cell? ⟨w.heap.size, 2, none⟩ = some (.int .i64 l) ∧ x.cell? ⟨w.heap.size, 3, none⟩ = some (.int .i64 b) ∧ x.cell? ⟨w.heap.size + 1, 0, none⟩ = some (.bool s') ∧ x.cell? ⟨w.heap.size + 1, 1, none⟩ = some (.int .i64 h') ∧ x.cell? ⟨w.heap.size + 1, 2, none⟩ = some (.int .i64 l') ∧ x.cell? ⟨w.heap.size + 1, 3, none⟩ = some (.int .i64 b')) ((refine eight_of_below' (W := (w.alloc (.cells #[.bool s, .int .i64 h, .int .i64 l, .int .i64 b] 31)).alloc (.cells #[.bool s', .int .i64 h', .int .i64 l', .int .i64 b'] 31)) (n := w.heap.size + 2) ?_ (by omega) (by omega) ⟨by simp [go_sem], by simp [go_sem], by simp [go_sem], by simp [go_sem], by simp [go_sem], by simp [go_sem], by simp [go_sem], by simp [go_sem]⟩; repeat (first | with_reducible exact Below.refl _ _ | (with_reducible refine Below.drew ?_) | (with_reducible refine Below.alloc ?_ ?_ _; rotate_left; (focus (first | omega | (simp; omega) | (simp; done)))) | (with_reducible refine Below.setCell ?_ ?_ _; rotate_left; (focus (first | omega | (simp; omega) | (simp; done)))) | (with_reducible refine Below.trans ?_ (hb1.mono ?_); rotate_left; (focus (first | omega | (simp; omega) | (simp; done))))))) (first | (go_at_call 139; refine (HC.out _).mono ?_; rintro e w1 ⟨rfl, hb1⟩; have hz1 := hb1.size; (try simp at hz1); (first | (refine ltk (w.heap.size) (w1.heap.size) ?_ ?_; (focus omega); intro f10) | skip); (first | (refine ltk (w.heap.size + 1) (w1.heap.size) ?_ ?_; (focus omega); intro f11) | skip); (refine olds_k (w.heap.size + 2) hb1 ?_ ?_; (focus (first | omega | (simp; omega) | (simp; done))); intro hc1 hf1)) | (go_at_call 140; refine (cmpInt_any b b' _).mono ?_; rintro e w2 ⟨rfl, rfl⟩) | (go_at_call 138; refine (cmpOr_any c (cmpW b b') _ _ ?_ ?_).mono ?_; (focus (simp [go_sem])); (focus (simp [go_sem])); rintro e w3 ⟨rfl, rfl⟩))
  all_goals
    go_wp2_with fail
    go_ret
    refine ⟨rfl, ?_⟩
    repeat (first | with_reducible exact Below.refl _ _ | (with_reducible refine Below.drew ?_) | (with_reducible refine Below.alloc ?_ ?_ _; rotate_left; (focus (first | omega | (simp; omega) | (simp; done)))) | (with_reducible refine Below.setCell ?_ ?_ _; rotate_left; (focus (first | omega | (simp; omega) | (simp; done)))) | (with_reducible refine Below.trans ?_ (hb1.mono ?_); rotate_left; (focus (first | omega | (simp; omega) | (simp; done)))))

end Go.Proofs.YtdbcdichmmcnbaaGreat.Mn
