/-
  What firstD_holds needs, part 1.
-/
import Derived.Test.YtnlnigelecmobaaRows
import Derived.Deep.RegionHeld3
import Derived.WalkKit
import Derived.WalkSpells
import Derived.WalkLawsBesides
import Derived.RegionTactic
import Derived.Deep.RegionWith
import Derived.Deep.DeepCutAuto
import Derived.Deep.AppendSrc
import Derived.OwnWalk
namespace Go.Proofs.Ytnlnigelecmobaa

/-- What lies in the slots behind an operation. -/
theorem pa : (∀ (a : Act) (d : Tmp) (v : Value), a.put (some d) v = { a with tmps := a.tmps.setIfInBounds d v }) ∧ (∀ (a : Act) (v : Value), a.put none v = a) ∧
    (∀ (l : List Value) (i : Nat) (v : Value), l.toArray.setIfInBounds i v = (l.set i v).toArray) ∧ (∀ (x v : Value) (l : List Value), (x :: l).set 0 v = v :: l) ∧ (∀ (x v : Value) (l : List Value) (n : Nat), (x :: l).set (n + 1) v = x :: l.set n v) ∧
    (∀ (l : List Bool) (i : Nat) (v : Bool), l.toArray.setIfInBounds i v = (l.set i v).toArray) ∧ (∀ (x v : Bool) (l : List Bool), (x :: l).set 0 v = v :: l) ∧ (∀ (x v : Bool) (l : List Bool) (n : Nat), (x :: l).set (n + 1) v = x :: l.set n v) :=
  ⟨fun _ _ _ => rfl, fun _ _ => rfl, fun _ _ _ => List.setIfInBounds_toArray .., fun _ _ _ => rfl, fun _ _ _ _ => rfl, fun _ _ _ => List.setIfInBounds_toArray .., fun _ _ _ => rfl, fun _ _ _ _ => rfl⟩
theorem tkA {P : Program} {ops : Array Oper} {Q : Exit → Act → World → Prop} {md : Region.Mode} {S : World → Prop} (i d : Nat) {op : Op} {ty : TypeId} {ps : String} {af : Array Edge} {gd : Option (Nat × Bool)} {v : Value} {fuel : Nat} {listed : Array Bool} {a : Act} {w : World} (hi : ops[i]? = some (⟨some d, op, ty, ps, af, gd⟩ : Oper))
    (hb : (Region.noSelect ops && (Region.free md ops listed i && (Region.ready md ops listed).contains i)) = true) (hQ : ∀ c a w, Q (.panic c) (a.put (some d) v) w → Q (.panic c) a w)
    (hw : Region.wanted (⟨some d, op, ty, ps, af, gd⟩ : Oper) (yielded ops a.tmps) = true) (hy : ∀ w, S w → (execOp a.eval (⟨some d, op, ty, ps, af, gd⟩ : Oper)).run P w = .ok (.value v) w) (hS : S w)
    (h : wpAnyH P md ops Q S fuel (listed.setIfInBounds i true) (a.put (some d) v) w) : wpAnyH P md ops Q S (fuel + 1) listed a w := by
  rw [Bool.and_eq_true, Bool.and_eq_true] at hb
  exact wpAnyH_take hi hb.1 hb.2.1 hb.2.2 hQ (Or.inl ⟨hw, hy⟩) hS h

/-- The same, with what is mostly asked for proved on the spot. -/
theorem tk {P : Program} {ops : Array Oper} {Q : Exit → Act → World → Prop} {md : Region.Mode} {S : World → Prop} (i d : Nat) {op : Op} {ty : TypeId} {ps : String} {af : Array Edge} {gd : Option (Nat × Bool)} {v : Value} {fuel : Nat} {listed : Array Bool} {a : Act} {w : World} (hi : ops[i]? = some (⟨some d, op, ty, ps, af, gd⟩ : Oper))
    (h : wpAnyH P md ops Q S fuel (listed.setIfInBounds i true) (a.put (some d) v) w)
    (hb : (Region.noSelect ops && (Region.free md ops listed i && (Region.ready md ops listed).contains i)) = true := by kernel_rfl) (hQ : ∀ c a w, Q (.panic c) (a.put (some d) v) w → Q (.panic c) a w := by exact fun _ _ _ h => h)
    (hw : Region.wanted (⟨some d, op, ty, ps, af, gd⟩ : Oper) (yielded ops a.tmps) = true := by rfl) (hy : ∀ w, S w → (execOp a.eval (⟨some d, op, ty, ps, af, gd⟩ : Oper)).run P w = .ok (.value v) w := by (intro w hSw; (try dsimp only at hSw); go_simp; try with_reducible rfl)) (hS : S w := by assumption) : wpAnyH P md ops Q S (fuel + 1) listed a w :=
  tkA i d hi hb hQ hw hy hS h
theorem sk {P : Program} {ops : Array Oper} {Q : Exit → Act → World → Prop} {md : Region.Mode} {S : World → Prop} (i d : Nat) {op : Op} {ty : TypeId} {ps : String} {af : Array Edge} {gd : Option (Nat × Bool)} {fuel : Nat} {listed : Array Bool} {a : Act} {w : World} (hi : ops[i]? = some (⟨some d, op, ty, ps, af, gd⟩ : Oper))
    (h : wpAnyH P md ops Q S fuel (listed.setIfInBounds i true) (a.put (some d) undef) w)
    (hb : (Region.noSelect ops && (Region.free md ops listed i && (Region.ready md ops listed).contains i)) = true := by kernel_rfl) (hQ : ∀ c a w, Q (.panic c) (a.put (some d) undef) w → Q (.panic c) a w := by exact fun _ _ _ h => h)
    (hw : Region.wanted (⟨some d, op, ty, ps, af, gd⟩ : Oper) (yielded ops a.tmps) = false := by rfl) (hS : S w := by assumption) : wpAnyH P md ops Q S (fuel + 1) listed a w := by
  rw [Bool.and_eq_true, Bool.and_eq_true] at hb
  exact wpAnyH_take hi hb.1 hb.2.1 hb.2.2 hQ (Or.inr ⟨hw, rfl⟩) hS h

end Go.Proofs.Ytnlnigelecmobaa
namespace Go.Proofs.Ytnlnigelecmobaa
open Go.RowKit

def okB (s : Bool) (h l : Int) : Bool := s || (h == 0 && (decide (0 ≤ l) && decide (l ≤ 4294967295)))

theorem okB_t (h l : Int) : okB true h l = true := by simp [okB]
theorem okB_yes (l : Int) (h0 : 0 ≤ l) (h1 : l ≤ 4294967295) : okB false 0 l = true := by simp [okB, h0, h1]
theorem okB_h (h l : Int) (hh : (h == 0) = false) : okB false h l = false := by simp [okB, hh]
theorem okB_lo (l : Int) (h0 : ¬ 0 ≤ l) : okB false 0 l = false := by simp [okB, h0]
theorem okB_hi (l : Int) (h1 : ¬ l ≤ 4294967295) : okB false 0 l = false := by simp [okB, h1]

set_option maxHeartbeats 400000 in
theorem sAddrOk_any (s : Bool) (h l : Int) (w : World) :
    Calls Try.prog 51 #[.agg #[.bool s, .int .i64 h, .int .i64 l]] w fun e w' => e = .returned (.bool (okB s h l)) ∧ Below w.heap.size w w' := by
  cases s
  · by_cases hh : h = 0
    · subst hh
      by_cases h0 : 0 ≤ l
      · by_cases h1 : l ≤ 4294967295
        · rw [okB_yes l h0 h1]
          go_enter Try.func51, Try.ntmps51
          go_wp2
          go_ret
          exact ⟨rfl, (Below.refl _ _).alloc (Nat.le_refl _) _⟩
        · rw [okB_hi l h1]
          go_enter Try.func51, Try.ntmps51
          go_wp2
          go_ret
          exact ⟨rfl, (Below.refl _ _).alloc (Nat.le_refl _) _⟩
      · rw [okB_lo l h0]
        go_enter Try.func51, Try.ntmps51
        go_wp2
        go_ret
        exact ⟨rfl, (Below.refl _ _).alloc (Nat.le_refl _) _⟩
    · have hb : (h == 0) = false := by simp [hh]
      rw [okB_h h l hb]
      clear hh
      go_enter Try.func51, Try.ntmps51
      go_wp2
      go_ret
      exact ⟨rfl, (Below.refl _ _).alloc (Nat.le_refl _) _⟩
  · rw [okB_t]
    go_enter Try.func51, Try.ntmps51
    go_wp2
    go_ret
    exact ⟨rfl, (Below.refl _ _).alloc (Nat.le_refl _) _⟩

set_option maxHeartbeats 400000 in
theorem iAddrOk_any (s : Bool) (h l : Int) (w : World) :
    Calls Try.prog 39 #[.agg #[.bool s, .int .i64 h, .int .i64 l]] w fun e w' => e = .returned (.bool (okB s h l)) ∧ Below w.heap.size w w' := by
  cases s
  · by_cases hh : h = 0
    · subst hh
      by_cases h0 : 0 ≤ l
      · by_cases h1 : l ≤ 4294967295
        · rw [okB_yes l h0 h1]
          go_enter Try.func39, Try.ntmps39
          go_wp2
          go_ret
          exact ⟨rfl, (Below.refl _ _).alloc (Nat.le_refl _) _⟩
        · rw [okB_hi l h1]
          go_enter Try.func39, Try.ntmps39
          go_wp2
          go_ret
          exact ⟨rfl, (Below.refl _ _).alloc (Nat.le_refl _) _⟩
      · rw [okB_lo l h0]
        go_enter Try.func39, Try.ntmps39
        go_wp2
        go_ret
        exact ⟨rfl, (Below.refl _ _).alloc (Nat.le_refl _) _⟩
    · have hb : (h == 0) = false := by simp [hh]
      rw [okB_h h l hb]
      clear hh
      go_enter Try.func39, Try.ntmps39
      go_wp2
      go_ret
      exact ⟨rfl, (Below.refl _ _).alloc (Nat.le_refl _) _⟩
  · rw [okB_t]
    go_enter Try.func39, Try.ntmps39
    go_wp2
    go_ret
    exact ⟨rfl, (Below.refl _ _).alloc (Nat.le_refl _) _⟩

/-- What lay below n reads as it did, behind whatever only makes memory from n on: two rules for a walk. -/
theorem olds {W w1 : World} {n : Nat} (hb : Below n W w1) :
    (∀ b o, b < n → w1.cell? ⟨b, o, none⟩ = W.cell? ⟨b, o, none⟩) ∧ (∀ b o, b < n → w1.frozen? ⟨b, o, none⟩ = W.frozen? ⟨b, o, none⟩) :=
  ⟨fun _ _ h => hb.cell h, fun _ _ h => hb.frozen h⟩

theorem olds_k {K : Prop} {W w1 : World} {B : Nat} (n : Nat) (hb : Below B W w1) (hn : n ≤ B)
    (k : (∀ b o, b < n → w1.cell? ⟨b, o, none⟩ = W.cell? ⟨b, o, none⟩) → (∀ b o, b < n → w1.frozen? ⟨b, o, none⟩ = W.frozen? ⟨b, o, none⟩) → K) : K :=
  k (olds (hb.mono hn)).1 (olds (hb.mono hn)).2

theorem ltk {K : Prop} (a b : Nat) (h : a < b) (k : a < b → K) : K := k h

end Go.Proofs.Ytnlnigelecmobaa
namespace Go.Proofs.Ytnlnigelecmobaa
open Go.RowKit

/-- Block c holds a cursor over the row (a, len, cap): its bytes are there, its place is within. -/
structure Cur (W : World) (c : Nat) (a : Option Addr) (len cap : Nat) : Prop where
  row : W.cell? ⟨c, 0, none⟩ = some (.slice a len cap)
  idx : ∃ i : Nat, i ≤ len ∧ W.cell? ⟨c, 1, none⟩ = some (.int .i64 i)
  mix : ∃ h : Int, W.cell? ⟨c, 2, none⟩ = some (.int .i64 h)
  fr1 : W.frozen? ⟨c, 1, none⟩ = false
  fr2 : W.frozen? ⟨c, 2, none⟩ = false
  byt : ∀ j, j < len → ∃ p o v, a = some ⟨p, o, none⟩ ∧ p < c ∧ W.cell? ⟨p, o + j, none⟩ = some (.int .u8 v) ∧ 0 ≤ v ∧ v < 256
  few : len ≤ 1048576

/-- What a draw keeps: what is older than block c as a whole, and every block but c. -/
structure Kp (c : Nat) (W X : World) : Prop where
  low : Below c W X
  big : W.heap.size ≤ X.heap.size
  cel : ∀ b o, b < W.heap.size → b ≠ c → X.cell? ⟨b, o, none⟩ = W.cell? ⟨b, o, none⟩
  frz : ∀ b o, b < W.heap.size → b ≠ c → X.frozen? ⟨b, o, none⟩ = W.frozen? ⟨b, o, none⟩
  blk : ∀ b, b < W.heap.size → b ≠ c → X.heap[b]? = W.heap[b]?

theorem Kp.refl (c : Nat) (W : World) : Kp c W W := ⟨Below.refl _ _, Nat.le_refl _, fun _ _ _ _ => rfl, fun _ _ _ _ => rfl, fun _ _ _ => rfl⟩
theorem Kp.trans {c : Nat} {W X Y : World} (h : Kp c W X) (k : Kp c X Y) : Kp c W Y :=
  ⟨h.low.trans k.low, Nat.le_trans h.big k.big, fun b o hb hc => (k.cel b o (Nat.lt_of_lt_of_le hb h.big) hc).trans (h.cel b o hb hc), fun b o hb hc => (k.frz b o (Nat.lt_of_lt_of_le hb h.big) hc).trans (h.frz b o hb hc), fun b hb hc => (k.blk b (Nat.lt_of_lt_of_le hb h.big) hc).trans (h.blk b hb hc)⟩
/-- What only makes memory keeps all. -/
theorem Kp.of_below {c : Nat} {W X : World} (hc : c < W.heap.size) (h : Below W.heap.size W X) : Kp c W X :=
  ⟨h.mono (Nat.le_of_lt hc), h.size, fun _ _ hb _ => h.cell hb, fun _ _ hb _ => h.frozen hb, fun b hb _ => h.block b hb⟩
theorem Cur.lt {W : World} {c : Nat} {a : Option Addr} {len cap : Nat} (h : Cur W c a len cap) : c < W.heap.size := World.block_lt_of_cell? W _ h.row
/-- The cursor lies as it did behind what turns neither it nor what is older. -/
theorem Cur.keep {W X : World} {c : Nat} {a : Option Addr} {len cap : Nat} (h : Cur W c a len cap) (k : Below (c + 1) W X) : Cur X c a len cap := by
  obtain ⟨i, hi, h1⟩ := h.idx
  obtain ⟨m, h2⟩ := h.mix
  refine ⟨(k.cell (Nat.lt_succ_self c)).trans h.row, ⟨i, hi, (k.cell (Nat.lt_succ_self c)).trans h1⟩, ⟨m, (k.cell (Nat.lt_succ_self c)).trans h2⟩, (k.frozen (Nat.lt_succ_self c)).trans h.fr1, (k.frozen (Nat.lt_succ_self c)).trans h.fr2, fun j hj => ?_, h.few⟩
  obtain ⟨p, o, v, ha, hp, hv, h0, h9⟩ := h.byt j hj
  exact ⟨p, o, v, ha, hp, (k.cell (Nat.lt_succ_of_lt hp)).trans hv, h0, h9⟩
theorem Cur.grew {W X : World} {c : Nat} {a : Option Addr} {len cap : Nat} (h : Cur W c a len cap) (k : Below W.heap.size W X) : Cur X c a len cap := h.keep (k.mono h.lt)

/-- A store into the cursor's second or third word. -/
theorem Cur.set1 {W : World} {c : Nat} {a : Option Addr} {len cap : Nat} (h : Cur W c a len cap) (z : Int) (i : Nat) (hz : z = (i : Int)) (hi : i ≤ len) : Cur (W.setCell ⟨c, 1, none⟩ (.int .i64 z)) c a len cap := by
  subst hz
  obtain ⟨i0, _, h1⟩ := h.idx
  obtain ⟨m, h2⟩ := h.mix
  refine ⟨?_, ⟨i, hi, ?_⟩, ⟨m, ?_⟩, ?_, ?_, fun j hj => ?_, h.few⟩
  · simp [go_sem, h.row]
  · simp [go_sem, h1]
  · simp [go_sem, h2]
  · simp [go_sem, h.fr1]
  · simp [go_sem, h.fr2]
  · obtain ⟨p, o, v, ha, hp, hv, h0, h9⟩ := h.byt j hj
    exact ⟨p, o, v, ha, hp, (World.cell?_setCell_far _ _ _ _ (by show c ≠ p; omega)).trans hv, h0, h9⟩
theorem Cur.set2 {W : World} {c : Nat} {a : Option Addr} {len cap : Nat} (h : Cur W c a len cap) (m : Int) : Cur (W.setCell ⟨c, 2, none⟩ (.int .i64 m)) c a len cap := by
  obtain ⟨i0, hi, h1⟩ := h.idx
  obtain ⟨m0, h2⟩ := h.mix
  refine ⟨?_, ⟨i0, hi, ?_⟩, ⟨m, ?_⟩, ?_, ?_, fun j hj => ?_, h.few⟩
  · simp [go_sem, h.row]
  · simp [go_sem, h1]
  · simp [go_sem, h2]
  · simp [go_sem, h.fr1]
  · simp [go_sem, h.fr2]
  · obtain ⟨p, o, v, ha, hp, hv, h0, h9⟩ := h.byt j hj
    exact ⟨p, o, v, ha, hp, (World.cell?_setCell_far _ _ _ _ (by show c ≠ p; omega)).trans hv, h0, h9⟩
theorem Cur.drew {W : World} {c : Nat} {a : Option Addr} {len cap : Nat} (h : Cur W c a len cap) : Cur W.drew c a len cap := h.grew (Below.refl _ W).drew
theorem Kp.drew (c : Nat) (W : World) : Kp c W W.drew := ⟨(Below.refl _ W).drew, by simp, fun _ _ _ _ => by simp [go_sem], fun _ _ _ _ => by simp [go_sem], fun _ _ _ => rfl⟩
theorem Kp.set (c : Nat) (W : World) (o : Nat) (v : Value) : Kp c W (W.setCell ⟨c, o, none⟩ v) :=
  ⟨(Below.refl _ W).setCell (by simp) _, by simp, fun b q _ hc => World.cell?_setCell_far _ _ _ _ (by show c ≠ b; omega), fun b q _ _ => by simp [go_sem], fun b _ hc => Below.heap_setCell W ⟨c, o, none⟩ v b hc⟩

end Go.Proofs.Ytnlnigelecmobaa
namespace Go.Proofs.Ytnlnigelecmobaa
open Go.RowKit

theorem and255 (x : Int) : 0 ≤ bits .and .i64 x 255 ∧ bits .and .i64 x 255 ≤ 255 := by
  have e : bits .and .i64 x 255 = IntKind.i64.wrap ((BitVec.ofInt 64 x &&& BitVec.ofInt 64 255).toNat : Int) := rfl
  have h : (BitVec.ofInt 64 x &&& BitVec.ofInt 64 255).toNat ≤ 255 := by
    rw [BitVec.toNat_and]
    exact Nat.le_trans Nat.and_le_right (by decide)
  rw [e, IntKind.wrap_i64]
  omega

set_option maxHeartbeats 1000000 in
theorem l1Byte_any (c : Nat) (a : Option Addr) (len cap : Nat) (W : World) (hC : Cur W c a len cap) :
    Calls Try.prog 50 #[.pointer (some ⟨c, 0, none⟩)] W fun e W' => (∃ x : Int, 0 ≤ x ∧ x ≤ 255 ∧ e = .returned (.int .i64 x)) ∧ Cur W' c a len cap ∧ Kp c W W' := by
  have HC : Hid (Cur W c a len cap) := hC
  obtain ⟨i, hi, c1⟩ := hC.idx
  obtain ⟨m, c2⟩ := hC.mix
  have c0 := hC.row
  have g1 := hC.fr1
  have g2 := hC.fr2
  have hl := hC.few
  by_cases hlt : i < len
  · obtain ⟨p, o, v, rfl, hp, cv, v0, v9⟩ := hC.byt i hlt
    have hne : c ≠ p := by omega
    clear hC
    go_enter Try.func50, Try.ntmps50
    go_wp2_with fail
    go_region
    all_goals
      go_wp2_with fail
      go_region
    all_goals
      go_wp2_with fail
      go_region
    all_goals
      go_wp2_with fail
      go_ret
      refine ⟨⟨_, (and255 _).1, (and255 _).2, rfl⟩, ?_, ?_⟩
      · repeat (first | with_reducible exact HC.out | with_reducible refine Cur.drew ?_ | with_reducible refine Cur.set2 ?_ _ | (with_reducible refine Cur.set1 ?_ _ (i + 1) (by omega) (by omega)))
      · repeat (first | with_reducible exact Kp.refl _ _ | (with_reducible refine Kp.trans ?_ (Kp.drew _ _)) | (with_reducible refine Kp.trans ?_ (Kp.set _ _ _ _)))
  · clear hC
    go_enter Try.func50, Try.ntmps50
    go_wp2_with fail
    go_region
    all_goals
      go_wp2_with fail
      go_region
    all_goals
      go_wp2_with fail
      go_ret
      refine ⟨⟨_, (and255 _).1, (and255 _).2, rfl⟩, ?_, ?_⟩
      · repeat (first | with_reducible exact HC.out | with_reducible refine Cur.drew ?_ | with_reducible refine Cur.set2 ?_ _)
      · repeat (first | with_reducible exact Kp.refl _ _ | (with_reducible refine Kp.trans ?_ (Kp.drew _ _)) | (with_reducible refine Kp.trans ?_ (Kp.set _ _ _ _)))

end Go.Proofs.Ytnlnigelecmobaa
namespace Go.Proofs.Ytnlnigelecmobaa
open Go.RowKit

set_option maxHeartbeats 1000000 in
theorem l1Below_any (c : Nat) (a : Option Addr) (len cap : Nat) (n : Int) (W : World) (hC : Cur W c a len cap) :
    Calls Try.prog 28 #[.pointer (some ⟨c, 0, none⟩), .int .i64 n] W fun e W' => (∃ x : Int, 0 ≤ x ∧ (0 < n → x < n) ∧ e = .returned (.int .i64 x)) ∧ Cur W' c a len cap ∧ Kp c W W' := by
  have HC : Hid (Cur W c a len cap) := hC
  clear hC
  by_cases h0 : n ≤ 0
  · go_enter Try.func28, Try.ntmps28
    go_wp2_with fail
    go_ret
    exact ⟨⟨0, Int.le_refl _, fun h => h, rfl⟩, HC.out, Kp.refl _ _⟩
  · by_cases h1 : n ≤ 256
    · go_enter Try.func28, Try.ntmps28
      go_wp2_with fail
      refine (l1Byte_any c a len cap _ HC.out).mono ?_
      rintro e W1 ⟨⟨x, x0, x9, rfl⟩, hC1, hK1⟩
      go_wp2_with fail
      go_ret
      exact ⟨⟨x % n, Int.emod_nonneg _ (by omega), fun _ => Int.emod_lt_of_pos _ (by omega), rfl⟩, hC1, hK1⟩
    · go_enter Try.func28, Try.ntmps28
      go_wp2_with fail
      refine (l1Byte_any c a len cap _ HC.out).mono ?_
      rintro e W1 ⟨⟨x, x0, x9, rfl⟩, hC1, hK1⟩
      have HC1 : Hid (Cur W1 c a len cap) := hC1
      have HK1 : Hid (Kp c W W1) := hK1
      clear hC1 hK1
      go_wp2_with fail
      refine (l1Byte_any c a len cap _ HC1.out).mono ?_
      rintro e W2 ⟨⟨y, y0, y9, rfl⟩, hC2, hK2⟩
      have HC2 : Hid (Cur W2 c a len cap) := hC2
      have HK2 : Hid (Kp c W1 W2) := hK2
      clear hC2 hK2
      go_wp2_with fail
      refine (l1Byte_any c a len cap _ HC2.out).mono ?_
      rintro e W3 ⟨⟨z, z0, z9, rfl⟩, hC3, hK3⟩
      go_wp2_with fail
      go_ret
      exact ⟨⟨_, Int.emod_nonneg _ (by omega), fun _ => Int.emod_lt_of_pos _ (by omega), rfl⟩, hC3, (HK1.out.trans HK2.out).trans hK3⟩

set_option maxHeartbeats 1000000 in
theorem l1Once_any (c : Nat) (a : Option Addr) (len cap : Nat) (n : Int) (W : World) (hC : Cur W c a len cap) :
    Calls Try.prog 26 #[.pointer (some ⟨c, 0, none⟩), .int .i64 n] W fun e W' => (∃ B : Bool, e = .returned (.bool B)) ∧ Cur W' c a len cap ∧ Kp c W W' := by
  have HC : Hid (Cur W c a len cap) := hC
  clear hC
  go_enter Try.func26, Try.ntmps26
  go_wp2_with fail
  refine (l1Below_any c a len cap n _ HC.out).mono ?_
  rintro e W1 ⟨⟨x, x0, x9, rfl⟩, hC1, hK1⟩
  go_wp2_with fail
  go_ret
  exact ⟨⟨_, rfl⟩, hC1, hK1⟩

/-- A number of the kind int. -/
def I64 (z : Int) : Prop := -9223372036854775808 ≤ z ∧ z ≤ 9223372036854775807

set_option maxHeartbeats 1000000 in
theorem l1Int_any (P : Int → Prop) (c : Nat) (a : Option Addr) (len cap : Nat) (q k : Nat) (W : World) (hC : Cur W c a len cap) (hk : 0 < k) (hk1 : k ≤ 100) (hq : q < W.heap.size) (hqc : q ≠ c) (hv : ∀ j, j < k → ∃ z, P z ∧ W.cell? ⟨q, j, none⟩ = some (.int .i64 z)) :
    Calls Try.prog 29 #[.pointer (some ⟨c, 0, none⟩), .slice (some ⟨q, 0, none⟩) k k] W fun e W' => (∃ z, P z ∧ e = .returned (.int .i64 z)) ∧ Cur W' c a len cap ∧ Kp c W W' := by
  have HC : Hid (Cur W c a len cap) := hC
  have HV : Hid (∀ j, j < k → ∃ z, P z ∧ W.cell? ⟨q, j, none⟩ = some (.int .i64 z)) := hv
  clear hC hv
  go_enter Try.func29, Try.ntmps29
  go_wp2_with fail
  refine (l1Below_any c a len cap k _ HC.out).mono ?_
  rintro e W1 ⟨⟨x, x0, x9, rfl⟩, hC1, hK1⟩
  obtain ⟨j, rfl⟩ : ∃ j : Nat, x = (j : Int) := ⟨x.toNat, by omega⟩
  have hj : j < k := by omega
  obtain ⟨z, hz, hc⟩ := HV.out j hj
  have cv : W1.cell? ⟨q, j, none⟩ = some (.int .i64 z) := (hK1.cel q j hq hqc).trans hc
  have HZ : Hid (P z) := hz
  have HK : Hid (Kp c W W1) := hK1
  have HC1 : Hid (Cur W1 c a len cap) := hC1
  clear hK1 hC1 x9 x0 hc hz
  go_wp2_with fail
  go_ret
  exact ⟨⟨z, HZ.out, rfl⟩, HC1.out, HK.out⟩

/-- The cursor behind a store into a newer block; what is kept behind new memory. -/
theorem Cur.far {W : World} {c : Nat} {a : Option Addr} {len cap : Nat} (h : Cur W c a len cap) {b o : Nat} (hb : c < b) (v : Value) : Cur (W.setCell ⟨b, o, none⟩ v) c a len cap :=
  h.keep ((Below.refl _ W).setCell (by show c + 1 ≤ b; omega) _)
theorem Cur.more {W : World} {c : Nat} {a : Option Addr} {len cap : Nat} (h : Cur W c a len cap) (x : Obj) : Cur (W.alloc x) c a len cap := h.grew ((Below.refl _ W).alloc (Nat.le_refl _) _)
theorem Kp.more {c : Nat} {W X : World} (h : Kp c W X) (hc : c < W.heap.size) (x : Obj) : Kp c W (X.alloc x) :=
  h.trans (Kp.of_below (Nat.lt_of_lt_of_le hc h.big) ((Below.refl _ X).alloc (Nat.le_refl _) _))
theorem Kp.setNew {c : Nat} {W X : World} (h : Kp c W X) (hc : c < W.heap.size) {b o : Nat} (hb : W.heap.size ≤ b) (v : Value) : Kp c W (X.setCell ⟨b, o, none⟩ v) :=
  ⟨h.low.setCell (by show c ≤ b; omega) _, by simpa using h.big, fun d q hd hq => (World.cell?_setCell_far _ _ _ _ (by show b ≠ d; omega)).trans (h.cel d q hd hq), fun d q hd hq => by simpa [go_sem] using h.frz d q hd hq, fun d hd hq => (Below.heap_setCell X ⟨b, o, none⟩ v d (by show d ≠ b; omega)).trans (h.blk d hd hq)⟩

end Go.Proofs.Ytnlnigelecmobaa
namespace Go.Proofs.Ytnlnigelecmobaa
open Go.RowKit

set_option maxHeartbeats 1000000 in
theorem l1Odd_any (c : Nat) (a : Option Addr) (len cap : Nat) (w : World) (hC : Cur w c a len cap) :
    Calls Try.prog 60 #[.pointer (some ⟨c, 0, none⟩)] w fun e w' => (∃ x : Int, I64 x ∧ e = .returned (.int .i64 x)) ∧ Cur w' c a len cap ∧ Kp c w w' := by
  have HC : Hid (Cur w c a len cap) := hC
  have hlt := hC.lt
  clear hC
  go_enter Try.func60, Try.ntmps60
  go_wp2_with fail
  refine (l1Int_any I64 c a len cap (w.heap.size) 14 _ (by repeat (first | with_reducible exact HC.out | (with_reducible refine Cur.more ?_ _) | (with_reducible refine Cur.drew ?_) | (with_reducible refine Cur.far ?_ (by omega) _))) (by omega) (by omega) (by first | omega | (simp; done) | (simp; omega)) (by omega) (fun j hj => match j, hj with | 0, _ => ⟨(-1), by unfold I64; omega, by simp [go_sem]⟩ | 1, _ => ⟨0, by unfold I64; omega, by simp [go_sem]⟩ | 2, _ => ⟨1, by unfold I64; omega, by simp [go_sem]⟩ | 3, _ => ⟨2, by unfold I64; omega, by simp [go_sem]⟩ | 4, _ => ⟨255, by unfold I64; omega, by simp [go_sem]⟩ | 5, _ => ⟨256, by unfold I64; omega, by simp [go_sem]⟩ | 6, _ => ⟨65535, by unfold I64; omega, by simp [go_sem]⟩ | 7, _ => ⟨2147483647, by unfold I64; omega, by simp [go_sem]⟩ | 8, _ => ⟨2147483648, by unfold I64; omega, by simp [go_sem]⟩ | 9, _ => ⟨4294967295, by unfold I64; omega, by simp [go_sem]⟩ | 10, _ => ⟨4294967296, by unfold I64; omega, by simp [go_sem]⟩ | 11, _ => ⟨(-2147483648), by unfold I64; omega, by simp [go_sem]⟩ | 12, _ => ⟨9223372036854775807, by unfold I64; omega, by simp [go_sem]⟩ | 13, _ => ⟨(-9223372036854775808), by unfold I64; omega, by simp [go_sem]⟩ | (j + 14), h => absurd h (by omega))).mono ?_
  rintro e w1 ⟨⟨x1, x1b, rfl⟩, hC1, hK1⟩
  have HC1 : Hid (Cur w1 c a len cap) := hC1
  have HK1 : Hid (Kp c _ w1) := hK1
  have hz1 := hK1.big
  try simp at hz1
  clear hC1 hK1
  go_wp2_with fail
  go_ret
  refine ⟨⟨x1, x1b, rfl⟩, HC1.out, ?_⟩
  repeat (first | with_reducible exact Kp.refl _ _ | (with_reducible refine Kp.trans ?_ HK1.out) | (with_reducible refine Kp.more ?_ (by omega) _) | (with_reducible refine Kp.setNew ?_ (by omega) (by omega) _))

set_option maxHeartbeats 1000000 in
theorem l1Draw_any (c : Nat) (a : Option Addr) (len cap : Nat) (w : World) (hC : Cur w c a len cap) :
    Calls Try.prog 47 #[.pointer (some ⟨c, 0, none⟩)] w fun e w' => (∃ (S : Bool) (X Y : Int), (okB S X Y = true ∧ I64 X ∧ I64 Y) ∧ e = .returned (.agg #[.bool S, .int .i64 X, .int .i64 Y])) ∧ Cur w' c a len cap ∧ Kp c w w' := by
  have HC : Hid (Cur w c a len cap) := hC
  have hlt := hC.lt
  clear hC
  go_enter Try.func47, Try.ntmps47
  go_wp2_with fail
  refine (l1Once_any c a len cap 2 _ (by repeat (first | with_reducible exact HC.out | (with_reducible refine Cur.more ?_ _) | (with_reducible refine Cur.drew ?_) | (with_reducible refine Cur.far ?_ (by omega) _)))).mono ?_
  rintro e w1 ⟨⟨B1, rfl⟩, hC1, hK1⟩
  have HC1 : Hid (Cur w1 c a len cap) := hC1
  have HK1 : Hid (Kp c _ w1) := hK1
  have hz1 := hK1.big
  try simp at hz1
  clear hC1 hK1
  have d10 := fun o => HK1.out.cel (w.heap.size) o (by first | omega | (simp; done) | (simp; omega)) (by omega)
  have g10 := fun o => HK1.out.frz (w.heap.size) o (by first | omega | (simp; done) | (simp; omega)) (by omega)
  have l10 : w.heap.size < w1.heap.size := by omega
  cases B1
  · go_wp2_with fail
    refine (l1Odd_any c a len cap _ (by repeat (first | with_reducible exact HC1.out | (with_reducible refine Cur.more ?_ _) | (with_reducible refine Cur.drew ?_) | (with_reducible refine Cur.far ?_ (by omega) _)))).mono ?_
    rintro e w2 ⟨⟨x2, x2b, rfl⟩, hC2, hK2⟩
    have HC2 : Hid (Cur w2 c a len cap) := hC2
    have HK2 : Hid (Kp c _ w2) := hK2
    have hz2 := hK2.big
    try simp at hz2
    clear hC2 hK2
    have d20 := fun o => HK2.out.cel (w.heap.size) o (by first | omega | (simp; done) | (simp; omega)) (by omega)
    have g20 := fun o => HK2.out.frz (w.heap.size) o (by first | omega | (simp; done) | (simp; omega)) (by omega)
    have l20 : w.heap.size < w2.heap.size := by omega
    have x2c : -9223372036854775808 ≤ x2 ∧ x2 ≤ 9223372036854775807 := x2b
    clear x2b
    go_wp2_with fail
    refine (l1Int_any I64 c a len cap (w2.heap.size) 7 _ (by repeat (first | with_reducible exact HC2.out | (with_reducible refine Cur.more ?_ _) | (with_reducible refine Cur.drew ?_) | (with_reducible refine Cur.far ?_ (by omega) _))) (by omega) (by omega) (by first | omega | (simp; done) | (simp; omega)) (by omega) (fun j hj => match j, hj with | 0, _ => ⟨0, by unfold I64; omega, by simp [go_sem]⟩ | 1, _ => ⟨2306139568115548160, by unfold I64; omega, by simp [go_sem]⟩ | 2, _ => ⟨(-108086391056891904), by unfold I64; omega, by simp [go_sem]⟩ | 3, _ => ⟨(-1), by unfold I64; omega, by simp [go_sem]⟩ | 4, _ => ⟨1, by unfold I64; omega, by simp [go_sem]⟩ | 5, _ => ⟨65536, by unfold I64; omega, by simp [go_sem]⟩ | 6, _ => ⟨x2, by unfold I64; omega, by simp [go_sem]⟩ | (j + 7), h => absurd h (by omega))).mono ?_
    rintro e w3 ⟨⟨x3, x3b, rfl⟩, hC3, hK3⟩
    have HC3 : Hid (Cur w3 c a len cap) := hC3
    have HK3 : Hid (Kp c _ w3) := hK3
    have hz3 := hK3.big
    try simp at hz3
    clear hC3 hK3
    have d30 := fun o => HK3.out.cel (w.heap.size) o (by first | omega | (simp; done) | (simp; omega)) (by omega)
    have g30 := fun o => HK3.out.frz (w.heap.size) o (by first | omega | (simp; done) | (simp; omega)) (by omega)
    have l30 : w.heap.size < w3.heap.size := by omega
    have x3c : -9223372036854775808 ≤ x3 ∧ x3 ≤ 9223372036854775807 := x3b
    clear x3b
    go_wp2_with fail
    refine (l1Below_any c a len cap 70000 _ (by repeat (first | with_reducible exact HC3.out | (with_reducible refine Cur.more ?_ _) | (with_reducible refine Cur.drew ?_) | (with_reducible refine Cur.far ?_ (by omega) _)))).mono ?_
    rintro e w4 ⟨⟨x4, x40, x49, rfl⟩, hC4, hK4⟩
    have HC4 : Hid (Cur w4 c a len cap) := hC4
    have HK4 : Hid (Kp c _ w4) := hK4
    have hz4 := hK4.big
    try simp at hz4
    clear hC4 hK4
    have d40 := fun o => HK4.out.cel (w.heap.size) o (by first | omega | (simp; done) | (simp; omega)) (by omega)
    have g40 := fun o => HK4.out.frz (w.heap.size) o (by first | omega | (simp; done) | (simp; omega)) (by omega)
    have l40 : w.heap.size < w4.heap.size := by omega
    have x48 := x49 (by omega)
    clear x49
    go_wp2_with fail
    refine (l1Odd_any c a len cap _ (by repeat (first | with_reducible exact HC4.out | (with_reducible refine Cur.more ?_ _) | (with_reducible refine Cur.drew ?_) | (with_reducible refine Cur.far ?_ (by omega) _)))).mono ?_
    rintro e w5 ⟨⟨x5, x5b, rfl⟩, hC5, hK5⟩
    have HC5 : Hid (Cur w5 c a len cap) := hC5
    have HK5 : Hid (Kp c _ w5) := hK5
    have hz5 := hK5.big
    try simp at hz5
    clear hC5 hK5
    have d50 := fun o => HK5.out.cel (w.heap.size) o (by first | omega | (simp; done) | (simp; omega)) (by omega)
    have g50 := fun o => HK5.out.frz (w.heap.size) o (by first | omega | (simp; done) | (simp; omega)) (by omega)
    have l50 : w.heap.size < w5.heap.size := by omega
    have x5c : -9223372036854775808 ≤ x5 ∧ x5 ≤ 9223372036854775807 := x5b
    clear x5b
    go_wp2_with fail
    refine (l1Int_any I64 c a len cap (w5.heap.size) 7 _ (by repeat (first | with_reducible exact HC5.out | (with_reducible refine Cur.more ?_ _) | (with_reducible refine Cur.drew ?_) | (with_reducible refine Cur.far ?_ (by omega) _))) (by omega) (by omega) (by first | omega | (simp; done) | (simp; omega)) (by omega) (fun j hj => match j, hj with | 0, _ => ⟨0, by unfold I64; omega, by simp [go_sem]⟩ | 1, _ => ⟨1, by unfold I64; omega, by simp [go_sem]⟩ | 2, _ => ⟨(-1), by unfold I64; omega, by simp [go_sem]⟩ | 3, _ => ⟨65536, by unfold I64; omega, by simp [go_sem]⟩ | 4, _ => ⟨4294967296, by unfold I64; omega, by simp [go_sem]⟩ | 5, _ => ⟨x4, by unfold I64; omega, by simp [go_sem]⟩ | 6, _ => ⟨x5, by unfold I64; omega, by simp [go_sem]⟩ | (j + 7), h => absurd h (by omega))).mono ?_
    rintro e w6 ⟨⟨x6, x6b, rfl⟩, hC6, hK6⟩
    have HC6 : Hid (Cur w6 c a len cap) := hC6
    have HK6 : Hid (Kp c _ w6) := hK6
    have hz6 := hK6.big
    try simp at hz6
    clear hC6 hK6
    have d60 := fun o => HK6.out.cel (w.heap.size) o (by first | omega | (simp; done) | (simp; omega)) (by omega)
    have g60 := fun o => HK6.out.frz (w.heap.size) o (by first | omega | (simp; done) | (simp; omega)) (by omega)
    have l60 : w.heap.size < w6.heap.size := by omega
    have HX : Hid (I64 x6) := x6b
    clear x6b
    go_wp2_with fail
    refine bodyPost_ret (v := .agg #[.bool true, .int .i64 x3, .int .i64 x6]) (by simp [results, Try.results47, go_sem, d60, d50, d40, d30, d20, d10, l20, l50, l60]) rfl ⟨⟨true, x3, x6, ⟨okB_t _ _, x3c, HX.out⟩, rfl⟩, ?_, ?_⟩
    · exact (by repeat (first | with_reducible exact HC6.out | (with_reducible refine Cur.more ?_ _) | (with_reducible refine Cur.drew ?_) | (with_reducible refine Cur.far ?_ (by omega) _)))
    · repeat (first | with_reducible exact Kp.refl _ _ | (with_reducible refine Kp.trans ?_ HK6.out) | (with_reducible refine Kp.trans ?_ HK5.out) | (with_reducible refine Kp.trans ?_ HK4.out) | (with_reducible refine Kp.trans ?_ HK3.out) | (with_reducible refine Kp.trans ?_ HK2.out) | (with_reducible refine Kp.trans ?_ HK1.out) | (with_reducible refine Kp.more ?_ (by omega) _) | (with_reducible refine Kp.setNew ?_ (by omega) (by omega) _))
  · go_wp2_with fail
    refine (l1Below_any c a len cap 300 _ (by repeat (first | with_reducible exact HC1.out | (with_reducible refine Cur.more ?_ _) | (with_reducible refine Cur.drew ?_) | (with_reducible refine Cur.far ?_ (by omega) _)))).mono ?_
    rintro e w2 ⟨⟨x2, x20, x29, rfl⟩, hC2, hK2⟩
    have HC2 : Hid (Cur w2 c a len cap) := hC2
    have HK2 : Hid (Kp c _ w2) := hK2
    have hz2 := hK2.big
    try simp at hz2
    clear hC2 hK2
    have d20 := fun o => HK2.out.cel (w.heap.size) o (by first | omega | (simp; done) | (simp; omega)) (by omega)
    have g20 := fun o => HK2.out.frz (w.heap.size) o (by first | omega | (simp; done) | (simp; omega)) (by omega)
    have l20 : w.heap.size < w2.heap.size := by omega
    have x28 := x29 (by omega)
    clear x29
    go_wp2_with fail
    refine (l1Below_any c a len cap 65536 _ (by repeat (first | with_reducible exact HC2.out | (with_reducible refine Cur.more ?_ _) | (with_reducible refine Cur.drew ?_) | (with_reducible refine Cur.far ?_ (by omega) _)))).mono ?_
    rintro e w3 ⟨⟨x3, x30, x39, rfl⟩, hC3, hK3⟩
    have HC3 : Hid (Cur w3 c a len cap) := hC3
    have HK3 : Hid (Kp c _ w3) := hK3
    have hz3 := hK3.big
    try simp at hz3
    clear hC3 hK3
    have d30 := fun o => HK3.out.cel (w.heap.size) o (by first | omega | (simp; done) | (simp; omega)) (by omega)
    have g30 := fun o => HK3.out.frz (w.heap.size) o (by first | omega | (simp; done) | (simp; omega)) (by omega)
    have l30 : w.heap.size < w3.heap.size := by omega
    have x38 := x39 (by omega)
    clear x39
    go_wp2_with fail
    refine (l1Below_any c a len cap 20 _ (by repeat (first | with_reducible exact HC3.out | (with_reducible refine Cur.more ?_ _) | (with_reducible refine Cur.drew ?_) | (with_reducible refine Cur.far ?_ (by omega) _)))).mono ?_
    rintro e w4 ⟨⟨x4, x40, x49, rfl⟩, hC4, hK4⟩
    have HC4 : Hid (Cur w4 c a len cap) := hC4
    have HK4 : Hid (Kp c _ w4) := hK4
    have hz4 := hK4.big
    try simp at hz4
    clear hC4 hK4
    have d40 := fun o => HK4.out.cel (w.heap.size) o (by first | omega | (simp; done) | (simp; omega)) (by omega)
    have g40 := fun o => HK4.out.frz (w.heap.size) o (by first | omega | (simp; done) | (simp; omega)) (by omega)
    have l40 : w.heap.size < w4.heap.size := by omega
    have x48 := x49 (by omega)
    clear x49
    go_wp2_with fail
    refine (l1Int_any (fun z => 0 ≤ z ∧ z ≤ 4294967295) c a len cap (w4.heap.size) 7 _ (by repeat (first | with_reducible exact HC4.out | (with_reducible refine Cur.more ?_ _) | (with_reducible refine Cur.drew ?_) | (with_reducible refine Cur.far ?_ (by omega) _))) (by omega) (by omega) (by first | omega | (simp; done) | (simp; omega)) (by omega) (fun j hj => match j, hj with | 0, _ => ⟨0, by omega, by simp [go_sem]⟩ | 1, _ => ⟨1, by omega, by simp [go_sem]⟩ | 2, _ => ⟨4294967295, by omega, by simp [go_sem]⟩ | 3, _ => ⟨167772160, by omega, by simp [go_sem]⟩ | 4, _ => ⟨(167772160 + x2), by omega, by simp [go_sem]⟩ | 5, _ => ⟨(3232235520 + x3), by omega, by simp [go_sem]⟩ | 6, _ => ⟨(4294967295 - x4), by omega, by simp [go_sem]⟩ | (j + 7), h => absurd h (by omega))).mono ?_
    rintro e w5 ⟨⟨x5, x5b, rfl⟩, hC5, hK5⟩
    have HC5 : Hid (Cur w5 c a len cap) := hC5
    have HK5 : Hid (Kp c _ w5) := hK5
    have hz5 := hK5.big
    try simp at hz5
    clear hC5 hK5
    have d50 := fun o => HK5.out.cel (w.heap.size) o (by first | omega | (simp; done) | (simp; omega)) (by omega)
    have g50 := fun o => HK5.out.frz (w.heap.size) o (by first | omega | (simp; done) | (simp; omega)) (by omega)
    have l50 : w.heap.size < w5.heap.size := by omega
    have x5c : 0 ≤ x5 ∧ x5 ≤ 4294967295 := x5b
    clear x5b
    go_wp2_with fail
    refine bodyPost_ret (v := .agg #[.bool false, .int .i64 0, .int .i64 x5]) (by simp [results, Try.results47, go_sem, d50, d40, d30, d20, d10, l40]) rfl ⟨⟨false, 0, x5, ⟨okB_yes x5 x5c.1 x5c.2, by unfold I64; omega, by unfold I64; omega⟩, rfl⟩, ?_, ?_⟩
    · exact (by repeat (first | with_reducible exact HC5.out | (with_reducible refine Cur.more ?_ _) | (with_reducible refine Cur.drew ?_) | (with_reducible refine Cur.far ?_ (by omega) _)))
    · repeat (first | with_reducible exact Kp.refl _ _ | (with_reducible refine Kp.trans ?_ HK5.out) | (with_reducible refine Kp.trans ?_ HK4.out) | (with_reducible refine Kp.trans ?_ HK3.out) | (with_reducible refine Kp.trans ?_ HK2.out) | (with_reducible refine Kp.trans ?_ HK1.out) | (with_reducible refine Kp.more ?_ (by omega) _) | (with_reducible refine Kp.setNew ?_ (by omega) (by omega) _))

end Go.Proofs.Ytnlnigelecmobaa
namespace Go.Proofs.Ytnlnigelecmobaa
open Go.RowKit

set_option maxHeartbeats 1000000 in
theorem l1DrawAny_any (c : Nat) (a : Option Addr) (len cap : Nat) (w : World) (hC : Cur w c a len cap) :
    Calls Try.prog 49 #[.pointer (some ⟨c, 0, none⟩)] w fun e w' => (∃ (S : Bool) (X Y : Int), (I64 X ∧ I64 Y) ∧ e = .returned (.agg #[.bool S, .int .i64 X, .int .i64 Y])) ∧ Cur w' c a len cap ∧ Kp c w w' := by
  have HC : Hid (Cur w c a len cap) := hC
  have hlt := hC.lt
  clear hC
  go_enter Try.func49, Try.ntmps49
  go_wp2_with fail
  refine (l1Draw_any c a len cap _ (by repeat (first | with_reducible exact HC.out | (with_reducible refine Cur.more ?_ _) | (with_reducible refine Cur.drew ?_) | (with_reducible refine Cur.far ?_ (by omega) _)))).mono ?_
  rintro e w1 ⟨⟨S, X, Y, ⟨_, bX, bY⟩, rfl⟩, hC1, hK1⟩
  have HC1 : Hid (Cur w1 c a len cap) := hC1
  have HK1 : Hid (Kp c _ w1) := hK1
  have hz1 := hK1.big
  try simp at hz1
  clear hC1 hK1
  have d10 := fun o => HK1.out.cel (w.heap.size) o (by first | omega | (simp; done) | (simp; omega)) (by omega)
  have g10 := fun o => HK1.out.frz (w.heap.size) o (by first | omega | (simp; done) | (simp; omega)) (by omega)
  have l10 : w.heap.size < w1.heap.size := by omega
  have HX : Hid (I64 X) := bX
  have HY : Hid (I64 Y) := bY
  clear bX bY
  go_wp2_with fail
  refine (l1Below_any c a len cap 16 _ (by repeat (first | with_reducible exact HC1.out | (with_reducible refine Cur.more ?_ _) | (with_reducible refine Cur.drew ?_) | (with_reducible refine Cur.far ?_ (by omega) _)))).mono ?_
  rintro e w2 ⟨⟨x2, x20, x29, rfl⟩, hC2, hK2⟩
  have HC2 : Hid (Cur w2 c a len cap) := hC2
  have HK2 : Hid (Kp c _ w2) := hK2
  have hz2 := hK2.big
  try simp at hz2
  clear hC2 hK2
  have d20 := fun o => HK2.out.cel (w.heap.size) o (by first | omega | (simp; done) | (simp; omega)) (by omega)
  have g20 := fun o => HK2.out.frz (w.heap.size) o (by first | omega | (simp; done) | (simp; omega)) (by omega)
  have l20 : w.heap.size < w2.heap.size := by omega
  have d21 := fun o => HK2.out.cel (w1.heap.size) o (by first | omega | (simp; done) | (simp; omega)) (by omega)
  have g21 := fun o => HK2.out.frz (w1.heap.size) o (by first | omega | (simp; done) | (simp; omega)) (by omega)
  have l21 : w1.heap.size < w2.heap.size := by omega
  have x28 := x29 (by omega)
  clear x29
  by_cases z0 : x2 = 0
  · subst z0
    go_wp2_with fail
    refine bodyPost_ret (v := .agg #[.bool (!S), .int .i64 X, .int .i64 Y]) (by simp [results, Try.results49, go_sem, d20, d10, l10]) rfl ⟨⟨!S, X, Y, ⟨HX.out, HY.out⟩, rfl⟩, ?_, ?_⟩
    · exact (by repeat (first | with_reducible exact HC2.out | (with_reducible refine Cur.more ?_ _) | (with_reducible refine Cur.drew ?_) | (with_reducible refine Cur.far ?_ (by omega) _)))
    · repeat (first | with_reducible exact Kp.refl _ _ | (with_reducible refine Kp.trans ?_ HK2.out) | (with_reducible refine Kp.trans ?_ HK1.out) | (with_reducible refine Kp.more ?_ (by omega) _) | (with_reducible refine Kp.setNew ?_ (by omega) (by omega) _))
  · have y0 : (x2 == 0) = false := by rw [beq_eq_false_iff_ne]; exact z0
    by_cases z1 : x2 = 1
    · subst z1
      go_wp2_with fail
      refine (l1Odd_any c a len cap _ (by repeat (first | with_reducible exact HC2.out | (with_reducible refine Cur.more ?_ _) | (with_reducible refine Cur.drew ?_) | (with_reducible refine Cur.far ?_ (by omega) _)))).mono ?_
      rintro e w3 ⟨⟨x3, x3b, rfl⟩, hC3, hK3⟩
      have HC3 : Hid (Cur w3 c a len cap) := hC3
      have HK3 : Hid (Kp c _ w3) := hK3
      have hz3 := hK3.big
      try simp at hz3
      clear hC3 hK3
      have d30 := fun o => HK3.out.cel (w.heap.size) o (by first | omega | (simp; done) | (simp; omega)) (by omega)
      have g30 := fun o => HK3.out.frz (w.heap.size) o (by first | omega | (simp; done) | (simp; omega)) (by omega)
      have l30 : w.heap.size < w3.heap.size := by omega
      have d31 := fun o => HK3.out.cel (w1.heap.size) o (by first | omega | (simp; done) | (simp; omega)) (by omega)
      have g31 := fun o => HK3.out.frz (w1.heap.size) o (by first | omega | (simp; done) | (simp; omega)) (by omega)
      have l31 : w1.heap.size < w3.heap.size := by omega
      have x3c : -9223372036854775808 ≤ x3 ∧ x3 ≤ 9223372036854775807 := x3b
      clear x3b
      have HO : Hid (I64 x3) := x3c
      clear x3c
      go_wp2_with fail
      refine bodyPost_ret (v := .agg #[.bool S, .int .i64 X, .int .i64 x3]) (by simp [results, Try.results49, go_sem, d30, d20, d10, l10]) rfl ⟨⟨S, X, x3, ⟨HX.out, HO.out⟩, rfl⟩, ?_, ?_⟩
      · exact (by repeat (first | with_reducible exact HC3.out | (with_reducible refine Cur.more ?_ _) | (with_reducible refine Cur.drew ?_) | (with_reducible refine Cur.far ?_ (by omega) _)))
      · repeat (first | with_reducible exact Kp.refl _ _ | (with_reducible refine Kp.trans ?_ HK3.out) | (with_reducible refine Kp.trans ?_ HK2.out) | (with_reducible refine Kp.trans ?_ HK1.out) | (with_reducible refine Kp.more ?_ (by omega) _) | (with_reducible refine Kp.setNew ?_ (by omega) (by omega) _))
    · have y1 : (x2 == 1) = false := by rw [beq_eq_false_iff_ne]; exact z1
      go_wp2_with fail
      refine bodyPost_ret (v := .agg #[.bool S, .int .i64 X, .int .i64 Y]) (by simp [results, Try.results49, go_sem, d20, d10, l10]) rfl ⟨⟨S, X, Y, ⟨HX.out, HY.out⟩, rfl⟩, ?_, ?_⟩
      · exact (by repeat (first | with_reducible exact HC2.out | (with_reducible refine Cur.more ?_ _) | (with_reducible refine Cur.drew ?_) | (with_reducible refine Cur.far ?_ (by omega) _)))
      · repeat (first | with_reducible exact Kp.refl _ _ | (with_reducible refine Kp.trans ?_ HK2.out) | (with_reducible refine Kp.trans ?_ HK1.out) | (with_reducible refine Kp.more ?_ (by omega) _) | (with_reducible refine Kp.setNew ?_ (by omega) (by omega) _))

theorem bvW {x : Int} (h : I64 x) : (BitVec.ofInt 64 x).toInt = x := by
  unfold I64 at h
  rw [BitVec.toInt_ofInt, Int.bmod_def]
  omega
theorem bvI (x : BitVec 64) : I64 x.toInt := by
  have h := x.isLt
  unfold I64
  rw [BitVec.toInt_eq_toNat_cond]
  split <;> omega

end Go.Proofs.Ytnlnigelecmobaa
namespace Go.Proofs.Ytnlnigelecmobaa
open Go.RowKit

def ml (n : Nat) : BitVec 64 := if 64 ≤ n then BitVec.allOnes 64 else BitVec.ofNat 64 (2 ^ n - 1)
def mh (n : Nat) : BitVec 64 := ml (n - 64)
def hg (b : Int) : BitVec 64 := if b ≤ 0 then 0 else if 64 ≤ b then BitVec.allOnes 64 else BitVec.allOnes 64 <<< (64 - b).toNat

theorem wrapI (r : BitVec 64) : IntKind.wrap .i64 (r.toNat : Int) = r.toInt := by
  have h := r.isLt
  simp [IntKind.wrap, IntKind.bits, IntKind.signed, BitVec.toInt_eq_toNat_cond]
  omega
theorem wrapU (r : BitVec 64) : IntKind.wrap .u64 (r.toInt) = (r.toNat : Int) := by
  have h := r.isLt
  simp [IntKind.wrap, IntKind.bits, IntKind.signed, BitVec.toInt_eq_toNat_cond]
  split <;> omega
theorem wrapUn (r : BitVec 64) : IntKind.wrap .u64 (r.toNat) = (r.toNat : Int) := by
  have h := r.isLt
  simp [IntKind.wrap, IntKind.bits, IntKind.signed]
  omega
theorem ofN (r : BitVec 64) : BitVec.ofInt 64 (r.toNat : Int) = r := by simp
theorem ofI (r : BitVec 64) : BitVec.ofInt 64 r.toInt = r := by simp

theorem w64 (x : Int) : wrap64 x = IntKind.i64.wrap x := by rw [IntKind.wrap_i64, wrap64]

theorem bAN (H M : BitVec 64) : bits .andNot .i64 H.toInt M.toInt = (H &&& ~~~ M).toInt := by
  show IntKind.i64.wrap ((BitVec.ofInt 64 H.toInt &&& ~~~ BitVec.ofInt 64 M.toInt).toNat : Int) = _
  rw [ofI, ofI, wrapI]
theorem bOr (H M : BitVec 64) : bits .or .i64 H.toInt M.toInt = (H ||| M).toInt := by
  show IntKind.i64.wrap ((BitVec.ofInt 64 H.toInt ||| BitVec.ofInt 64 M.toInt).toNat : Int) = _
  rw [ofI, ofI, wrapI]
theorem bAnd (H M : BitVec 64) : bits .and .i64 H.toInt M.toInt = (H &&& M).toInt := by
  show IntKind.i64.wrap ((BitVec.ofInt 64 H.toInt &&& BitVec.ofInt 64 M.toInt).toNat : Int) = _
  rw [ofI, ofI, wrapI]
theorem bAndU (H M : BitVec 64) : bits .and .u64 H.toNat M.toNat = (H &&& M).toNat := by
  show IntKind.u64.wrap ((BitVec.ofInt 64 H.toNat &&& BitVec.ofInt 64 M.toNat).toNat : Int) = _
  rw [ofN, ofN, wrapUn]
theorem bOrU (H M : BitVec 64) : bits .or .u64 H.toNat M.toNat = (H ||| M).toNat := by
  show IntKind.u64.wrap ((BitVec.ofInt 64 H.toNat ||| BitVec.ofInt 64 M.toNat).toNat : Int) = _
  rw [ofN, ofN, wrapUn]

theorem hg_sh (b : Int) (h : 0 < b) (h1 : b < 64) : IntKind.wrap .u64 (18446744073709551615 * 2 ^ min (64 - b).toNat 64) = (hg b).toNat := by
  have : ∀ k : Fin 64, 0 < k.val → IntKind.wrap .u64 (18446744073709551615 * 2 ^ min (64 - (k.val : Int)).toNat 64) = (hg (k.val : Int)).toNat := by decide
  have := this ⟨b.toNat, by omega⟩ (by simp; omega)
  simpa [Int.toNat_of_nonneg (Int.le_of_lt h)] using this
theorem hg_hi (n : Nat) (h : n ≤ 128) : hg (128 - (n : Int)) = ~~~ mh n := by
  have : ∀ k : Fin 129, hg (128 - (k.val : Int)) = ~~~ mh k.val := by decide
  exact this ⟨n, by omega⟩
theorem hg_lo (n : Nat) (h : n ≤ 128) : hg (128 - (n : Int) - 64) = ~~~ ml n := by
  have : ∀ k : Fin 129, hg (128 - (k.val : Int) - 64) = ~~~ ml k.val := by decide
  exact this ⟨n, by omega⟩
theorem hg_32 (n : Nat) (h : n ≤ 32) : 0xFFFFFFFF#64 &&& ~~~ ml n = hg (32 - (n : Int)) >>> 32 := by
  have : ∀ k : Fin 33, 0xFFFFFFFF#64 &&& ~~~ ml k.val = hg (32 - (k.val : Int)) >>> 32 := by decide
  exact this ⟨n, by omega⟩
theorem ng_32 (n : Nat) (h : n ≤ 32) : (~~~ hg (32 - (n : Int))) >>> 32 = ml n := by
  have : ∀ k : Fin 33, (~~~ hg (32 - (k.val : Int))) >>> 32 = ml k.val := by decide
  exact this ⟨n, by omega⟩
theorem mh_32 (n : Nat) (h : n ≤ 32) : mh n = 0 := by
  have : ∀ k : Fin 33, mh k.val = 0 := by decide
  exact this ⟨n, by omega⟩
theorem low32 (L : BitVec 64) (h : L.toNat < 4294967296) : L = L &&& 0xFFFFFFFF#64 := by
  apply BitVec.eq_of_toNat_eq
  rw [BitVec.toNat_and]
  have := Nat.and_two_pow_sub_one_eq_mod L.toNat 32
  simp at this ⊢
  omega
theorem msk32 (L : BitVec 64) (h : L.toNat < 4294967296) (n : Nat) (hn : n ≤ 32) : L &&& (hg (32 - (n : Int)) >>> 32) = L &&& ~~~ ml n := by
  rw [← hg_32 n hn, ← BitVec.and_assoc, ← low32 L h]
theorem shr32 (r : BitVec 64) : ((r.toNat : Int).fdiv (2 ^ 32)) = ((r >>> 32).toNat : Int) := by
  simp [BitVec.toNat_ushiftRight, Nat.shiftRight_eq_div_pow]
  rw [Int.fdiv_eq_ediv_of_nonneg _ (by decide)]
theorem ml_lt (n : Nat) (h : n ≤ 32) : (ml n).toNat < 4294967296 := by
  have : ∀ k : Fin 33, (ml k.val).toNat < 4294967296 := by decide
  exact this ⟨n, by omega⟩
theorem or_lt32 (L M : BitVec 64) (h : L.toNat < 4294967296) (h1 : M.toNat < 4294967296) : (L ||| M).toNat < 4294967296 := by
  rw [BitVec.toNat_or]
  exact Nat.or_lt_two_pow (n := 32) h h1
theorem and_lt32 (L M : BitVec 64) (h : L.toNat < 4294967296) : (L &&& M).toNat < 4294967296 := by
  rw [BitVec.toNat_and]
  exact Nat.lt_of_le_of_lt Nat.and_le_left h

theorem ml_bit (n i : Nat) : (ml n).getLsbD i = (decide (i < 64) && decide (i < n)) := by
  unfold ml
  split
  · rw [BitVec.getLsbD_allOnes]
    by_cases a : i < 64
    · simp only [a, decide_true, Bool.true_and]
      exact (decide_eq_true (by omega)).symm
    · simp only [a, decide_false, Bool.false_and]
  · rw [BitVec.getLsbD_ofNat, Nat.testBit_two_pow_sub_one]
theorem mh_bit (n i : Nat) : (mh n).getLsbD i = (decide (i < 64) && decide (i + 64 < n)) := by
  rw [mh, ml_bit]
  congr 1
  exact decide_eq_decide.mpr (by omega)

/-- cleared and filled -/
def cH (n : Nat) (H : BitVec 64) := H &&& ~~~ mh n
def cL (n : Nat) (L : BitVec 64) := L &&& ~~~ ml n
def fH (n : Nat) (H : BitVec 64) := H ||| mh n
def fL (n : Nat) (L : BitVec 64) := L ||| ml n

theorem cH_less (n : Nat) (H : BitVec 64) (h : cH (n + 1) H = H) : cH n H = H := by
  rw [← h]
  apply BitVec.eq_of_getLsbD_eq
  intro i hi
  simp only [cH, BitVec.getLsbD_and, BitVec.getLsbD_not, mh_bit, hi, decide_true, Bool.true_and]
  by_cases a : i + 64 < n + 1 <;> by_cases b : i + 64 < n <;> simp [a, b] <;> omega
theorem cL_less (n : Nat) (L : BitVec 64) (h : cL (n + 1) L = L) : cL n L = L := by
  rw [← h]
  apply BitVec.eq_of_getLsbD_eq
  intro i hi
  simp only [cL, BitVec.getLsbD_and, BitVec.getLsbD_not, ml_bit, hi, decide_true, Bool.true_and]
  by_cases a : i < n + 1 <;> by_cases b : i < n <;> simp [a, b] <;> omega
theorem cH_idem (n : Nat) (H : BitVec 64) : cH n (cH n H) = cH n H := by
  simp [cH, BitVec.and_assoc]
theorem cL_idem (n : Nat) (L : BitVec 64) : cL n (cL n L) = cL n L := by
  simp [cL, BitVec.and_assoc]
/-- the halves are two -/
theorem up_neL (n : Nat) (hn : n < 64) (L : BitVec 64) (h : cL (n + 1) L = L) : cL n (fL (n + 1) L) ≠ L := by
  intro e
  have e1 := congrArg (fun x : BitVec 64 => x.getLsbD n) e
  have e2 := congrArg (fun x : BitVec 64 => x.getLsbD n) h
  simp only [cL, fL, BitVec.getLsbD_and, BitVec.getLsbD_or, BitVec.getLsbD_not, ml_bit, hn, decide_true, Nat.lt_succ_self, Nat.lt_irrefl, decide_false, Bool.or_true, Bool.not_true, Bool.not_false, Bool.and_false, Bool.and_true] at e1 e2
  rw [← e1] at e2
  cases e2
theorem up_neH (n : Nat) (hn : n < 128) (h64 : 64 ≤ n) (H : BitVec 64) (h : cH (n + 1) H = H) : cH n (fH (n + 1) H) ≠ H := by
  intro e
  have e1 := congrArg (fun x : BitVec 64 => x.getLsbD (n - 64)) e
  have e2 := congrArg (fun x : BitVec 64 => x.getLsbD (n - 64)) h
  have hi : n - 64 < 64 := by omega
  have hj : n - 64 + 64 = n := by omega
  simp only [cH, fH, BitVec.getLsbD_and, BitVec.getLsbD_or, BitVec.getLsbD_not, mh_bit, hi, hj, decide_true, Nat.lt_succ_self, Nat.lt_irrefl, decide_false, Bool.or_true, Bool.not_true, Bool.not_false, Bool.and_false, Bool.and_true] at e1 e2
  rw [← e1] at e2
  cases e2

end Go.Proofs.Ytnlnigelecmobaa
namespace Go.Proofs.Ytnlnigelecmobaa
open Go.RowKit

def wd (s : Bool) : Nat := if s then 128 else 32

set_option maxHeartbeats 400000 in
theorem width_any (s : Bool) (h l : Int) (w : World) :
    Calls Try.prog 32 #[.agg #[.bool s, .int .i64 h, .int .i64 l]] w fun e w' => e = .returned (.int .i64 (wd s)) ∧ Below w.heap.size w w' := by
  cases s <;>
  · go_enter Try.func32, Try.ntmps32
    go_wp2
    go_ret
    exact ⟨rfl, (Below.refl _ _).alloc (Nat.le_refl _) _⟩

theorem loX (n : Nat) (h : n ≤ 128) : wrap64 (IntKind.u64.wrap (IntKind.u64.wrap (2 ^ min n 64) - 1)) = (ml n).toInt := by
  have : ∀ k : Fin 129, IntKind.i64.wrap (IntKind.u64.wrap (IntKind.u64.wrap (2 ^ min k.val 64) - 1)) = (ml k.val).toInt := by decide
  rw [w64]
  exact this ⟨n, by omega⟩
theorem hiX (n : Nat) (h : n ≤ 128) (h0 : 0 ≤ (n : Int) - 64) : wrap64 (IntKind.u64.wrap (IntKind.u64.wrap (2 ^ ((n : Int) - 64).toNat) - 1)) = (mh n).toInt := by
  have : ∀ k : Fin 129, IntKind.i64.wrap (IntKind.u64.wrap (IntKind.u64.wrap (2 ^ ((k.val : Int) - 64).toNat) - 1)) = (mh k.val).toInt := by decide
  rw [w64]
  exact this ⟨n, by omega⟩
theorem hiY (n : Nat) (h0 : (n : Int) - 64 < 0) : wrap64 (IntKind.u64.wrap (IntKind.u64.wrap 1 - 1)) = (mh n).toInt := by
  have : ∀ k : Fin 64, IntKind.i64.wrap (IntKind.u64.wrap (IntKind.u64.wrap 1 - 1)) = (mh k.val).toInt := by decide
  rw [w64]
  exact this ⟨n, by omega⟩

set_option maxHeartbeats 400000 in
theorem lastBits_any (n : Nat) (hn : n ≤ 128) (w : World) :
    Calls Try.prog 62 #[.int .i64 n] w fun e w' => e = .returned (.tuple #[.int .i64 (mh n).toInt, .int .i64 (ml n).toInt]) ∧ Below w.heap.size w w' := by
  go_enter Try.func62, Try.ntmps62
  go_wp2
  · exact bodyPost_ret (v := .tuple #[.int .i64 (mh n).toInt, .int .i64 (ml n).toInt]) (by simp [results, Try.results62, go_sem, loX n hn, hiY n (by assumption)]) rfl ⟨rfl, Below.refl _ _⟩
  · exact bodyPost_ret (v := .tuple #[.int .i64 (mh n).toInt, .int .i64 (ml n).toInt]) (by simp [results, Try.results62, go_sem, loX n hn, hiX n hn (by assumption)]) rfl ⟨rfl, Below.refl _ _⟩

set_option maxHeartbeats 400000 in
theorem cleared_any (s : Bool) (H L : BitVec 64) (n : Nat) (hn : n ≤ 128) (w : World) :
    Calls Try.prog 55 #[.agg #[.bool s, .int .i64 H.toInt, .int .i64 L.toInt], .int .i64 n] w fun e w' => e = .returned (.agg #[.bool s, .int .i64 (cH n H).toInt, .int .i64 (cL n L).toInt]) ∧ Below w.heap.size w w' := by
  go_enter Try.func55, Try.ntmps55
  go_wp2_with fail
  refine (lastBits_any n hn _).mono ?_
  rintro e w1 ⟨rfl, hb⟩
  obtain ⟨hc, hf⟩ := olds (n := w.heap.size + 2) (hb.mono (by simp))
  have hz1 : w.heap.size + 1 < w1.heap.size := by have := hb.size; simp at this; omega
  have hz0 : w.heap.size < w1.heap.size := by omega
  have b1 : Below w.heap.size w w1 := (((Below.refl _ w).alloc (Nat.le_refl _) _).alloc (by simp) _).trans (hb.mono (by simp; omega))
  go_wp2
  refine bodyPost_ret (v := .agg #[.bool s, .int .i64 (cH n H).toInt, .int .i64 (cL n L).toInt]) (by simp [results, Try.results55, go_sem, hc, bAN, cH, cL]) rfl ⟨rfl, ?_⟩
  repeat (first | with_reducible exact b1 | (with_reducible refine Below.setCell ?_ (by first | omega | (simp; done) | (simp; omega)) _) | (with_reducible refine Below.alloc ?_ (by first | omega | (simp; done) | (simp; omega)) _))

end Go.Proofs.Ytnlnigelecmobaa
namespace Go.Proofs.Ytnlnigelecmobaa
open Go.RowKit

/-- '==' on two addresses, and on two spans. -/
theorem eqAd (a : Bool) (b c : Int) (d : Bool) (e f : Int) (w : World) : (Op.equalIn 10000 25 (.agg #[.bool a, .int .i64 b, .int .i64 c]) (.agg #[.bool d, .int .i64 e, .int .i64 f])).run Try.prog w = .ok (a == d && (b == e && c == f)) w := by
  have u3 := Try.underlying3
  have a3 := Try.isAgg3
  have z3 := Try.sizeOf3
  have u4 := Try.underlying4
  have a4 := Try.isAgg4
  have z4 := Try.sizeOf4
  have hS : Try.prog.underlying 25 = some (.struct (Try.prog.fieldsOf 25)) := by kernel_rfl
  have hp : Try.prog.stoodInHeld 25 = false := by kernel_rfl
  rw [show (10000 : Nat) = 9999 + 1 from rfl, run_equalIn_agg w 9999 25 _ _ hS hp]
  simp only [Program.fieldsOf, Try.underlying25]
  go_simp
  by_cases h1 : a = d <;> by_cases h2 : b = e <;> by_cases h3 : c = f <;> simp [h1, h2, h3]

theorem beqI (x y : BitVec 64) : (x.toInt == y.toInt) = (x == y) := by
  rw [Bool.eq_iff_iff, beq_iff_eq, beq_iff_eq, BitVec.toInt_inj]

/-- whether the span (s, H, L) of size n has the address (s', H', L') -/
def hasB (s : Bool) (H L : BitVec 64) (n : Nat) (s' : Bool) (H' L' : BitVec 64) : Bool := s' == s && (cH n H' == H && cL n L' == L)

theorem hasEq (s : Bool) (H L : BitVec 64) (n : Nat) (s' : Bool) (H' L' : BitVec 64) (wx : World) : (Op.equalIn 10000 25 (.agg #[.bool s', .int .i64 (cH n H').toInt, .int .i64 (cL n L').toInt]) (.agg #[.bool s, .int .i64 H.toInt, .int .i64 L.toInt])).run Try.prog wx = .ok (hasB s H L n s' H' L') wx := by
  rw [eqAd, beqI, beqI]; rfl

set_option maxHeartbeats 1000000 in
theorem has_any (s : Bool) (H L : BitVec 64) (n : Nat) (hn : n ≤ 128) (s' : Bool) (H' L' : BitVec 64) (w : World) :
    Calls Try.prog 40 #[.agg #[.bool s, .int .i64 H.toInt, .int .i64 L.toInt, .int .i64 n], .agg #[.bool s', .int .i64 H'.toInt, .int .i64 L'.toInt]] w fun e w' => e = .returned (.bool (hasB s H L n s' H' L')) ∧ Below w.heap.size w w' := by
  have hq := hasEq s H L n s' H' L'
  go_enter Try.func40, Try.ntmps40
  go_wp2_with fail
  go_region_with ((go_at_call 55; refine (cleared_any s' H' L' n hn _).mono ?_; rintro e w1 ⟨rfl, hb1⟩; have hz1 := hb1.size; (try simp at hz1); (first | (refine ltk (w.heap.size) (w1.heap.size) ?_ ?_; (focus omega); intro f10) | skip); (first | (refine ltk (w.heap.size + 1) (w1.heap.size) ?_ ?_; (focus omega); intro f11) | skip); (refine olds_k (w.heap.size + 2) hb1 ?_ ?_; (focus (first | omega | (simp; omega) | (simp; done))); intro hc1 hf1)))
  all_goals
    go_wp2_with fail
    go_ret
    refine ⟨rfl, ?_⟩
    repeat (first | with_reducible exact Below.refl _ _ | (with_reducible refine Below.drew ?_) | (with_reducible refine Below.alloc ?_ ?_ _; rotate_left; (focus (first | omega | (simp; omega) | (simp; done)))) | (with_reducible refine Below.setCell ?_ ?_ _; rotate_left; (focus (first | omega | (simp; omega) | (simp; done)))) | (with_reducible refine Below.trans ?_ (hb1.mono ?_); rotate_left; (focus (first | omega | (simp; omega) | (simp; done)))))

end Go.Proofs.Ytnlnigelecmobaa
namespace Go.Proofs.Ytnlnigelecmobaa
open Go.RowKit

set_option maxHeartbeats 1000000 in
theorem l2Width_any (s : Bool) (h l : Int) (w : World) :
    Calls Try.prog 36 #[.agg #[.bool s, .int .i64 h, .int .i64 l]] w fun e w' => e = .returned (.int .i64 (wd s)) ∧ Below w.heap.size w w' := by
  cases s <;>
  · go_enter Try.func36, Try.ntmps36
    go_wp2
    go_ret
    exact ⟨rfl, (Below.refl _ _).alloc (Nat.le_refl _) _⟩

theorem inB (x a b : Int) : (decide (a ≤ x) && decide (x ≤ b)) = decide (a ≤ x ∧ x ≤ b) := by
  by_cases h : a ≤ x <;> by_cases h1 : x ≤ b <;> simp [h, h1]

set_option maxHeartbeats 1000000 in
theorem l1In_any (x a b : Int) (w : World) :
    Calls Try.prog 35 #[.int .i64 x, .int .i64 a, .int .i64 b] w fun e w' => e = .returned (.bool (decide (a ≤ x ∧ x ≤ b))) ∧ w' = w := by
  rw [← inB]
  by_cases h : a ≤ x
  · rw [decide_eq_true h]
    go_enter Try.func35, Try.ntmps35
    go_wp2
    all_goals go_ret
    all_goals exact ⟨by simp_all, rfl⟩
  · rw [decide_eq_false h]
    go_enter Try.func35, Try.ntmps35
    go_wp2
    all_goals go_ret
    all_goals exact ⟨by simp_all, rfl⟩

theorem shr32' (r : BitVec 64) : (r.toNat : Int) / (4294967296 : Int) = ((r >>> 32).toNat : Int) := by
  rw [← shr32, Int.fdiv_eq_ediv_of_nonneg _ (by decide)]
  rfl

theorem hgA (b : Int) (h : b ≤ 0) : hg b = 0 := by simp [hg, h]
theorem hgB (b : Int) (h : ¬ b ≤ 0) (h1 : 64 ≤ b) : hg b = BitVec.allOnes 64 := by simp [hg, h, h1]

set_option maxHeartbeats 1000000 in
theorem l2High_any (b : Int) (h0 : -64 ≤ b) (h1 : b ≤ 128) (w : World) :
    Calls Try.prog 61 #[.int .i64 b] w fun e w' => e = .returned (.int .u64 (hg b).toNat) ∧ w' = w := by
  by_cases c : b ≤ 0
  · rw [hgA b c]
    go_enter Try.func61, Try.ntmps61
    go_wp2
    go_ret
    exact ⟨rfl, rfl⟩
  · by_cases d : 64 ≤ b
    · rw [hgB b c d]
      go_enter Try.func61, Try.ntmps61
      go_wp2
      go_ret
      exact ⟨rfl, rfl⟩
    · have e := hg_sh b (by omega) (by omega)
      rw [Nat.min_eq_left (by omega)] at e
      have u : IntKind.u64.wrap (64 - b) = 64 - b := by rw [IntKind.wrap_u64]; omega
      go_enter Try.func61, Try.ntmps61
      go_wp2
      go_ret
      exact ⟨rfl, rfl⟩

end Go.Proofs.Ytnlnigelecmobaa
namespace Go.Proofs.Ytnlnigelecmobaa
open Go.RowKit

set_option maxHeartbeats 1000000 in
theorem l2Mask_six (H L : BitVec 64) (n : Nat) (b : Int) (hn : n ≤ 128) (hb : b = 128 - (n : Int)) (w : World) :
    Calls Try.prog 52 #[.agg #[.bool true, .int .i64 H.toInt, .int .i64 L.toInt], .int .i64 b] w fun e w' => e = .returned (.agg #[.bool true, .int .i64 (cH n H).toInt, .int .i64 (cL n L).toInt]) ∧ Below w.heap.size w w' := by
  have a1 := l2High_any b (by omega) (by omega)
  have a2 := l2High_any (b - 64) (by omega) (by omega)
  rw [show hg b = ~~~ mh n by rw [hb]; exact hg_hi n hn] at a1
  rw [show hg (b - 64) = ~~~ ml n by rw [hb]; exact hg_lo n hn] at a2
  have H1 : Hid (∀ w, _) := a1
  have H2 : Hid (∀ w, _) := a2
  clear a1 a2
  have hb1 : -64 ≤ b - 64 := by omega
  have hb2 : b ≤ 128 := by omega
  have hw1 : wrap64 (b - 64) = b - 64 := by unfold wrap64; omega
  have hw2 : IntKind.i64.wrap (b - 64) = b - 64 := by rw [← w64]; exact hw1
  have k1 : IntKind.i64.wrap (bits .and .u64 (IntKind.u64.wrap H.toInt) ((~~~ mh n).toNat : Int)) = (cH n H).toInt := by rw [wrapU, bAndU, wrapI]; rfl
  have k2 : IntKind.i64.wrap (bits .and .u64 (IntKind.u64.wrap L.toInt) ((~~~ ml n).toNat : Int)) = (cL n L).toInt := by rw [wrapU, bAndU, wrapI]; rfl
  have k3 := k1
  have k4 := k2
  rw [← w64] at k3 k4
  generalize ~~~ mh n = M1 at k1 k3 H1
  generalize ~~~ ml n = M2 at k2 k4 H2
  generalize cH n H = X1 at k1 k3 ⊢
  generalize cL n L = X2 at k2 k4 ⊢
  clear hb hn
  go_enter Try.func52, Try.ntmps52
  go_wp2_with fail
  go_region_held3 (fun x => x.cell? ⟨w.heap.size, 0, none⟩ = some (.bool true) ∧ x.cell? ⟨w.heap.size, 1, none⟩ = some (.int .i64 H.toInt) ∧ x.cell? ⟨w.heap.size, 2, none⟩ = some (.int .i64 L.toInt)) ((go_simp)) (first | (go_at_call_of 61 (Value.int .i64 b); refine (H1.out _).mono ?_; rintro e w1 ⟨rfl, rfl⟩) | (go_at_call 61; refine (H2.out _).mono ?_; rintro e w1 ⟨rfl, rfl⟩))
  all_goals
    go_wp2_with fail
    refine bodyPost_ret (v := .agg #[.bool true, .int .i64 X1.toInt, .int .i64 X2.toInt]) (by simp [results, Try.results52, go_sem]) rfl ⟨rfl, ?_⟩
    repeat (first | with_reducible exact Below.refl _ _ | (with_reducible refine Below.drew ?_) | (with_reducible refine Below.alloc ?_ ?_ _; rotate_left; (focus (first | omega | (simp; omega) | (simp; done)))) | (with_reducible refine Below.setCell ?_ ?_ _; rotate_left; (focus (first | omega | (simp; omega) | (simp; done)))))

set_option maxHeartbeats 1000000 in
theorem l2Mask_four (L : BitVec 64) (n : Nat) (b : Int) (hn : n ≤ 32) (hL : L.toNat < 4294967296) (hb : b = 32 - (n : Int)) (w : World) :
    Calls Try.prog 52 #[.agg #[.bool false, .int .i64 0, .int .i64 L.toInt], .int .i64 b] w fun e w' => e = .returned (.agg #[.bool false, .int .i64 0, .int .i64 (cL n L).toInt]) ∧ Below w.heap.size w w' := by
  have a1 := l2High_any b (by omega) (by omega)
  have H1 : Hid (∀ w, _) := a1
  clear a1
  have k1 : bits .and .i64 L.toInt (IntKind.i64.wrap (((hg b).toNat : Int) / 4294967296)) = (cL n L).toInt := by
    rw [shr32', wrapI, bAnd, hb, msk32 L hL n hn]; rfl
  generalize hg b = M1 at k1 H1
  generalize cL n L = X2 at k1 ⊢
  clear hb hn hL
  go_enter Try.func52, Try.ntmps52
  go_wp2_with fail
  go_region_held3 (fun x => x.cell? ⟨w.heap.size, 0, none⟩ = some (.bool false) ∧ x.cell? ⟨w.heap.size, 1, none⟩ = some (.int .i64 0) ∧ x.cell? ⟨w.heap.size, 2, none⟩ = some (.int .i64 L.toInt)) ((go_simp)) ((go_at_call 61; refine (H1.out _).mono ?_; rintro e w1 ⟨rfl, rfl⟩))
  all_goals
    go_wp2_with fail
    refine bodyPost_ret (v := .agg #[.bool false, .int .i64 0, .int .i64 X2.toInt]) (by simp [results, Try.results52, go_sem]) rfl ⟨rfl, ?_⟩
    repeat (first | with_reducible exact Below.refl _ _ | (with_reducible refine Below.drew ?_) | (with_reducible refine Below.alloc ?_ ?_ _; rotate_left; (focus (first | omega | (simp; omega) | (simp; done)))) | (with_reducible refine Below.setCell ?_ ?_ _; rotate_left; (focus (first | omega | (simp; omega) | (simp; done)))))

end Go.Proofs.Ytnlnigelecmobaa
namespace Go.Proofs.Ytnlnigelecmobaa
open Go.RowKit

/-- whether (s, H, L) and b bits are a right prefix -/
def pokB (s : Bool) (H L : BitVec 64) (b : Int) : Bool := okB s H.toInt L.toInt && (decide (0 ≤ b ∧ b ≤ (wd s : Int)) && hasB s H L ((wd s : Int) - b).toNat s H L)

theorem okB_four (H L : BitVec 64) (h : okB false H.toInt L.toInt = true) : H = 0 ∧ L.toNat < 4294967296 := by
  simp [okB] at h
  have h1 : H = 0 := by
    have := BitVec.ofInt_toInt (x := H)
    rw [h.1] at this
    simpa using this.symm
  refine ⟨h1, ?_⟩
  have e := BitVec.toInt_eq_toNat_cond (x := L)
  have := L.isLt
  split at e <;> omega

theorem l2Mask_any (s : Bool) (H L : BitVec 64) (n : Nat) (b : Int) (hok : okB s H.toInt L.toInt = true) (hn : n ≤ wd s) (hb : b = (wd s : Int) - (n : Int)) (w : World) :
    Calls Try.prog 52 #[.agg #[.bool s, .int .i64 H.toInt, .int .i64 L.toInt], .int .i64 b] w fun e w' => e = .returned (.agg #[.bool s, .int .i64 (cH n H).toInt, .int .i64 (cL n L).toInt]) ∧ Below w.heap.size w w' := by
  cases s
  · obtain ⟨rfl, hL⟩ := okB_four H L hok
    have := l2Mask_four L n b (by simpa [wd] using hn) hL (by simpa [wd] using hb) w
    have z : (cH n (0 : BitVec 64)) = 0 := by simp [cH]
    rw [z]
    simpa using this
  · exact l2Mask_six H L n b (by simpa [wd] using hn) (by simpa [wd] using hb) w

theorem four_of_below {W X : World} {n b : Nat} {v0 v1 v2 v3 : Value} (hB : Below n W X) (hb : b < n)
    (k : W.cell? ⟨b, 0, none⟩ = some v0 ∧ W.cell? ⟨b, 1, none⟩ = some v1 ∧ W.cell? ⟨b, 2, none⟩ = some v2 ∧ W.cell? ⟨b, 3, none⟩ = some v3) :
    X.cell? ⟨b, 0, none⟩ = some v0 ∧ X.cell? ⟨b, 1, none⟩ = some v1 ∧ X.cell? ⟨b, 2, none⟩ = some v2 ∧ X.cell? ⟨b, 3, none⟩ = some v3 := by
  obtain ⟨k0, k1, k2, k3⟩ := k
  exact ⟨(hB.cell hb).trans k0, (hB.cell hb).trans k1, (hB.cell hb).trans k2, (hB.cell hb).trans k3⟩

set_option maxHeartbeats 1000000 in
theorem sPrefixOk_bad (s : Bool) (H L : BitVec 64) (b : Int) (hok : okB s H.toInt L.toInt = false) (w : World) :
    Calls Try.prog 33 #[.agg #[.bool s, .int .i64 H.toInt, .int .i64 L.toInt, .int .i64 b]] w fun e w' => e = .returned (.bool false) ∧ Below w.heap.size w w' := by
  have HK : Hid (∀ w, _) := sAddrOk_any s H.toInt L.toInt
  rw [hok] at HK
  clear hok
  go_enter Try.func33, Try.ntmps33
  go_wp2_with fail
  refine wp_region_held_drew (S := (fun x => x.cell? ⟨w.heap.size, 0, none⟩ = some (.bool s) ∧ x.cell? ⟨w.heap.size, 1, none⟩ = some (.int .i64 H.toInt) ∧ x.cell? ⟨w.heap.size, 2, none⟩ = some (.int .i64 L.toInt) ∧ x.cell? ⟨w.heap.size, 3, none⟩ = some (.int .i64 b))) (by kernel_rfl) ?_ (fun hHeld => ?_)
  · try dsimp only
    (refine four_of_below (W := w.alloc (.cells #[.bool s, .int .i64 H.toInt, .int .i64 L.toInt, .int .i64 b] 27)) (n := w.heap.size + 1) ?_ (by omega) ⟨by simp [go_sem], by simp [go_sem], by simp [go_sem], by simp [go_sem]⟩; repeat (first | with_reducible exact Below.refl _ _ | (with_reducible refine Below.drew ?_) | (with_reducible refine Below.alloc ?_ ?_ _; rotate_left; (focus (first | omega | (simp; omega) | (simp; done)))) | (with_reducible refine Below.setCell ?_ ?_ _; rotate_left; (focus (first | omega | (simp; omega) | (simp; done))))))
  refine wpAnyH_take (i := 0) (v := ?_) rfl (by kernel_rfl) (by kernel_rfl) (by kernel_rfl) (fun _ _ _ h => h) (Or.inl ⟨by rfl, ?_⟩) (by assumption) ?_
  rotate_left
  · intro w hSw
    try dsimp only at hSw
    go_simp
    try with_reducible rfl
  try simp only [go_sem]
  refine wpAnyH_take (i := 1) (v := ?_) rfl (by kernel_rfl) (by kernel_rfl) (by kernel_rfl) (fun _ _ _ h => h) (Or.inl ⟨by rfl, ?_⟩) (by assumption) ?_
  rotate_left
  · intro w hSw
    try dsimp only at hSw
    go_simp
    try with_reducible rfl
  try simp only [go_sem]
  refine wpAnyH_ready (rs := [2]) (by kernel_rfl) (by simp) ?_
  refine AllReadyH.cons rfl (fun K hK => ?_) AllReadyH.nil
  go_simp
  go_wp2_with ((go_at_call 51; refine (HK.out _).mono ?_; rintro e w1 ⟨rfl, hb1⟩; have hz1 := hb1.size; (try simp at hz1); (first | (refine ltk (w.heap.size) (w1.heap.size) ?_ ?_; (focus omega); intro f10) | skip); (refine olds_k (w.heap.size + 1) hb1 ?_ ?_; (focus (first | omega | (simp; omega) | (simp; done))); intro hc1 hf1)))
  refine hK.out _ _ ?_ (fun hHeld => ?_)
  · try dsimp only
    (refine four_of_below (W := w.alloc (.cells #[.bool s, .int .i64 H.toInt, .int .i64 L.toInt, .int .i64 b] 27)) (n := w.heap.size + 1) ?_ (by omega) ⟨by simp [go_sem], by simp [go_sem], by simp [go_sem], by simp [go_sem]⟩; repeat (first | with_reducible exact Below.refl _ _ | (with_reducible refine Below.drew ?_) | (with_reducible refine Below.alloc ?_ ?_ _; rotate_left; (focus (first | omega | (simp; omega) | (simp; done)))) | (with_reducible refine Below.setCell ?_ ?_ _; rotate_left; (focus (first | omega | (simp; omega) | (simp; done)))) | (with_reducible refine Below.trans ?_ (hb1.mono ?_); rotate_left; (focus (first | omega | (simp; omega) | (simp; done))))))
  clear hK K
  refine wpAnyH_take (i := 3) (v := ?_) rfl (by kernel_rfl) (by kernel_rfl) (by kernel_rfl) (fun _ _ _ h => h) (Or.inl ⟨by rfl, ?_⟩) (by assumption) ?_
  rotate_left
  · intro w hSw
    try dsimp only at hSw
    go_simp
    try with_reducible rfl
  try simp only [go_sem]
  refine wpAnyH_take (i := 4) (v := undef) rfl (by kernel_rfl) (by kernel_rfl) (by kernel_rfl) (fun _ _ _ h => h) (Or.inr ⟨by rfl, rfl⟩) (by assumption) ?_
  try simp only [go_sem]
  refine wpAnyH_take (i := 5) (v := undef) rfl (by kernel_rfl) (by kernel_rfl) (by kernel_rfl) (fun _ _ _ h => h) (Or.inr ⟨by rfl, rfl⟩) (by assumption) ?_
  try simp only [go_sem]
  refine wpAnyH_take (i := 6) (v := undef) rfl (by kernel_rfl) (by kernel_rfl) (by kernel_rfl) (fun _ _ _ h => h) (Or.inr ⟨by rfl, rfl⟩) (by assumption) ?_
  try simp only [go_sem]
  refine wpAnyH_take (i := 7) (v := undef) rfl (by kernel_rfl) (by kernel_rfl) (by kernel_rfl) (fun _ _ _ h => h) (Or.inr ⟨by rfl, rfl⟩) (by assumption) ?_
  try simp only [go_sem]
  refine wpAnyH_ready (rs := [8]) (by kernel_rfl) (by simp) ?_
  refine AllReadyH.cons rfl (fun K hK => ?_) AllReadyH.nil
  go_simp
  refine hK.out _ _ ?_ (fun hHeld => ?_)
  · try dsimp only
    (refine four_of_below (W := w.alloc (.cells #[.bool s, .int .i64 H.toInt, .int .i64 L.toInt, .int .i64 b] 27)) (n := w.heap.size + 1) ?_ (by omega) ⟨by simp [go_sem], by simp [go_sem], by simp [go_sem], by simp [go_sem]⟩; repeat (first | with_reducible exact Below.refl _ _ | (with_reducible refine Below.drew ?_) | (with_reducible refine Below.alloc ?_ ?_ _; rotate_left; (focus (first | omega | (simp; omega) | (simp; done)))) | (with_reducible refine Below.setCell ?_ ?_ _; rotate_left; (focus (first | omega | (simp; omega) | (simp; done)))) | (with_reducible refine Below.trans ?_ (hb1.mono ?_); rotate_left; (focus (first | omega | (simp; omega) | (simp; done))))))
  clear hK K
  refine wpAnyH_ready (rs := [9]) (by kernel_rfl) (by simp) ?_
  refine AllReadyH.cons rfl (fun K hK => ?_) AllReadyH.nil
  go_simp
  refine hK.out _ _ ?_ (fun hHeld => ?_)
  · try dsimp only
    (refine four_of_below (W := w.alloc (.cells #[.bool s, .int .i64 H.toInt, .int .i64 L.toInt, .int .i64 b] 27)) (n := w.heap.size + 1) ?_ (by omega) ⟨by simp [go_sem], by simp [go_sem], by simp [go_sem], by simp [go_sem]⟩; repeat (first | with_reducible exact Below.refl _ _ | (with_reducible refine Below.drew ?_) | (with_reducible refine Below.alloc ?_ ?_ _; rotate_left; (focus (first | omega | (simp; omega) | (simp; done)))) | (with_reducible refine Below.setCell ?_ ?_ _; rotate_left; (focus (first | omega | (simp; omega) | (simp; done)))) | (with_reducible refine Below.trans ?_ (hb1.mono ?_); rotate_left; (focus (first | omega | (simp; omega) | (simp; done))))))
  clear hK K
  refine wpAnyH_take (i := 10) (v := ?_) rfl (by kernel_rfl) (by kernel_rfl) (by kernel_rfl) (fun _ _ _ h => h) (Or.inl ⟨by rfl, ?_⟩) (by assumption) ?_
  rotate_left
  · intro w hSw
    try dsimp only at hSw
    go_simp
    try with_reducible rfl
  try simp only [go_sem]
  refine wpAnyH_take (i := 11) (v := ?_) rfl (by kernel_rfl) (by kernel_rfl) (by kernel_rfl) (fun _ _ _ h => h) (Or.inl ⟨by rfl, ?_⟩) (by assumption) ?_
  rotate_left
  · intro w hSw
    try dsimp only at hSw
    go_simp
    try with_reducible rfl
  try simp only [go_sem]
  refine wpAnyH_take (i := 12) (v := undef) rfl (by kernel_rfl) (by kernel_rfl) (by kernel_rfl) (fun _ _ _ h => h) (Or.inr ⟨by rfl, rfl⟩) (by assumption) ?_
  try simp only [go_sem]
  refine wpAnyH_take (i := 13) (v := undef) rfl (by kernel_rfl) (by kernel_rfl) (by kernel_rfl) (fun _ _ _ h => h) (Or.inr ⟨by rfl, rfl⟩) (by assumption) ?_
  try simp only [go_sem]
  refine wpAnyH_take (i := 14) (v := undef) rfl (by kernel_rfl) (by kernel_rfl) (by kernel_rfl) (fun _ _ _ h => h) (Or.inr ⟨by rfl, rfl⟩) (by assumption) ?_
  try simp only [go_sem]
  refine wpAnyH_take (i := 15) (v := undef) rfl (by kernel_rfl) (by kernel_rfl) (by kernel_rfl) (fun _ _ _ h => h) (Or.inr ⟨by rfl, rfl⟩) (by assumption) ?_
  try simp only [go_sem]
  refine wpAnyH_take (i := 17) (v := undef) rfl (by kernel_rfl) (by kernel_rfl) (by kernel_rfl) (fun _ _ _ h => h) (Or.inr ⟨by rfl, rfl⟩) (by assumption) ?_
  try simp only [go_sem]
  refine wpAnyH_take (i := 18) (v := undef) rfl (by kernel_rfl) (by kernel_rfl) (by kernel_rfl) (fun _ _ _ h => h) (Or.inr ⟨by rfl, rfl⟩) (by assumption) ?_
  try simp only [go_sem]
  refine wpAnyH_ready (rs := [16]) (by kernel_rfl) (by simp) ?_
  refine AllReadyH.cons rfl (fun K hK => ?_) AllReadyH.nil
  go_simp
  refine hK.out _ _ ?_ (fun hHeld => ?_)
  · try dsimp only
    (refine four_of_below (W := w.alloc (.cells #[.bool s, .int .i64 H.toInt, .int .i64 L.toInt, .int .i64 b] 27)) (n := w.heap.size + 1) ?_ (by omega) ⟨by simp [go_sem], by simp [go_sem], by simp [go_sem], by simp [go_sem]⟩; repeat (first | with_reducible exact Below.refl _ _ | (with_reducible refine Below.drew ?_) | (with_reducible refine Below.alloc ?_ ?_ _; rotate_left; (focus (first | omega | (simp; omega) | (simp; done)))) | (with_reducible refine Below.setCell ?_ ?_ _; rotate_left; (focus (first | omega | (simp; omega) | (simp; done)))) | (with_reducible refine Below.trans ?_ (hb1.mono ?_); rotate_left; (focus (first | omega | (simp; omega) | (simp; done))))))
  clear hK K
  refine wpAnyH_take (i := 19) (v := undef) rfl (by kernel_rfl) (by kernel_rfl) (by kernel_rfl) (fun _ _ _ h => h) (Or.inr ⟨by rfl, rfl⟩) (by assumption) ?_
  simp only [List.getElem_toArray, List.getElem_cons_succ, List.getElem_cons_zero]
  try simp only [go_sem]
  refine wpAnyH_take (i := 20) (v := ?_) rfl (by kernel_rfl) (by kernel_rfl) (by kernel_rfl) (fun _ _ _ h => h) (Or.inl ⟨by rfl, ?_⟩) (by assumption) ?_
  rotate_left
  · intro w hSw
    try dsimp only at hSw
    go_simp
    try with_reducible rfl
  simp only [List.getElem_toArray, List.getElem_cons_succ, List.getElem_cons_zero]
  try simp only [go_sem]
  refine wpAnyH_take (i := 21) (v := ?_) rfl (by kernel_rfl) (by kernel_rfl) (by kernel_rfl) (fun _ _ _ h => h) (Or.inl ⟨by rfl, ?_⟩) (by assumption) ?_
  rotate_left
  · intro w hSw
    try dsimp only at hSw
    go_simp
    try with_reducible rfl
  simp only [List.getElem_toArray, List.getElem_cons_succ, List.getElem_cons_zero]
  try simp only [go_sem]
  refine wpAnyH_done (by kernel_rfl) ?_ _
  go_wp2_with fail
  go_ret
  refine ⟨rfl, ?_⟩
  repeat (first | with_reducible exact Below.refl _ _ | (with_reducible refine Below.drew ?_) | (with_reducible refine Below.alloc ?_ ?_ _; rotate_left; (focus (first | omega | (simp; omega) | (simp; done)))) | (with_reducible refine Below.setCell ?_ ?_ _; rotate_left; (focus (first | omega | (simp; omega) | (simp; done)))) | (with_reducible refine Below.trans ?_ (hb1.mono ?_); rotate_left; (focus (first | omega | (simp; omega) | (simp; done)))))

set_option maxHeartbeats 1000000 in
theorem sPrefixOk_out (s : Bool) (H L : BitVec 64) (b : Int) (hok : okB s H.toInt L.toInt = true) (hin : decide (0 ≤ b ∧ b ≤ (wd s : Int)) = false) (w : World) :
    Calls Try.prog 33 #[.agg #[.bool s, .int .i64 H.toInt, .int .i64 L.toInt, .int .i64 b]] w fun e w' => e = .returned (.bool false) ∧ Below w.heap.size w w' := by
  have HK : Hid (∀ w, _) := sAddrOk_any s H.toInt L.toInt
  rw [hok] at HK
  clear hok
  have HI : Hid (∀ w, _) := l1In_any b 0 (wd s)
  rw [hin] at HI
  clear hin
  go_enter Try.func33, Try.ntmps33
  go_wp2_with fail
  refine wp_region_held_drew (S := (fun x => x.cell? ⟨w.heap.size, 0, none⟩ = some (.bool s) ∧ x.cell? ⟨w.heap.size, 1, none⟩ = some (.int .i64 H.toInt) ∧ x.cell? ⟨w.heap.size, 2, none⟩ = some (.int .i64 L.toInt) ∧ x.cell? ⟨w.heap.size, 3, none⟩ = some (.int .i64 b))) (by kernel_rfl) ?_ (fun hHeld => ?_)
  · try dsimp only
    (refine four_of_below (W := w.alloc (.cells #[.bool s, .int .i64 H.toInt, .int .i64 L.toInt, .int .i64 b] 27)) (n := w.heap.size + 1) ?_ (by omega) ⟨by simp [go_sem], by simp [go_sem], by simp [go_sem], by simp [go_sem]⟩; repeat (first | with_reducible exact Below.refl _ _ | (with_reducible refine Below.drew ?_) | (with_reducible refine Below.alloc ?_ ?_ _; rotate_left; (focus (first | omega | (simp; omega) | (simp; done)))) | (with_reducible refine Below.setCell ?_ ?_ _; rotate_left; (focus (first | omega | (simp; omega) | (simp; done))))))
  refine wpAnyH_take (i := 0) (v := ?_) rfl (by kernel_rfl) (by kernel_rfl) (by kernel_rfl) (fun _ _ _ h => h) (Or.inl ⟨by rfl, ?_⟩) (by assumption) ?_
  rotate_left
  · intro w hSw
    try dsimp only at hSw
    go_simp
    try with_reducible rfl
  try simp only [go_sem]
  refine wpAnyH_take (i := 1) (v := ?_) rfl (by kernel_rfl) (by kernel_rfl) (by kernel_rfl) (fun _ _ _ h => h) (Or.inl ⟨by rfl, ?_⟩) (by assumption) ?_
  rotate_left
  · intro w hSw
    try dsimp only at hSw
    go_simp
    try with_reducible rfl
  try simp only [go_sem]
  refine wpAnyH_ready (rs := [2]) (by kernel_rfl) (by simp) ?_
  refine AllReadyH.cons rfl (fun K hK => ?_) AllReadyH.nil
  go_simp
  go_wp2_with ((go_at_call 51; refine (HK.out _).mono ?_; rintro e w1 ⟨rfl, hb1⟩; have hz1 := hb1.size; (try simp at hz1); (first | (refine ltk (w.heap.size) (w1.heap.size) ?_ ?_; (focus omega); intro f10) | skip); (refine olds_k (w.heap.size + 1) hb1 ?_ ?_; (focus (first | omega | (simp; omega) | (simp; done))); intro hc1 hf1)))
  refine hK.out _ _ ?_ (fun hHeld => ?_)
  · try dsimp only
    (refine four_of_below (W := w.alloc (.cells #[.bool s, .int .i64 H.toInt, .int .i64 L.toInt, .int .i64 b] 27)) (n := w.heap.size + 1) ?_ (by omega) ⟨by simp [go_sem], by simp [go_sem], by simp [go_sem], by simp [go_sem]⟩; repeat (first | with_reducible exact Below.refl _ _ | (with_reducible refine Below.drew ?_) | (with_reducible refine Below.alloc ?_ ?_ _; rotate_left; (focus (first | omega | (simp; omega) | (simp; done)))) | (with_reducible refine Below.setCell ?_ ?_ _; rotate_left; (focus (first | omega | (simp; omega) | (simp; done)))) | (with_reducible refine Below.trans ?_ (hb1.mono ?_); rotate_left; (focus (first | omega | (simp; omega) | (simp; done))))))
  clear hK K
  refine wpAnyH_take (i := 3) (v := ?_) rfl (by kernel_rfl) (by kernel_rfl) (by kernel_rfl) (fun _ _ _ h => h) (Or.inl ⟨by rfl, ?_⟩) (by assumption) ?_
  rotate_left
  · intro w hSw
    try dsimp only at hSw
    go_simp
    try with_reducible rfl
  try simp only [go_sem]
  refine wpAnyH_take (i := 4) (v := ?_) rfl (by kernel_rfl) (by kernel_rfl) (by kernel_rfl) (fun _ _ _ h => h) (Or.inl ⟨by rfl, ?_⟩) (by assumption) ?_
  rotate_left
  · intro w hSw
    try dsimp only at hSw
    go_simp
    try with_reducible rfl
  try simp only [go_sem]
  refine wpAnyH_take (i := 5) (v := ?_) rfl (by kernel_rfl) (by kernel_rfl) (by kernel_rfl) (fun _ _ _ h => h) (Or.inl ⟨by rfl, ?_⟩) (by assumption) ?_
  rotate_left
  · intro w hSw
    try dsimp only at hSw
    go_simp
    try with_reducible rfl
  try simp only [go_sem]
  refine wpAnyH_take (i := 6) (v := ?_) rfl (by kernel_rfl) (by kernel_rfl) (by kernel_rfl) (fun _ _ _ h => h) (Or.inl ⟨by rfl, ?_⟩) (by assumption) ?_
  rotate_left
  · intro w hSw
    try dsimp only at hSw
    go_simp
    try with_reducible rfl
  try simp only [go_sem]
  refine wpAnyH_take (i := 7) (v := ?_) rfl (by kernel_rfl) (by kernel_rfl) (by kernel_rfl) (fun _ _ _ h => h) (Or.inl ⟨by rfl, ?_⟩) (by assumption) ?_
  rotate_left
  · intro w hSw
    try dsimp only at hSw
    go_simp
    try with_reducible rfl
  try simp only [go_sem]
  refine wpAnyH_ready (rs := [8]) (by kernel_rfl) (by simp) ?_
  refine AllReadyH.cons rfl (fun K hK => ?_) AllReadyH.nil
  go_simp
  go_wp2_with ((go_at_call 36; refine (l2Width_any s H.toInt L.toInt _).mono ?_; rintro e w2 ⟨rfl, hb2⟩; have hz2 := hb2.size; (try simp at hz2); (first | (refine ltk (w.heap.size) (w2.heap.size) ?_ ?_; (focus omega); intro f20) | skip); (refine olds_k (w.heap.size + 1) hb2 ?_ ?_; (focus (first | omega | (simp; omega) | (simp; done))); intro hc2 hf2)))
  refine hK.out _ _ ?_ (fun hHeld => ?_)
  · try dsimp only
    (refine four_of_below (W := w.alloc (.cells #[.bool s, .int .i64 H.toInt, .int .i64 L.toInt, .int .i64 b] 27)) (n := w.heap.size + 1) ?_ (by omega) ⟨by simp [go_sem], by simp [go_sem], by simp [go_sem], by simp [go_sem]⟩; repeat (first | with_reducible exact Below.refl _ _ | (with_reducible refine Below.drew ?_) | (with_reducible refine Below.alloc ?_ ?_ _; rotate_left; (focus (first | omega | (simp; omega) | (simp; done)))) | (with_reducible refine Below.setCell ?_ ?_ _; rotate_left; (focus (first | omega | (simp; omega) | (simp; done)))) | (with_reducible refine Below.trans ?_ (hb2.mono ?_); rotate_left; (focus (first | omega | (simp; omega) | (simp; done)))) | (with_reducible refine Below.trans ?_ (hb1.mono ?_); rotate_left; (focus (first | omega | (simp; omega) | (simp; done))))))
  clear hK K
  refine wpAnyH_ready (rs := [9]) (by kernel_rfl) (by simp) ?_
  refine AllReadyH.cons rfl (fun K hK => ?_) AllReadyH.nil
  go_simp
  go_wp2_with ((go_at_call 35; refine (HI.out _).mono ?_; rintro e w3 ⟨rfl, rfl⟩))
  refine hK.out _ _ ?_ (fun hHeld => ?_)
  · try dsimp only
    (refine four_of_below (W := w.alloc (.cells #[.bool s, .int .i64 H.toInt, .int .i64 L.toInt, .int .i64 b] 27)) (n := w.heap.size + 1) ?_ (by omega) ⟨by simp [go_sem], by simp [go_sem], by simp [go_sem], by simp [go_sem]⟩; repeat (first | with_reducible exact Below.refl _ _ | (with_reducible refine Below.drew ?_) | (with_reducible refine Below.alloc ?_ ?_ _; rotate_left; (focus (first | omega | (simp; omega) | (simp; done)))) | (with_reducible refine Below.setCell ?_ ?_ _; rotate_left; (focus (first | omega | (simp; omega) | (simp; done)))) | (with_reducible refine Below.trans ?_ (hb2.mono ?_); rotate_left; (focus (first | omega | (simp; omega) | (simp; done)))) | (with_reducible refine Below.trans ?_ (hb1.mono ?_); rotate_left; (focus (first | omega | (simp; omega) | (simp; done))))))
  clear hK K
  refine wpAnyH_take (i := 10) (v := ?_) rfl (by kernel_rfl) (by kernel_rfl) (by kernel_rfl) (fun _ _ _ h => h) (Or.inl ⟨by rfl, ?_⟩) (by assumption) ?_
  rotate_left
  · intro w hSw
    try dsimp only at hSw
    go_simp
    try with_reducible rfl
  try simp only [go_sem]
  refine wpAnyH_take (i := 11) (v := ?_) rfl (by kernel_rfl) (by kernel_rfl) (by kernel_rfl) (fun _ _ _ h => h) (Or.inl ⟨by rfl, ?_⟩) (by assumption) ?_
  rotate_left
  · intro w hSw
    try dsimp only at hSw
    go_simp
    try with_reducible rfl
  try simp only [go_sem]
  refine wpAnyH_take (i := 12) (v := undef) rfl (by kernel_rfl) (by kernel_rfl) (by kernel_rfl) (fun _ _ _ h => h) (Or.inr ⟨by rfl, rfl⟩) (by assumption) ?_
  try simp only [go_sem]
  refine wpAnyH_take (i := 13) (v := undef) rfl (by kernel_rfl) (by kernel_rfl) (by kernel_rfl) (fun _ _ _ h => h) (Or.inr ⟨by rfl, rfl⟩) (by assumption) ?_
  try simp only [go_sem]
  refine wpAnyH_take (i := 14) (v := undef) rfl (by kernel_rfl) (by kernel_rfl) (by kernel_rfl) (fun _ _ _ h => h) (Or.inr ⟨by rfl, rfl⟩) (by assumption) ?_
  try simp only [go_sem]
  refine wpAnyH_take (i := 15) (v := undef) rfl (by kernel_rfl) (by kernel_rfl) (by kernel_rfl) (fun _ _ _ h => h) (Or.inr ⟨by rfl, rfl⟩) (by assumption) ?_
  try simp only [go_sem]
  refine wpAnyH_take (i := 17) (v := undef) rfl (by kernel_rfl) (by kernel_rfl) (by kernel_rfl) (fun _ _ _ h => h) (Or.inr ⟨by rfl, rfl⟩) (by assumption) ?_
  try simp only [go_sem]
  refine wpAnyH_take (i := 18) (v := undef) rfl (by kernel_rfl) (by kernel_rfl) (by kernel_rfl) (fun _ _ _ h => h) (Or.inr ⟨by rfl, rfl⟩) (by assumption) ?_
  try simp only [go_sem]
  refine wpAnyH_ready (rs := [16]) (by kernel_rfl) (by simp) ?_
  refine AllReadyH.cons rfl (fun K hK => ?_) AllReadyH.nil
  go_simp
  refine hK.out _ _ ?_ (fun hHeld => ?_)
  · try dsimp only
    (refine four_of_below (W := w.alloc (.cells #[.bool s, .int .i64 H.toInt, .int .i64 L.toInt, .int .i64 b] 27)) (n := w.heap.size + 1) ?_ (by omega) ⟨by simp [go_sem], by simp [go_sem], by simp [go_sem], by simp [go_sem]⟩; repeat (first | with_reducible exact Below.refl _ _ | (with_reducible refine Below.drew ?_) | (with_reducible refine Below.alloc ?_ ?_ _; rotate_left; (focus (first | omega | (simp; omega) | (simp; done)))) | (with_reducible refine Below.setCell ?_ ?_ _; rotate_left; (focus (first | omega | (simp; omega) | (simp; done)))) | (with_reducible refine Below.trans ?_ (hb2.mono ?_); rotate_left; (focus (first | omega | (simp; omega) | (simp; done)))) | (with_reducible refine Below.trans ?_ (hb1.mono ?_); rotate_left; (focus (first | omega | (simp; omega) | (simp; done))))))
  clear hK K
  refine wpAnyH_take (i := 19) (v := undef) rfl (by kernel_rfl) (by kernel_rfl) (by kernel_rfl) (fun _ _ _ h => h) (Or.inr ⟨by rfl, rfl⟩) (by assumption) ?_
  simp only [List.getElem_toArray, List.getElem_cons_succ, List.getElem_cons_zero]
  try simp only [go_sem]
  refine wpAnyH_take (i := 20) (v := ?_) rfl (by kernel_rfl) (by kernel_rfl) (by kernel_rfl) (fun _ _ _ h => h) (Or.inl ⟨by rfl, ?_⟩) (by assumption) ?_
  rotate_left
  · intro w hSw
    try dsimp only at hSw
    go_simp
    try with_reducible rfl
  simp only [List.getElem_toArray, List.getElem_cons_succ, List.getElem_cons_zero]
  try simp only [go_sem]
  refine wpAnyH_take (i := 21) (v := ?_) rfl (by kernel_rfl) (by kernel_rfl) (by kernel_rfl) (fun _ _ _ h => h) (Or.inl ⟨by rfl, ?_⟩) (by assumption) ?_
  rotate_left
  · intro w hSw
    try dsimp only at hSw
    go_simp
    try with_reducible rfl
  simp only [List.getElem_toArray, List.getElem_cons_succ, List.getElem_cons_zero]
  try simp only [go_sem]
  refine wpAnyH_done (by kernel_rfl) ?_ _
  go_wp2_with fail
  go_ret
  refine ⟨rfl, ?_⟩
  repeat (first | with_reducible exact Below.refl _ _ | (with_reducible refine Below.drew ?_) | (with_reducible refine Below.alloc ?_ ?_ _; rotate_left; (focus (first | omega | (simp; omega) | (simp; done)))) | (with_reducible refine Below.setCell ?_ ?_ _; rotate_left; (focus (first | omega | (simp; omega) | (simp; done)))) | (with_reducible refine Below.trans ?_ (hb2.mono ?_); rotate_left; (focus (first | omega | (simp; omega) | (simp; done)))) | (with_reducible refine Below.trans ?_ (hb1.mono ?_); rotate_left; (focus (first | omega | (simp; omega) | (simp; done)))))

set_option maxHeartbeats 1000000 in
theorem sPrefixOk_in (s : Bool) (H L : BitVec 64) (b : Int) (n : Nat) (hok : okB s H.toInt L.toInt = true) (hin : decide (0 ≤ b ∧ b ≤ (wd s : Int)) = true) (hn : n ≤ wd s) (hb : b = (wd s : Int) - n) (w : World) :
    Calls Try.prog 33 #[.agg #[.bool s, .int .i64 H.toInt, .int .i64 L.toInt, .int .i64 b]] w fun e w' => e = .returned (.bool (hasB s H L n s H L)) ∧ Below w.heap.size w w' := by
  have HM : Hid (∀ w, _) := l2Mask_any s H L n b hok hn hb
  have hq := hasEq s H L n s H L
  have HK : Hid (∀ w, _) := sAddrOk_any s H.toInt L.toInt
  rw [hok] at HK
  clear hok
  have HI : Hid (∀ w, _) := l1In_any b 0 (wd s)
  rw [hin] at HI
  clear hin
  clear hn hb
  generalize hasB s H L n s H L = B at hq ⊢
  go_enter Try.func33, Try.ntmps33
  go_wp2_with fail
  go_region_held3 (fun x => x.cell? ⟨w.heap.size, 0, none⟩ = some (.bool s) ∧ x.cell? ⟨w.heap.size, 1, none⟩ = some (.int .i64 H.toInt) ∧ x.cell? ⟨w.heap.size, 2, none⟩ = some (.int .i64 L.toInt) ∧ x.cell? ⟨w.heap.size, 3, none⟩ = some (.int .i64 b)) ((refine four_of_below (W := w.alloc (.cells #[.bool s, .int .i64 H.toInt, .int .i64 L.toInt, .int .i64 b] 27)) (n := w.heap.size + 1) ?_ (by omega) ⟨by simp [go_sem], by simp [go_sem], by simp [go_sem], by simp [go_sem]⟩; repeat (first | with_reducible exact Below.refl _ _ | (with_reducible refine Below.drew ?_) | (with_reducible refine Below.alloc ?_ ?_ _; rotate_left; (focus (first | omega | (simp; omega) | (simp; done)))) | (with_reducible refine Below.setCell ?_ ?_ _; rotate_left; (focus (first | omega | (simp; omega) | (simp; done)))) | (with_reducible refine Below.trans ?_ (hb4.mono ?_); rotate_left; (focus (first | omega | (simp; omega) | (simp; done)))) | (with_reducible refine Below.trans ?_ (hb2.mono ?_); rotate_left; (focus (first | omega | (simp; omega) | (simp; done)))) | (with_reducible refine Below.trans ?_ (hb1.mono ?_); rotate_left; (focus (first | omega | (simp; omega) | (simp; done))))))) (first | (go_at_call 51; refine (HK.out _).mono ?_; rintro e w1 ⟨rfl, hb1⟩; have hz1 := hb1.size; (try simp at hz1); (first | (refine ltk (w.heap.size) (w1.heap.size) ?_ ?_; (focus omega); intro f10) | skip); (refine olds_k (w.heap.size + 1) hb1 ?_ ?_; (focus (first | omega | (simp; omega) | (simp; done))); intro hc1 hf1)) | (go_at_call 36; refine (l2Width_any s H.toInt L.toInt _).mono ?_; rintro e w2 ⟨rfl, hb2⟩; have hz2 := hb2.size; (try simp at hz2); (first | (refine ltk (w.heap.size) (w2.heap.size) ?_ ?_; (focus omega); intro f20) | skip); (refine olds_k (w.heap.size + 1) hb2 ?_ ?_; (focus (first | omega | (simp; omega) | (simp; done))); intro hc2 hf2)) | (go_at_call 35; refine (HI.out _).mono ?_; rintro e w3 ⟨rfl, rfl⟩) | (go_at_call 52; refine (HM.out _).mono ?_; rintro e w4 ⟨rfl, hb4⟩; have hz4 := hb4.size; (try simp at hz4); (first | (refine ltk (w.heap.size) (w4.heap.size) ?_ ?_; (focus omega); intro f40) | skip); (refine olds_k (w.heap.size + 1) hb4 ?_ ?_; (focus (first | omega | (simp; omega) | (simp; done))); intro hc4 hf4)))
  all_goals
    go_wp2_with fail
    go_ret
    refine ⟨rfl, ?_⟩
    repeat (first | with_reducible exact Below.refl _ _ | (with_reducible refine Below.drew ?_) | (with_reducible refine Below.alloc ?_ ?_ _; rotate_left; (focus (first | omega | (simp; omega) | (simp; done)))) | (with_reducible refine Below.setCell ?_ ?_ _; rotate_left; (focus (first | omega | (simp; omega) | (simp; done)))) | (with_reducible refine Below.trans ?_ (hb4.mono ?_); rotate_left; (focus (first | omega | (simp; omega) | (simp; done)))) | (with_reducible refine Below.trans ?_ (hb2.mono ?_); rotate_left; (focus (first | omega | (simp; omega) | (simp; done)))) | (with_reducible refine Below.trans ?_ (hb1.mono ?_); rotate_left; (focus (first | omega | (simp; omega) | (simp; done)))))

theorem sPrefixOk_any (s : Bool) (H L : BitVec 64) (b : Int) (w : World) :
    Calls Try.prog 33 #[.agg #[.bool s, .int .i64 H.toInt, .int .i64 L.toInt, .int .i64 b]] w fun e w' => e = .returned (.bool (pokB s H L b)) ∧ Below w.heap.size w w' := by
  cases hok : okB s H.toInt L.toInt
  · rw [show pokB s H L b = false by simp [pokB, hok]]
    exact sPrefixOk_bad s H L b hok w
  · cases hin : decide (0 ≤ b ∧ b ≤ (wd s : Int))
    · rw [show pokB s H L b = false by rw [pokB, hok, hin]; rfl]
      exact sPrefixOk_out s H L b hok hin w
    · have h := of_decide_eq_true hin
      rw [show pokB s H L b = hasB s H L ((wd s : Int) - b).toNat s H L by rw [pokB, hok, hin]; rfl]
      exact sPrefixOk_in s H L b _ hok hin (by omega) (by omega) w

end Go.Proofs.Ytnlnigelecmobaa
namespace Go.Proofs.Ytnlnigelecmobaa
open Go.RowKit

set_option maxHeartbeats 1000000 in
theorem sPrefixOf_yes (s : Bool) (H L : BitVec 64) (b : Int) (n : Nat) (hok : okB s H.toInt L.toInt = true) (hb : 0 ≤ b) (hn : b = (wd s : Int) - (n : Int)) (w : World) :
    Calls Try.prog 48 #[.agg #[.bool s, .int .i64 H.toInt, .int .i64 L.toInt], .int .i64 b] w fun e w' => e = .returned (.tuple #[.agg #[.bool s, .int .i64 (cH n H).toInt, .int .i64 (cL n L).toInt, .int .i64 (b)], .bool true]) ∧ Below w.heap.size w w' := by
  have hin : decide (0 ≤ b ∧ b ≤ (wd s : Int)) = true := decide_eq_true (by omega)
  have HM : Hid (∀ w, _) := l2Mask_any s H L n b hok (by omega) hn
  generalize cH n H = C1 at HM ⊢
  generalize cL n L = C2 at HM ⊢
  have HK : Hid (∀ w, _) := sAddrOk_any s H.toInt L.toInt
  rw [hok] at HK
  clear hok
  have HI : Hid (∀ w, _) := l1In_any b 0 (wd s)
  rw [hin] at HI
  clear hin
  clear hb hn
  go_enter Try.func48, Try.ntmps48
  go_wp2_with fail
  refine (HK.out _).mono ?_
  rintro e w1 ⟨rfl, hb1⟩
  have hz1 := hb1.size
  try simp at hz1
  have f10 : w.heap.size < w1.heap.size := by omega
  have f11 : w.heap.size + 1 < w1.heap.size := by omega
  refine olds_k (w.heap.size + 2) hb1 ?_ ?_
  · first | omega | (simp; omega) | (simp; done)
  intro hc1 hf1
  go_wp2_with fail
  refine (l2Width_any s H.toInt L.toInt _).mono ?_
  rintro e w2 ⟨rfl, hb2⟩
  have hz2 := hb2.size
  try simp at hz2
  have f20 : w.heap.size < w2.heap.size := by omega
  have f21 : w.heap.size + 1 < w2.heap.size := by omega
  refine olds_k (w.heap.size + 2) hb2 ?_ ?_
  · first | omega | (simp; omega) | (simp; done)
  intro hc2 hf2
  go_wp2_with fail
  refine (HI.out _).mono ?_
  rintro e w3 ⟨rfl, rfl⟩
  go_wp2_with fail
  refine (HM.out _).mono ?_
  rintro e w4 ⟨rfl, hb4⟩
  have hz4 := hb4.size
  try simp at hz4
  have f40 : w.heap.size < w4.heap.size := by omega
  have f41 : w.heap.size + 1 < w4.heap.size := by omega
  refine olds_k (w.heap.size + 2) hb4 ?_ ?_
  · first | omega | (simp; omega) | (simp; done)
  intro hc4 hf4
  go_wp2_with fail
  refine bodyPost_ret (v := .tuple #[.agg #[.bool s, .int .i64 C1.toInt, .int .i64 C2.toInt, .int .i64 (b)], .bool true]) (by simp [results, Try.results48, go_sem, hc1, hc2, hc4]) rfl ⟨rfl, ?_⟩
  repeat (first | with_reducible exact Below.refl _ _ | (with_reducible refine Below.drew ?_) | (with_reducible refine Below.alloc ?_ ?_ _; rotate_left; (focus (first | omega | (simp; omega) | (simp; done)))) | (with_reducible refine Below.setCell ?_ ?_ _; rotate_left; (focus (first | omega | (simp; omega) | (simp; done)))) | (with_reducible refine Below.trans ?_ (hb4.mono ?_); rotate_left; (focus (first | omega | (simp; omega) | (simp; done)))) | (with_reducible refine Below.trans ?_ (hb2.mono ?_); rotate_left; (focus (first | omega | (simp; omega) | (simp; done)))) | (with_reducible refine Below.trans ?_ (hb1.mono ?_); rotate_left; (focus (first | omega | (simp; omega) | (simp; done)))))

end Go.Proofs.Ytnlnigelecmobaa
namespace Go.Proofs.Ytnlnigelecmobaa
open Go.RowKit

/-- The specification's PrefixOf of a right address and bits of its width: some prefix of words of 64 bits, and true. -/
theorem sPrefixOf_some (s : Bool) (X Y b : Int) (hX : I64 X) (hY : I64 Y) (hok : okB s X Y = true) (hb : 0 ≤ b) (hb1 : b ≤ (wd s : Int)) :
    ∃ (U V : Int), (I64 U ∧ I64 V) ∧ ∀ w : World, Calls Try.prog 48 #[.agg #[.bool s, .int .i64 X, .int .i64 Y], .int .i64 b] w fun e w' => e = .returned (.tuple #[.agg #[.bool s, .int .i64 U, .int .i64 V, .int .i64 b], .bool true]) ∧ Below w.heap.size w w' := by
  have h := sPrefixOf_yes s (BitVec.ofInt 64 X) (BitVec.ofInt 64 Y) b ((wd s : Int) - b).toNat (by rw [bvW hX, bvW hY]; exact hok) hb (by omega)
  rw [bvW hX, bvW hY] at h
  exact ⟨_, _, ⟨bvI _, bvI _⟩, h⟩

set_option maxHeartbeats 1000000 in
theorem l2Draw_any (c : Nat) (a : Option Addr) (len cap : Nat) (w : World) (hC : Cur w c a len cap) :
    Calls Try.prog 25 #[.pointer (some ⟨c, 0, none⟩)] w fun e w' => (∃ (S : Bool) (X Y Z : Int), (I64 X ∧ I64 Y ∧ I64 Z) ∧ e = .returned (.agg #[.bool S, .int .i64 X, .int .i64 Y, .int .i64 Z])) ∧ Cur w' c a len cap ∧ Kp c w w' := by
  have HC : Hid (Cur w c a len cap) := hC
  have hlt := hC.lt
  clear hC
  go_enter Try.func25, Try.ntmps25
  go_wp2_with fail
  refine (l1Draw_any c a len cap _ (by repeat (first | with_reducible exact HC.out | (with_reducible refine Cur.more ?_ _) | (with_reducible refine Cur.drew ?_) | (with_reducible refine Cur.far ?_ (by omega) _)))).mono ?_
  rintro e w1 ⟨⟨S, X, Y, ⟨hok, bX, bY⟩, rfl⟩, hC1, hK1⟩
  have HC1 : Hid (Cur w1 c a len cap) := hC1
  have HK1 : Hid (Kp c _ w1) := hK1
  have hz1 := hK1.big
  try simp at hz1
  clear hC1 hK1
  have d10 := fun o => HK1.out.cel (w.heap.size) o (by first | omega | (simp; done) | (simp; omega)) (by omega)
  have g10 := fun o => HK1.out.frz (w.heap.size) o (by first | omega | (simp; done) | (simp; omega)) (by omega)
  have l10 : w.heap.size < w1.heap.size := by omega
  have HX : Hid (I64 X ∧ I64 Y ∧ okB S X Y = true) := ⟨bX, bY, hok⟩
  clear bX bY hok
  go_wp2_with fail
  refine (l1Int_any (fun z => 0 ≤ z ∧ z ≤ 32) c a len cap (w1.heap.size + 1) 9 _ (by repeat (first | with_reducible exact HC1.out | (with_reducible refine Cur.more ?_ _) | (with_reducible refine Cur.drew ?_) | (with_reducible refine Cur.far ?_ (by omega) _))) (by omega) (by omega) (by first | omega | (simp; done) | (simp; omega)) (by omega) (fun j hj => match j, hj with | 0, _ => ⟨24, by omega, by simp [go_sem]⟩ | 1, _ => ⟨26, by omega, by simp [go_sem]⟩ | 2, _ => ⟨28, by omega, by simp [go_sem]⟩ | 3, _ => ⟨30, by omega, by simp [go_sem]⟩ | 4, _ => ⟨32, by omega, by simp [go_sem]⟩ | 5, _ => ⟨8, by omega, by simp [go_sem]⟩ | 6, _ => ⟨16, by omega, by simp [go_sem]⟩ | 7, _ => ⟨0, by omega, by simp [go_sem]⟩ | 8, _ => ⟨31, by omega, by simp [go_sem]⟩ | (j + 9), h => absurd h (by omega))).mono ?_
  rintro e w2 ⟨⟨x2, x2b, rfl⟩, hC2, hK2⟩
  have HC2 : Hid (Cur w2 c a len cap) := hC2
  have HK2 : Hid (Kp c _ w2) := hK2
  have hz2 := hK2.big
  try simp at hz2
  clear hC2 hK2
  have d20 := fun o => HK2.out.cel (w.heap.size) o (by first | omega | (simp; done) | (simp; omega)) (by omega)
  have g20 := fun o => HK2.out.frz (w.heap.size) o (by first | omega | (simp; done) | (simp; omega)) (by omega)
  have l20 : w.heap.size < w2.heap.size := by omega
  have d21 := fun o => HK2.out.cel (w1.heap.size) o (by first | omega | (simp; done) | (simp; omega)) (by omega)
  have g21 := fun o => HK2.out.frz (w1.heap.size) o (by first | omega | (simp; done) | (simp; omega)) (by omega)
  have l21 : w1.heap.size < w2.heap.size := by omega
  have x2c : 0 ≤ x2 ∧ x2 ≤ 32 := x2b
  have q1 : w.heap.size < w1.heap.size + 1 := by omega
  clear x2b
  cases S
  · obtain ⟨U, V, bUV, hF⟩ := sPrefixOf_some _ X Y x2 HX.out.1 HX.out.2.1 HX.out.2.2 (by omega) (by show x2 ≤ (32 : Int); omega)
    have HF : Hid (∀ w : World, _) := hF
    have HUV : Hid (I64 U ∧ I64 V) := bUV
    clear hF bUV
    go_wp2_with fail
    refine (HF.out _).mono ?_
    rintro e w3 ⟨rfl, hb3⟩
    have HC3 : Hid (Cur w3 c a len cap) := Cur.grew (by repeat (first | with_reducible exact HC2.out | (with_reducible refine Cur.more ?_ _) | (with_reducible refine Cur.drew ?_) | (with_reducible refine Cur.far ?_ (by omega) _))) hb3
    have HK3 : Hid (Kp c _ w3) := Kp.of_below (by first | omega | (simp; omega)) hb3
    have hz3 := hb3.size
    try simp at hz3
    clear hb3
    have d30 := fun o => HK3.out.cel (w.heap.size) o (by first | omega | (simp; done) | (simp; omega)) (by omega)
    have g30 := fun o => HK3.out.frz (w.heap.size) o (by first | omega | (simp; done) | (simp; omega)) (by omega)
    have l30 : w.heap.size < w3.heap.size := by omega
    go_wp2_with fail
    refine bodyPost_ret (v := .agg #[.bool false, .int .i64 U, .int .i64 V, .int .i64 x2]) (by simp [results, Try.results25, go_sem, d30, d20, d10, l10, q1, l30]) rfl ⟨⟨false, U, V, x2, ⟨HUV.out.1, HUV.out.2, by unfold I64; omega⟩, rfl⟩, ?_, ?_⟩
    · exact (by repeat (first | with_reducible exact HC3.out | (with_reducible refine Cur.more ?_ _) | (with_reducible refine Cur.drew ?_) | (with_reducible refine Cur.far ?_ (by omega) _)))
    · repeat (first | with_reducible exact Kp.refl _ _ | (with_reducible refine Kp.trans ?_ HK3.out) | (with_reducible refine Kp.trans ?_ HK2.out) | (with_reducible refine Kp.trans ?_ HK1.out) | (with_reducible refine Kp.more ?_ (by omega) _) | (with_reducible refine Kp.setNew ?_ (by omega) (by omega) _))
  · go_wp2_with fail
    refine (l1Int_any (fun z => 0 ≤ z ∧ z ≤ 128) c a len cap (w2.heap.size) 11 _ (by repeat (first | with_reducible exact HC2.out | (with_reducible refine Cur.more ?_ _) | (with_reducible refine Cur.drew ?_) | (with_reducible refine Cur.far ?_ (by omega) _))) (by omega) (by omega) (by first | omega | (simp; done) | (simp; omega)) (by omega) (fun j hj => match j, hj with | 0, _ => ⟨64, by omega, by simp [go_sem]⟩ | 1, _ => ⟨48, by omega, by simp [go_sem]⟩ | 2, _ => ⟨112, by omega, by simp [go_sem]⟩ | 3, _ => ⟨120, by omega, by simp [go_sem]⟩ | 4, _ => ⟨126, by omega, by simp [go_sem]⟩ | 5, _ => ⟨127, by omega, by simp [go_sem]⟩ | 6, _ => ⟨128, by omega, by simp [go_sem]⟩ | 7, _ => ⟨0, by omega, by simp [go_sem]⟩ | 8, _ => ⟨63, by omega, by simp [go_sem]⟩ | 9, _ => ⟨65, by omega, by simp [go_sem]⟩ | 10, _ => ⟨1, by omega, by simp [go_sem]⟩ | (j + 11), h => absurd h (by omega))).mono ?_
    rintro e w4 ⟨⟨x4, x4b, rfl⟩, hC4, hK4⟩
    have HC4 : Hid (Cur w4 c a len cap) := hC4
    have HK4 : Hid (Kp c _ w4) := hK4
    have hz4 := hK4.big
    try simp at hz4
    clear hC4 hK4
    have d40 := fun o => HK4.out.cel (w.heap.size) o (by first | omega | (simp; done) | (simp; omega)) (by omega)
    have g40 := fun o => HK4.out.frz (w.heap.size) o (by first | omega | (simp; done) | (simp; omega)) (by omega)
    have l40 : w.heap.size < w4.heap.size := by omega
    have d41 := fun o => HK4.out.cel (w1.heap.size) o (by first | omega | (simp; done) | (simp; omega)) (by omega)
    have g41 := fun o => HK4.out.frz (w1.heap.size) o (by first | omega | (simp; done) | (simp; omega)) (by omega)
    have l41 : w1.heap.size < w4.heap.size := by omega
    have x4c : 0 ≤ x4 ∧ x4 ≤ 128 := x4b
    clear x4b
    obtain ⟨U, V, bUV, hF⟩ := sPrefixOf_some _ X Y x4 HX.out.1 HX.out.2.1 HX.out.2.2 (by omega) (by show x4 ≤ (128 : Int); omega)
    have HF : Hid (∀ w : World, _) := hF
    have HUV : Hid (I64 U ∧ I64 V) := bUV
    clear hF bUV
    go_wp2_with fail
    refine (HF.out _).mono ?_
    rintro e w5 ⟨rfl, hb5⟩
    have HC5 : Hid (Cur w5 c a len cap) := Cur.grew (by repeat (first | with_reducible exact HC4.out | (with_reducible refine Cur.more ?_ _) | (with_reducible refine Cur.drew ?_) | (with_reducible refine Cur.far ?_ (by omega) _))) hb5
    have HK5 : Hid (Kp c _ w5) := Kp.of_below (by first | omega | (simp; omega)) hb5
    have hz5 := hb5.size
    try simp at hz5
    clear hb5
    have d50 := fun o => HK5.out.cel (w.heap.size) o (by first | omega | (simp; done) | (simp; omega)) (by omega)
    have g50 := fun o => HK5.out.frz (w.heap.size) o (by first | omega | (simp; done) | (simp; omega)) (by omega)
    have l50 : w.heap.size < w5.heap.size := by omega
    go_wp2_with fail
    refine bodyPost_ret (v := .agg #[.bool true, .int .i64 U, .int .i64 V, .int .i64 x4]) (by simp [results, Try.results25, go_sem, d50, d40, d20, d10, l10, q1, l20, l50]) rfl ⟨⟨true, U, V, x4, ⟨HUV.out.1, HUV.out.2, by unfold I64; omega⟩, rfl⟩, ?_, ?_⟩
    · exact (by repeat (first | with_reducible exact HC5.out | (with_reducible refine Cur.more ?_ _) | (with_reducible refine Cur.drew ?_) | (with_reducible refine Cur.far ?_ (by omega) _)))
    · repeat (first | with_reducible exact Kp.refl _ _ | (with_reducible refine Kp.trans ?_ HK5.out) | (with_reducible refine Kp.trans ?_ HK4.out) | (with_reducible refine Kp.trans ?_ HK2.out) | (with_reducible refine Kp.trans ?_ HK1.out) | (with_reducible refine Kp.more ?_ (by omega) _) | (with_reducible refine Kp.setNew ?_ (by omega) (by omega) _))

end Go.Proofs.Ytnlnigelecmobaa
namespace Go.Proofs.Ytnlnigelecmobaa
open Go.RowKit

set_option maxHeartbeats 4000000 in
theorem l2DrawAny_any (c : Nat) (a : Option Addr) (len cap : Nat) (w : World) (hC : Cur w c a len cap) :
    Calls Try.prog 27 #[.pointer (some ⟨c, 0, none⟩)] w fun e w' => (∃ (S : Bool) (X Y Z : Int), (I64 X ∧ I64 Y ∧ I64 Z) ∧ e = .returned (.agg #[.bool S, .int .i64 X, .int .i64 Y, .int .i64 Z])) ∧ Cur w' c a len cap ∧ Kp c w w' := by
  have HC : Hid (Cur w c a len cap) := hC
  have hlt := hC.lt
  clear hC
  go_enter Try.func27, Try.ntmps27
  go_wp2_with fail
  refine (l2Draw_any c a len cap _ (by repeat (first | (with_reducible refine Cur.far ?_ (by omega) _) | with_reducible exact HC.out | (with_reducible refine Cur.more ?_ _)))).mono ?_
  rintro e w1 ⟨⟨S, X, Y, Z, bb, rfl⟩, hC1, hK1⟩
  have HC1 : Hid (Cur w1 c a len cap) := hC1
  have HK1 : Hid (Kp c _ w1) := hK1
  have hz1 := hK1.big
  try simp at hz1
  clear hC1 hK1
  have d10 := fun o => HK1.out.cel (w.heap.size) o (by first | omega | (simp; done) | (simp; omega)) (by omega)
  have g10 := fun o => HK1.out.frz (w.heap.size) o (by first | omega | (simp; done) | (simp; omega)) (by omega)
  have l10 : w.heap.size < w1.heap.size := by omega
  have HB : Hid (I64 X ∧ I64 Y ∧ I64 Z) := bb
  clear bb
  go_wp2_with fail
  refine (l1Below_any c a len cap 12 _ (by repeat (first | (with_reducible refine Cur.far ?_ (by omega) _) | with_reducible exact HC1.out | (with_reducible refine Cur.more ?_ _)))).mono ?_
  rintro e w2 ⟨⟨x2, x20, x29, rfl⟩, hC2, hK2⟩
  have HC2 : Hid (Cur w2 c a len cap) := hC2
  have HK2 : Hid (Kp c _ w2) := hK2
  have hz2 := hK2.big
  try simp at hz2
  clear hC2 hK2
  have d20 := fun o => HK2.out.cel (w.heap.size) o (by first | omega | (simp; done) | (simp; omega)) (by omega)
  have g20 := fun o => HK2.out.frz (w.heap.size) o (by first | omega | (simp; done) | (simp; omega)) (by omega)
  have l20 : w.heap.size < w2.heap.size := by omega
  have d21 := fun o => HK2.out.cel (w1.heap.size) o (by first | omega | (simp; done) | (simp; omega)) (by omega)
  have g21 := fun o => HK2.out.frz (w1.heap.size) o (by first | omega | (simp; done) | (simp; omega)) (by omega)
  have l21 : w1.heap.size < w2.heap.size := by omega
  have x28 := x29 (by omega)
  clear x29
  have n1 : w1.heap.size ≠ w.heap.size := by omega
  by_cases z0 : x2 = 0
  · subst z0
    go_wp2_with fail
    refine (l1DrawAny_any c a len cap _ (by repeat (first | (with_reducible refine Cur.far ?_ (by omega) _) | with_reducible exact HC2.out | (with_reducible refine Cur.more ?_ _)))).mono ?_
    rintro e w3 ⟨⟨T, U, V, bb, rfl⟩, hC3, hK3⟩
    have HC3 : Hid (Cur w3 c a len cap) := hC3
    have HK3 : Hid (Kp c _ w3) := hK3
    have hz3 := hK3.big
    try simp at hz3
    clear hC3 hK3
    have d30 := fun o => HK3.out.cel (w.heap.size) o (by first | omega | (simp; done) | (simp; omega)) (by omega)
    have g30 := fun o => HK3.out.frz (w.heap.size) o (by first | omega | (simp; done) | (simp; omega)) (by omega)
    have l30 : w.heap.size < w3.heap.size := by omega
    have d31 := fun o => HK3.out.cel (w1.heap.size) o (by first | omega | (simp; done) | (simp; omega)) (by omega)
    have g31 := fun o => HK3.out.frz (w1.heap.size) o (by first | omega | (simp; done) | (simp; omega)) (by omega)
    have l31 : w1.heap.size < w3.heap.size := by omega
    have HU : Hid (I64 U ∧ I64 V) := bb
    clear bb
    have q0 : w3.cell? ⟨w.heap.size, 0, none⟩ = some (.bool false) := by simp [d30, d20, d10, go_sem, l10]
    have f0 : w3.frozen? ⟨w.heap.size, 0, none⟩ = false := by simp [g30, g20, g10, go_sem, l10]
    have q1 : w3.cell? ⟨w.heap.size, 1, none⟩ = some (.int .i64 0) := by simp [d30, d20, d10, go_sem, l10]
    have f1 : w3.frozen? ⟨w.heap.size, 1, none⟩ = false := by simp [g30, g20, g10, go_sem, l10]
    have q2 : w3.cell? ⟨w.heap.size, 2, none⟩ = some (.int .i64 0) := by simp [d30, d20, d10, go_sem, l10]
    have f2 : w3.frozen? ⟨w.heap.size, 2, none⟩ = false := by simp [g30, g20, g10, go_sem, l10]
    have q3 : w3.cell? ⟨w.heap.size, 3, none⟩ = some (.int .i64 0) := by simp [d30, d20, d10, go_sem, l10]
    have f3 : w3.frozen? ⟨w.heap.size, 3, none⟩ = false := by simp [g30, g20, g10, go_sem, l10]
    have p0 : w3.cell? ⟨w1.heap.size, 0, none⟩ = some (.bool S) := by simp [d31, d21, go_sem]
    have h0 : w3.frozen? ⟨w1.heap.size, 0, none⟩ = false := by simp [g31, g21, go_sem]
    have p1 : w3.cell? ⟨w1.heap.size, 1, none⟩ = some (.int .i64 X) := by simp [d31, d21, go_sem]
    have h1 : w3.frozen? ⟨w1.heap.size, 1, none⟩ = false := by simp [g31, g21, go_sem]
    have p2 : w3.cell? ⟨w1.heap.size, 2, none⟩ = some (.int .i64 Y) := by simp [d31, d21, go_sem]
    have h2 : w3.frozen? ⟨w1.heap.size, 2, none⟩ = false := by simp [g31, g21, go_sem]
    have p3 : w3.cell? ⟨w1.heap.size, 3, none⟩ = some (.int .i64 Z) := by simp [d31, d21, go_sem]
    have h3 : w3.frozen? ⟨w1.heap.size, 3, none⟩ = false := by simp [g31, g21, go_sem]
    have n2 : w.heap.size ≠ w1.heap.size := by omega
    clear d10 d20 d21 d30 d31 g10 g20 g21 g30 g31
    go_wp2_with fail
    refine bodyPost_ret (v := .agg #[.bool T, .int .i64 U, .int .i64 V, .int .i64 Z]) (by simp [results, Try.results27, go_sem, q0, q1, q2, q3]) rfl ⟨⟨T, U, V, Z, ⟨HU.out.1, HU.out.2, HB.out.2.2⟩, rfl⟩, ?_, ?_⟩
    · exact (by repeat (first | (with_reducible refine Cur.far ?_ (by omega) _) | with_reducible exact HC3.out | (with_reducible refine Cur.more ?_ _)))
    · repeat (first | (with_reducible refine Kp.setNew ?_ (by omega) (by omega) _) | with_reducible exact Kp.refl _ _ | (with_reducible refine Kp.trans ?_ HK3.out) | (with_reducible refine Kp.trans ?_ HK2.out) | (with_reducible refine Kp.trans ?_ HK1.out) | (with_reducible refine Kp.more ?_ (by omega) _))
  · have y0 : (x2 == 0) = false := by rw [beq_eq_false_iff_ne]; exact z0
    by_cases z1 : x2 = 1
    · subst z1
      go_wp2_with fail
      refine (l1Int_any I64 c a len cap (w2.heap.size) 6 _ (by repeat (first | (with_reducible refine Cur.far ?_ (by omega) _) | with_reducible exact HC2.out | (with_reducible refine Cur.more ?_ _))) (by omega) (by omega) (by first | omega | (simp; done) | (simp; omega)) (by omega) (fun j hj => match j, hj with | 0, _ => ⟨(-1), by unfold I64; omega, by simp [go_sem]⟩ | 1, _ => ⟨0, by unfold I64; omega, by simp [go_sem]⟩ | 2, _ => ⟨32, by unfold I64; omega, by simp [go_sem]⟩ | 3, _ => ⟨33, by unfold I64; omega, by simp [go_sem]⟩ | 4, _ => ⟨128, by unfold I64; omega, by simp [go_sem]⟩ | 5, _ => ⟨129, by unfold I64; omega, by simp [go_sem]⟩ | (j + 6), h => absurd h (by omega))).mono ?_
      rintro e w3 ⟨⟨x3, x3b, rfl⟩, hC3, hK3⟩
      have HC3 : Hid (Cur w3 c a len cap) := hC3
      have HK3 : Hid (Kp c _ w3) := hK3
      have hz3 := hK3.big
      try simp at hz3
      clear hC3 hK3
      have d30 := fun o => HK3.out.cel (w.heap.size) o (by first | omega | (simp; done) | (simp; omega)) (by omega)
      have g30 := fun o => HK3.out.frz (w.heap.size) o (by first | omega | (simp; done) | (simp; omega)) (by omega)
      have l30 : w.heap.size < w3.heap.size := by omega
      have d31 := fun o => HK3.out.cel (w1.heap.size) o (by first | omega | (simp; done) | (simp; omega)) (by omega)
      have g31 := fun o => HK3.out.frz (w1.heap.size) o (by first | omega | (simp; done) | (simp; omega)) (by omega)
      have l31 : w1.heap.size < w3.heap.size := by omega
      have HO : Hid (I64 x3) := x3b
      clear x3b
      go_wp2_with fail
      refine bodyPost_ret (v := .agg #[.bool S, .int .i64 X, .int .i64 Y, .int .i64 x3]) (by simp [results, Try.results27, go_sem, d30, d20, d10, l10, l20]) rfl ⟨⟨S, X, Y, x3, ⟨HB.out.1, HB.out.2.1, HO.out⟩, rfl⟩, ?_, ?_⟩
      · exact (by repeat (first | (with_reducible refine Cur.far ?_ (by omega) _) | with_reducible exact HC3.out | (with_reducible refine Cur.more ?_ _)))
      · repeat (first | (with_reducible refine Kp.setNew ?_ (by omega) (by omega) _) | with_reducible exact Kp.refl _ _ | (with_reducible refine Kp.trans ?_ HK3.out) | (with_reducible refine Kp.trans ?_ HK2.out) | (with_reducible refine Kp.trans ?_ HK1.out) | (with_reducible refine Kp.more ?_ (by omega) _))
    · have y1 : (x2 == 1) = false := by rw [beq_eq_false_iff_ne]; exact z1
      go_wp2_with fail
      refine bodyPost_ret (v := .agg #[.bool S, .int .i64 X, .int .i64 Y, .int .i64 Z]) (by simp [results, Try.results27, go_sem, d20, d10, l10]) rfl ⟨⟨S, X, Y, Z, HB.out, rfl⟩, ?_, ?_⟩
      · exact (by repeat (first | (with_reducible refine Cur.far ?_ (by omega) _) | with_reducible exact HC2.out | (with_reducible refine Cur.more ?_ _)))
      · repeat (first | (with_reducible refine Kp.setNew ?_ (by omega) (by omega) _) | with_reducible exact Kp.refl _ _ | (with_reducible refine Kp.trans ?_ HK2.out) | (with_reducible refine Kp.trans ?_ HK1.out) | (with_reducible refine Kp.more ?_ (by omega) _))

end Go.Proofs.Ytnlnigelecmobaa
namespace Go.Proofs.Ytnlnigelecmobaa
open Go.RowKit

/-- The code's bytes, as memory holds them. -/
def Bytes (w : World) (a : Option Addr) (len : Nat) : Prop := ∀ j, j < len → ∃ p o v, a = some ⟨p, o, none⟩ ∧ p < w.heap.size ∧ w.cell? ⟨p, o + j, none⟩ = some (.int .u8 v) ∧ 0 ≤ v ∧ v < 256

set_option maxRecDepth 100000 in
set_option maxHeartbeats 1000000 in
theorem l1New_any (a : Option Addr) (len cap : Nat) (w : World) (hB : Bytes w a len) (hl : len ≤ 1048576) :
    Calls Try.prog 13 #[.slice a len cap] w fun e w' => e = .returned (.pointer (some ⟨w.heap.size, 0, none⟩)) ∧ Cur w' w.heap.size a len cap ∧ Below w.heap.size w w' ∧ w'.heap.size = w.heap.size + 1 := by
  have HB : Hid (Bytes w a len) := hB
  clear hB
  go_enter Try.func13, Try.ntmps13
  go_wp2
  go_loop [3, 4] (fun t3 t4 => ∃ (h : Int) (k : Nat), k ≤ len ∧ t3 = .int .i64 h ∧ t4 = .int .i64 k) (fun _ t4 => len - (intOf t4).toNat)
  case atStart => exact ⟨_, 0, Nat.zero_le _, rfl, rfl⟩
  case round =>
    obtain ⟨h, k, hk, rfl, rfl⟩ := hrel
    by_cases h1 : k < len
    · by_cases h2 : k < 4000
      · obtain ⟨p, o, v, rfl, hp, cv, v0, v9⟩ := HB.out k h1
        go_wp2
        go_round
        case rel => exact ⟨_, k + 1, by omega, rfl, by go_num⟩
        case measure => simp [intOf]; omega
      · go_wp2
        go_ret
        refine ⟨rfl, ⟨by simp [go_sem], ⟨0, Nat.zero_le _, by simp [go_sem]⟩, ⟨h, by simp [go_sem]⟩, by simp [go_sem], by simp [go_sem], fun j hj => ?_, hl⟩, (Below.refl _ w).alloc (Nat.le_refl _) _, by simp⟩
        obtain ⟨p, o, v, ha, hp, cv, v0, v9⟩ := HB.out j hj
        exact ⟨p, o, v, ha, hp, (((Below.refl _ w).alloc (Nat.le_refl _) _).cell hp).trans cv, v0, v9⟩
    · go_wp2
      go_ret
      refine ⟨rfl, ⟨by simp [go_sem], ⟨0, Nat.zero_le _, by simp [go_sem]⟩, ⟨h, by simp [go_sem]⟩, by simp [go_sem], by simp [go_sem], fun j hj => ?_, hl⟩, (Below.refl _ w).alloc (Nat.le_refl _) _, by simp⟩
      obtain ⟨p, o, v, ha, hp, cv, v0, v9⟩ := HB.out j hj
      exact ⟨p, o, v, ha, hp, (((Below.refl _ w).alloc (Nat.le_refl _) _).cell hp).trans cv, v0, v9⟩

end Go.Proofs.Ytnlnigelecmobaa
namespace Go.Proofs.Ytnlnigelecmobaa
open Go.RowKit

theorem hidP {p : Prop} (h : p) : Hid p := h

/-- Four cells: a bool, two words, a number. -/
structure Pf where
  s : Bool
  H : BitVec 64
  L : BitVec 64
  b : Int

def Pf.cs (p : Pf) : List Value := [.bool p.s, .int .i64 p.H.toInt, .int .i64 p.L.toInt, .int .i64 p.b]
def flat : List Pf → List Value
  | [] => []
  | p :: t => p.cs ++ flat t
theorem flat_len : ∀ ps : List Pf, (flat ps).length = ps.length * 4
  | [] => rfl
  | p :: t => by simp [flat, Pf.cs, flat_len t]; omega
theorem flat_app : ∀ ps qs : List Pf, flat (ps ++ qs) = flat ps ++ flat qs
  | [], _ => rfl
  | p :: t, qs => by simp [flat, flat_app t qs]
theorem flat_one : ∀ ps : List Pf, ∀ u ∈ flat ps, u.oneCell' = true
  | [], u, h => by cases h
  | p :: t, u, h => by
      rcases List.mem_append.1 h with h | h
      · simp [Pf.cs] at h
        rcases h with rfl | rfl | rfl | rfl <;> rfl
      · exact flat_one t u h
theorem flat_at : ∀ (ps : List Pf) (j : Nat) (q : Pf), ps[j]? = some q → (flat ps)[j * 4]? = some (.bool q.s) ∧ (flat ps)[j * 4 + 1]? = some (.int .i64 q.H.toInt) ∧ (flat ps)[j * 4 + 2]? = some (.int .i64 q.L.toInt) ∧ (flat ps)[j * 4 + 3]? = some (.int .i64 q.b)
  | [], j, q, h => by simp at h
  | p :: t, 0, q, h => by
      simp at h; subst h; simp [flat, Pf.cs]
  | p :: t, j + 1, q, h => by
      have := flat_at t j q (by simpa using h)
      have e : ∀ i, (flat (p :: t))[(j + 1) * 4 + i]? = (flat t)[j * 4 + i]? := fun i => by
        show (p.cs ++ flat t)[(j + 1) * 4 + i]? = _
        rw [List.getElem?_append_right (by simp [Pf.cs]; omega)]
        congr 1
        simp [Pf.cs]; omega
      have e0 := e 0
      rw [Nat.add_zero, Nat.add_zero] at e0
      rw [e0, e 1, e 2, e 3]
      exact this

/-- What is read of a row. -/
def Row (w : World) (a : Option Addr) (ps : List Pf) : Prop := ∀ j, j < ps.length → ∃ p o q, a = some ⟨p, o, none⟩ ∧ p < w.heap.size ∧ ps[j]? = some q ∧
  w.cell? ⟨p, o + j * 4, none⟩ = some (.bool q.s) ∧ w.cell? ⟨p, o + j * 4 + 1, none⟩ = some (.int .i64 q.H.toInt) ∧ w.cell? ⟨p, o + j * 4 + 2, none⟩ = some (.int .i64 q.L.toInt) ∧ w.cell? ⟨p, o + j * 4 + 3, none⟩ = some (.int .i64 q.b)
/-- A row of one's own. -/
def OwnR (t : TypeId) (w : World) (B : Nat) (v : Value) (ps : List Pf) : Prop := w.ownsRow B t 4 v ps.length (flat ps)

theorem Row.later {w w' : World} {a : Option Addr} {ps : List Pf} (h : Row w a ps) (hb : Below w.heap.size w w') : Row w' a ps := fun j hj => by
  obtain ⟨p, o, q, ha, hp, hq, c0, c1, c2, c3⟩ := h j hj
  exact ⟨p, o, q, ha, Nat.lt_of_lt_of_le hp hb.size, hq, (hb.cell hp).trans c0, (hb.cell hp).trans c1, (hb.cell hp).trans c2, (hb.cell hp).trans c3⟩
theorem Row.nil (w : World) (a : Option Addr) : Row w a [] := fun j hj => absurd hj (Nat.not_lt_zero j)
theorem OwnR.row {t : TypeId} {w : World} {B n cap : Nat} {a : Option Addr} {ps : List Pf} (h : OwnR t w B (.slice a n cap) ps) : Row w a ps := fun j hj => by
  rcases h.2 with ⟨hv, hn⟩ | ⟨g, c, cur, hv, _, hg, _⟩
  · omega
  · simp at hv
    obtain ⟨rfl, rfl, rfl⟩ := hv
    have hq : ps[j]? = some ps[j] := List.getElem?_eq_getElem hj
    obtain ⟨c0, c1, c2, c3⟩ := flat_at ps j _ hq
    have k := fun (i : Nat) (hi : i < 4) => World.ownsRow.cellAt h (j * 4 + i) (by omega : j * 4 + i < ps.length * 4)
    refine ⟨g, 0, ps[j], rfl, ?_, hq, ?_, ?_, ?_, ?_⟩
    · rcases Nat.lt_or_ge g w.heap.size with h' | h'
      · exact h'
      · rw [Array.getElem?_eq_none h'] at hg; cases hg
    · have := k 0 (by omega : 0 < 4); rw [Nat.zero_add]; rw [Nat.add_zero] at this; rw [this, c0]
    · have := k 1 (by omega : 1 < 4); rw [Nat.zero_add, this, c1]
    · have := k 2 (by omega : 2 < 4); rw [Nat.zero_add, this, c2]
    · have := k 3 (by omega : 3 < 4); rw [Nat.zero_add, this, c3]
theorem OwnR.lt {t : TypeId} {w : World} {B : Nat} {v : Value} {ps : List Pf} (h : OwnR t w B v ps) : ∀ k, v.ownBlock = some k → B ≤ k ∧ k < w.heap.size := World.ownsRow.lt h
theorem OwnR.alloc {t : TypeId} {w : World} {B : Nat} {v : Value} {ps : List Pf} (h : OwnR t w B v ps) (o : Obj) : OwnR t (w.alloc o) B v ps := World.ownsRow.alloc h o
theorem OwnR.mono {t : TypeId} {w : World} {B B' : Nat} {v : Value} {ps : List Pf} (h : OwnR t w B v ps) (hb : B' ≤ B) : OwnR t w B' v ps := by
  refine ⟨h.1, ?_⟩
  rcases h.2 with h' | ⟨g, c, cur, h1, h2, h3⟩
  · exact Or.inl h'
  · exact Or.inr ⟨g, c, cur, h1, Nat.le_trans hb h2, h3⟩
theorem OwnR.later {t : TypeId} {w w' : World} {B : Nat} {v : Value} {ps : List Pf} (h : OwnR t w B v ps) (hb : Below w.heap.size w w') : OwnR t w' B v ps := by
  refine ⟨h.1, ?_⟩
  rcases h.2 with h' | ⟨g, c, cur, h1, h2, h3, h4⟩
  · exact Or.inl h'
  · refine Or.inr ⟨g, c, cur, h1, h2, ?_, h4⟩
    have hg : g < w.heap.size := by
      rcases Nat.lt_or_ge g w.heap.size with h' | h'
      · exact h'
      · rw [Array.getElem?_eq_none h'] at h3; cases h3
    exact (hb.block g hg).trans h3
theorem OwnR.caps {t : TypeId} {w : World} {B n c : Nat} {a : Option Addr} {ps : List Pf} (h : OwnR t w B (.slice a n c) ps) : n = ps.length ∧ ps.length ≤ c ∧ c ≤ 9223372036854775807 ∧ (a = none → c = 0) := by
  rcases h.2 with ⟨hv, hn⟩ | ⟨g, c', cur, hv, _, _, h1, h2, _⟩
  · simp at hv; obtain ⟨rfl, rfl, rfl⟩ := hv; exact ⟨hn.symm, by omega, by omega, fun _ => rfl⟩
  · simp at hv
    obtain ⟨rfl, rfl, rfl⟩ := hv
    exact ⟨rfl, h1, by unfold maxLen at h2; omega, fun h => by cases h⟩

/-- An append to a row of one's own, of none or of some. -/
theorem app_gen {P : Program} (w : World) (B : Nat) (t tx ty e : TypeId) (i : TypeInfo) (z : Value) (ht : P.underlying t = some (.slice e)) (hi : P.info? e = some i) (hz0 : i.zero = some z) (hzc : z.cells.size = i.size) (hzb : i.bytes ≤ 1000)
    (a : Option Addr) (n cap m : Nat) (xs ns : List Value) (x : Value) (hown : w.ownsRow B e i.size (.slice a n cap) n xs) (hs : Src P i.size tx x m ns w) (hl : n + m ≤ 1000000000) (hB : B ≤ w.heap.size) :
    ∃ a' c' w', (Builtin.append_ #[t, tx] ty #[.slice a n cap, x]).run P w = .ok (.slice a' (n + m) c') w' ∧ w'.ownsRow B e i.size (.slice a' (n + m) c') (n + m) (xs ++ ns) ∧ w.grownBy w' (Value.slice a n cap).ownBlock ∧ (a' = a ∨ a' = some ⟨w.heap.size, 0, none⟩) := by
  have hxl := hown.1
  have hnl := hs.newsLen
  have hfit : ∀ c, c < n + m → Builtin.nextslicecap (n + m) c * i.bytes ≤ 281474976710656 := fun c hc => growslice_fits hc (Nat.le_trans (Nat.mul_le_mul_left (n + m) hzb) (by omega))
  rcases hown.2 with ⟨hv, hn0⟩ | ⟨g, cap', cur, hv, hbg, hg, hnc, hcm, hcs, htake⟩
  · simp at hv
    obtain ⟨rfl, rfl, rfl⟩ := hv
    have hx0 : xs = [] := List.eq_nil_of_length_eq_zero (by rw [hxl]; omega)
    subst hx0
    rcases Nat.eq_zero_or_pos m with rfl | hm
    · have hn0 : ns = [] := List.eq_nil_of_length_eq_zero (by rw [hnl]; omega)
      subst hn0
      refine ⟨none, 0, w, ?_, ⟨by simp, Or.inl ⟨rfl, rfl⟩⟩, ⟨rfl, rfl, rfl, Nat.le_refl _, fun k _ _ => rfl⟩, Or.inl rfl⟩
      rcases hs.kind with ⟨e', hk⟩ | hk <;> simp [Builtin.append_, run_underlying ht, run_underlying hk, sizeOf, typeInfo, hi, hs.len, hs.cells]
    · have hr := run_append_grow_src (P := P) w t tx ty e i z ht hi hz0 none 0 0 [] (run_firstCells_none w.drew _ 0 0 0) x m ns hs (by omega) (by omega) (hfit 0 (by omega))
      have hge := grownCap_ge w (0 + m) 0 e
      have hcm' := grownCap_le_maxLen w (0 + m) 0 e (by unfold maxLen; omega)
      refine ⟨some ⟨w.heap.size, 0, none⟩, _, _, hr, ⟨by simp [hnl], .inr ⟨w.heap.size, _, _, rfl, hB, heap_alloc_new w.drew _, hge, hcm', ?_, ?_⟩⟩, ⟨rfl, rfl, rfl, by simp, fun k hk _ => Below.heap_alloc w.drew _ k hk⟩, Or.inr rfl⟩
      · simp [size_zeroCells, hzc, hnl]
        rw [← Nat.add_mul]; congr 1; rw [Nat.zero_add] at hge; omega
      · have e2 : (0 + m) * i.size = ([] ++ ns).length := by simp [hnl]
        rw [Array.toList_append, e2]
        exact List.take_left
  · simp at hv
    obtain ⟨rfl, rfl⟩ := hv
    by_cases hroom : n + m ≤ cap
    · have hmul : (n + m) * i.size ≤ cap * i.size := Nat.mul_le_mul_right _ hroom
      have hst := run_storeCells_at P g (n * i.size) e ns 0 cur w hg (by rw [hcs, hnl, Nat.add_zero, ← Nat.add_mul]; exact hmul) hs.one
      simp only [Nat.add_zero] at hst
      have hr : (Builtin.append_ #[t, tx] ty #[.slice (some ⟨g, 0, none⟩) n cap, x]).run P w = .ok (.slice (some ⟨g, 0, none⟩) (n + m) cap) (w.setRow g (cur.toList.take (n * i.size) ++ ns ++ cur.toList.drop (n * i.size + ns.length)).toArray) := by
        rcases hs.kind with ⟨e', hk⟩ | hk <;> simp [Builtin.append_, run_underlying ht, run_underlying hk, sizeOf, typeInfo, hi, hs.len, hroom, hs.cells, Addr.add_lit, hst]
      refine ⟨some ⟨g, 0, none⟩, cap, _, hr, ⟨by rw [List.length_append, hxl, hnl, Nat.add_mul], .inr ⟨g, cap, _, rfl, hbg, setRow_heap w g cur _ e _ hg, hroom, hcm, ?_, ?_⟩⟩, ⟨rfl, rfl, rfl, by simp, fun k _ hk => setRow_other w g k _ (fun e => hk (by rw [e]; rfl))⟩, Or.inl rfl⟩
      · simp only [List.size_toArray, List.length_append, List.length_take, List.length_drop, Array.length_toList, hcs, hnl]
        rw [Nat.add_mul] at hmul
        omega
      · rw [htake, show (n + m) * i.size = (xs ++ ns).length by rw [List.length_append, hxl, hnl, Nat.add_mul]]
        exact List.take_left
    · have holds := hown.cells (g := g) rfl
      have hold : (Builtin.firstCells i.size n (.slice (some ⟨g, 0, none⟩) n cap)).run P w.drew = .ok xs.toArray w.drew :=
        run_firstCells_some w.drew i.size n ⟨g, 0, none⟩ n cap _ hxl (by simpa using holds)
      have hr := run_append_grow_src (P := P) w t tx ty e i z ht hi hz0 (some ⟨g, 0, none⟩) n cap xs hold x m ns hs (by omega) (by omega) (hfit cap (by omega))
      have hge := grownCap_ge w (n + m) cap e
      have hcm' := grownCap_le_maxLen w (n + m) cap e (by unfold maxLen; omega)
      refine ⟨some ⟨w.heap.size, 0, none⟩, _, _, hr, ⟨by rw [List.length_append, hxl, hnl, Nat.add_mul], .inr ⟨w.heap.size, _, _, rfl, hB, heap_alloc_new w.drew _, hge, hcm', ?_, ?_⟩⟩, ⟨rfl, rfl, rfl, by simp, fun k hk _ => Below.heap_alloc w.drew _ k hk⟩, Or.inr rfl⟩
      · simp only [Array.size_append, List.size_toArray, List.length_append, size_zeroCells, hzc, hxl, hnl]
        rw [← Nat.add_mul, ← Nat.add_mul]; congr 1; omega
      · have e2 : (n + m) * i.size = (xs ++ ns).length := by rw [List.length_append, hxl, hnl, Nat.add_mul]
        rw [Array.toList_append, e2]
        exact List.take_left

/-- Rows of four cells: the type's facts. -/
def Four (P : Program) (t e : TypeId) : Prop := P.underlying t = some (.slice e) ∧ (P.info? e).map (fun i => (i.zero, i.size, i.bytes)) = some (some (.agg #[.bool false, .int .i64 0, .int .i64 0, .int .i64 0]), 4, 32)

theorem app_row {P : Program} {t e : TypeId} (h4 : Four P t e) (w : World) (B : Nat) (tx ty : TypeId) (a : Option Addr) (n cap m : Nat) (ps qs : List Pf) (x : Value) (hn : n = ps.length) (hm : m = qs.length)
    (hown : OwnR e w B (.slice a n cap) ps) (hs : Src P 4 tx x m (flat qs) w) (hl : n + m ≤ 1000000000) (hB : B ≤ w.heap.size) :
    ∃ a' c' w', (Builtin.append_ #[t, tx] ty #[.slice a n cap, x]).run P w = .ok (.slice a' (n + m) c') w' ∧ OwnR e w' B (.slice a' (n + m) c') (ps ++ qs) ∧ w.grownBy w' (Value.slice a n cap).ownBlock ∧ (a' = a ∨ a' = some ⟨w.heap.size, 0, none⟩) := by
  obtain ⟨ht, h4⟩ := h4
  obtain ⟨i, hi, hz0, hz1, hz2⟩ := info_parts h4
  subst hn
  subst hm
  obtain ⟨a', c', w', h1, h2, h3⟩ := app_gen (P := P) w B t tx ty e i _ ht hi hz0 (by rw [hz1]; rfl) (by omega) a ps.length cap qs.length (flat ps) (flat qs) x (by rw [hz1]; exact hown) (by rw [hz1]; exact hs) hl hB
  refine ⟨a', c', w', h1, ?_, h3⟩
  unfold OwnR
  rw [List.length_append, flat_app]
  rw [hz1] at h2
  exact h2

theorem wp_appR {P : Program} {t e : TypeId} (h4 : Four P t e) {o : Oper} {a : Act} {K : Act → World → Prop} {Q : Exit → Act → World → Prop} (w : World) (s x : Operand) (tx : TypeId)
    (ho : o.op = .call { callee := .builtin .append, args := #[s, x], argTypes := #[t, tx] })
    (B : Nat) (ad : Option Addr) (n cap m : Nat) (ps qs : List Pf) (xv : Value) (hsv : a.eval s = .slice ad n cap) (hn : n = ps.length) (hm : m = qs.length) (hown : OwnR e w B (.slice ad n cap) ps)
    (hx : a.eval x = xv) (hs : Src P 4 tx xv m (flat qs) w) (hl : n + m ≤ 1000000000) (hB : B ≤ w.heap.size)
    (h : ∀ a' c' w', OwnR e w' B (.slice a' (n + m) c') (ps ++ qs) → w.grownBy w' (Value.slice ad n cap).ownBlock → (a' = ad ∨ a' = some ⟨w.heap.size, 0, none⟩) → K (a.put o.dst (.slice a' (n + m) c')) w') : o.wp P a w K Q := by
  obtain ⟨b, c, w', hr, h2, h3, h5⟩ := app_row h4 w B tx o.type ad n cap m ps qs xv hn hm hown hs hl hB
  unfold Oper.wp execOp
  simp only [ho, resolve, invoke, builtin, Sem.run_bind, Sem.run_pure, Result.andThen_ok, List.map_toArray, List.map_cons, List.map_nil, hsv, hx, hr]
  exact h b c w' h2 h3 h5

theorem wpList_appR {P : Program} {t e : TypeId} (h4 : Four P t e) {ops : Array Oper} {rest : List Oper} {o : Oper} {a : Act} {Q : Exit → Act → World → Prop} (w : World) (hgd : o.guard = none) (s x : Operand) (tx : TypeId)
    (ho : o.op = .call { callee := .builtin .append, args := #[s, x], argTypes := #[t, tx] })
    (B : Nat) (ad : Option Addr) (n cap m : Nat) (ps qs : List Pf) (xv : Value) (hsv : a.eval s = .slice ad n cap) (hn : n = ps.length) (hm : m = qs.length) (hown : OwnR e w B (.slice ad n cap) ps)
    (hx : a.eval x = xv) (hs : Src P 4 tx xv m (flat qs) w) (hl : n + m ≤ 1000000000) (hB : B ≤ w.heap.size)
    (h : ∀ a' c' w', OwnR e w' B (.slice a' (n + m) c') (ps ++ qs) → w.grownBy w' (Value.slice ad n cap).ownBlock → (a' = ad ∨ a' = some ⟨w.heap.size, 0, none⟩) → wpList P ops Q rest (a.put o.dst (.slice a' (n + m) c')) w') : wpList P ops Q (o :: rest) a w :=
  wpList_plain hgd fun _ hK => wp_appR h4 w s x tx ho B ad n cap m ps qs xv hsv hn hm hown hx hs hl hB fun b c w' h2 h3 h5 => hK _ _ (h b c w' h2 h3 h5)

theorem step_appR {P : Program} {t e : TypeId} (h4 : Four P t e) {ops : Array Oper} {o : Oper} {a : Act} {K : Act → World → Prop} {Q : Exit → Act → World → Prop} {E : Prop} (w : World) (hgd : o.guard = none) (s x : Operand) (tx : TypeId)
    (ho : o.op = .call { callee := .builtin .append, args := #[s, x], argTypes := #[t, tx] })
    (B : Nat) (ad : Option Addr) (n cap m : Nat) (ps qs : List Pf) (xv : Value) (hsv : a.eval s = .slice ad n cap) (hn : n = ps.length) (hm : m = qs.length) (hown : OwnR e w B (.slice ad n cap) ps)
    (hx : a.eval x = xv) (hs : Src P 4 tx xv m (flat qs) w) (hl : n + m ≤ 1000000000) (hB : B ≤ w.heap.size)
    (h : ∀ a' c' w', OwnR e w' B (.slice a' (n + m) c') (ps ++ qs) → w.grownBy w' (Value.slice ad n cap).ownBlock → (a' = ad ∨ a' = some ⟨w.heap.size, 0, none⟩) → K (a.put o.dst (.slice a' (n + m) c')) w') :
    if Region.wanted o (yielded ops a.tmps) = true then Oper.wp P o a w K Q else E := by
  have hw : Region.wanted o (yielded ops a.tmps) = true := by simp [Region.wanted, hgd]
  rw [if_pos hw]
  exact wp_appR h4 w s x tx ho B ad n cap m ps qs xv hsv hn hm hown hx hs hl hB h

/-- What an append leaves of the older world. -/
theorem below_appR {w w1 w2 : World} {B n cap : Nat} {t : TypeId} {a : Option Addr} {ps : List Pf} (hb : Below B w w1) (ho : OwnR t w1 B (.slice a n cap) ps) (hB : B ≤ w1.heap.size) (hg : w1.grownBy w2 (Value.slice a n cap).ownBlock) : Below B w w2 :=
  hb.grown hg hB (fun k hk => (World.ownsRow.lt ho k hk).1)

/-- A row as a source. -/
theorem src_row {P : Program} {t e : TypeId} (h4 : Four P t e) {w : World} {a : Option Addr} {ps : List Pf} (n c : Nat) (hn : n = ps.length) (h : Row w a ps) (hc : a = none → c = 0) : Src P 4 t (.slice a n c) n (flat ps) w := by
  subst hn
  cases a with
  | none =>
    have : ps = [] := by
      cases ps with
      | nil => rfl
      | cons z t => obtain ⟨p, o, z', e, _⟩ := h 0 (by simp); cases e
    subst this
    rw [hc rfl]
    exact Src.ofNil (P := P) w h4.1 0
  | some ad =>
    refine Src.ofSlice (P := P) w h4.1 ad ps.length c _ (flat_len ps) (fun j u hu => ?_) (flat_one ps)
    have hj : j < ps.length * 4 := by rcases Nat.lt_or_ge j (flat ps).length with h1 | h1; rw [flat_len] at h1; exact h1; rw [List.getElem?_eq_none h1] at hu; cases hu
    obtain ⟨p, o, q, e, hp, hq, c0, c1, c2, c3⟩ := h (j / 4) (by omega)
    cases e
    obtain ⟨f0, f1, f2, f3⟩ := flat_at ps (j / 4) q hq
    have ea : (⟨p, o, none⟩ : Addr).add j = ⟨p, o + j, none⟩ := by unfold Addr.add; split <;> simp_all
    rw [ea]
    have hm : j = j / 4 * 4 ∨ j = j / 4 * 4 + 1 ∨ j = j / 4 * 4 + 2 ∨ j = j / 4 * 4 + 3 := by omega
    rcases hm with hm | hm | hm | hm
    · rw [hm] at hu; rw [f0] at hu; cases hu; rw [hm]; exact c0
    · rw [hm] at hu; rw [f1] at hu; cases hu; rw [hm]; exact c1
    · rw [hm] at hu; rw [f2] at hu; cases hu; rw [hm]; exact c2
    · rw [hm] at hu; rw [f3] at hu; cases hu; rw [hm]; exact c3
theorem own_one (w : World) (B : Nat) (t : TypeId) (q : Pf) (hB : B ≤ w.heap.size) : OwnR t (w.alloc (.cells #[.bool q.s, .int .i64 q.H.toInt, .int .i64 q.L.toInt, .int .i64 q.b] t)) B (.slice (some ⟨w.heap.size, 0, none⟩) 1 1) [q] :=
  ⟨rfl, Or.inr ⟨w.heap.size, 1, _, rfl, hB, heap_alloc_new w _, Nat.le_refl _, by unfold maxLen; omega, rfl, rfl⟩⟩
theorem row_one (w : World) (t : TypeId) (q : Pf) : Row (w.alloc (.cells #[.bool q.s, .int .i64 q.H.toInt, .int .i64 q.L.toInt, .int .i64 q.b] t)) (some ⟨w.heap.size, 0, none⟩) [q] := (own_one w 0 t q (Nat.zero_le _)).row
theorem own_none (w : World) (B : Nat) (t : TypeId) : OwnR t w B (.slice none 0 0) [] := ⟨rfl, Or.inl ⟨rfl, rfl⟩⟩
theorem own_zero (w : World) (B : Nat) (t : TypeId) (hB : B ≤ w.heap.size) : OwnR t (w.alloc (.cells #[] t)) B (.slice (some ⟨w.heap.size, 0, none⟩) 0 0) [] :=
  ⟨rfl, Or.inr ⟨w.heap.size, 0, _, rfl, hB, heap_alloc_new w _, Nat.le_refl _, by unfold maxLen; omega, rfl, rfl⟩⟩

end Go.Proofs.Ytnlnigelecmobaa
namespace Go.Proofs.Ytnlnigelecmobaa
open Go.RowKit

theorem Try.fourP : Four Try.prog 28 27 := ⟨Try.underlying28, by kernel_rfl⟩

def Pf.zero : Pf := ⟨false, 0, 0, 0⟩

theorem made_four : ∀ n : Nat, (madeCells (Value.agg #[.bool false, .int .i64 0, .int .i64 0, .int .i64 0]).cells (n * 4)).toList = flat (List.replicate n Pf.zero) := fun n => by
  apply List.ext_getElem?
  intro j
  by_cases hj : j < n * 4
  · have hq : (List.replicate n Pf.zero)[j / 4]? = some Pf.zero := by rw [List.getElem?_replicate, if_pos (by omega)]
    obtain ⟨f0, f1, f2, f3⟩ := flat_at _ (j / 4) _ hq
    have e : (madeCells (Value.agg #[.bool false, .int .i64 0, .int .i64 0, .int .i64 0]).cells (n * 4)).toList[j]? = some ((#[.bool false, .int .i64 0, .int .i64 0, .int .i64 0] : Array Value)[j % 4]!) := by
      rw [Array.getElem?_toList]
      unfold madeCells
      rw [Array.getElem?_map, Array.getElem?_range, if_pos hj]
      rfl
    rw [e]
    have hm : j % 4 = 0 ∧ j = j / 4 * 4 ∨ j % 4 = 1 ∧ j = j / 4 * 4 + 1 ∨ j % 4 = 2 ∧ j = j / 4 * 4 + 2 ∨ j % 4 = 3 ∧ j = j / 4 * 4 + 3 := by omega
    rcases hm with ⟨h1, h2⟩ | ⟨h1, h2⟩ | ⟨h1, h2⟩ | ⟨h1, h2⟩
    · rw [h1]; conv => rhs; rw [h2]
      rw [f0]; rfl
    · rw [h1]; conv => rhs; rw [h2]
      rw [f1]; rfl
    · rw [h1]; conv => rhs; rw [h2]
      rw [f2]; rfl
    · rw [h1]; conv => rhs; rw [h2]
      rw [f3]; rfl
  · rw [List.getElem?_eq_none (by rw [Array.length_toList, size_madeCells]; omega), List.getElem?_eq_none (by rw [flat_len, List.length_replicate]; omega)]

/-- One more of the row is copied. -/
theorem copy_step (ps : List Pf) (k : Nat) (q : Pf) (hk : k < ps.length) (hq : ps[k]? = some q) : (ps.take k ++ List.replicate (ps.length - k) Pf.zero).set k q = ps.take (k + 1) ++ List.replicate (ps.length - (k + 1)) Pf.zero := by
  have e : ps.length - k = ps.length - (k + 1) + 1 := by omega
  rw [e, List.replicate_succ, List.set_append_right _ _ (by rw [List.length_take]; omega)]
  have e2 : k - (ps.take k).length = 0 := by rw [List.length_take]; omega
  rw [e2, List.set_cons_zero, List.take_add_one, hq]
  simp

theorem flat_set : ∀ (ps : List Pf) (j : Nat) (q : Pf), j < ps.length → ((((flat ps).set (j * 4) (.bool q.s)).set (j * 4 + 1) (.int .i64 q.H.toInt)).set (j * 4 + 2) (.int .i64 q.L.toInt)).set (j * 4 + 3) (.int .i64 q.b) = flat (ps.set j q)
  | [], j, q, h => by simp at h
  | p :: t, 0, q, h => by simp [flat, Pf.cs]
  | p :: t, j + 1, q, h => by
      have ih := flat_set t j q (by simpa using h)
      have e : ∀ (i : Nat) (l : List Value) (v : Value), (p.cs ++ l).set ((j + 1) * 4 + i) v = p.cs ++ l.set (j * 4 + i) v := fun i l v => by
        rw [List.set_append_right _ _ (by simp [Pf.cs]; omega)]
        congr 2
        simp [Pf.cs]; omega
      have e0 := fun (l : List Value) (v : Value) => e 0 l v
      simp only [Nat.add_zero] at e0
      show ((((p.cs ++ flat t).set ((j + 1) * 4) (.bool q.s)).set ((j + 1) * 4 + 1) (.int .i64 q.H.toInt)).set ((j + 1) * 4 + 2) (.int .i64 q.L.toInt)).set ((j + 1) * 4 + 3) (.int .i64 q.b) = p.cs ++ flat (t.set j q)
      rw [e0, e 1, e 2, e 3, ih]

/-- One of a row is written. -/
theorem OwnR.put {t : TypeId} {w : World} {B g n cap : Nat} {ps : List Pf} (h : OwnR t w B (.slice (some ⟨g, 0, none⟩) n cap) ps) (hn : n = ps.length) (j : Nat) (hj : j < n) :
    (w.frozen? ⟨g, j * 4, none⟩ = false ∧ w.frozen? ⟨g, j * 4 + 1, none⟩ = false ∧ w.frozen? ⟨g, j * 4 + 2, none⟩ = false ∧ w.frozen? ⟨g, j * 4 + 3, none⟩ = false) ∧
    ∀ q : Pf, OwnR t ((((w.setCell ⟨g, j * 4, none⟩ (.bool q.s)).setCell ⟨g, j * 4 + 1, none⟩ (.int .i64 q.H.toInt)).setCell ⟨g, j * 4 + 2, none⟩ (.int .i64 q.L.toInt)).setCell ⟨g, j * 4 + 3, none⟩ (.int .i64 q.b)) B (.slice (some ⟨g, 0, none⟩) n cap) (ps.set j q) := by
  subst hn
  refine ⟨⟨World.ownsRow.frozenAt h _, World.ownsRow.frozenAt h _, World.ownsRow.frozenAt h _, World.ownsRow.frozenAt h _⟩, fun q => ?_⟩
  have h0 := (World.ownsRow.stored h (j * 4) (.bool q.s)).1
  have h1 := (World.ownsRow.stored h0 (j * 4 + 1) (.int .i64 q.H.toInt)).1
  have h2 := (World.ownsRow.stored h1 (j * 4 + 2) (.int .i64 q.L.toInt)).1
  have h3 := (World.ownsRow.stored h2 (j * 4 + 3) (.int .i64 q.b)).1
  rw [flat_set ps j q hj] at h3
  unfold OwnR
  rw [List.length_set]
  exact h3

end Go.Proofs.Ytnlnigelecmobaa
namespace Go.Proofs.Ytnlnigelecmobaa
open Go.RowKit

/-- A kind of things: its cells. -/
structure Kd (α : Type) where
  k : Nat
  cs : α → List Value
  len : ∀ x, (cs x).length = k
  one : ∀ x, ∀ u ∈ cs x, u.oneCell' = true

def gflat {α : Type} (K : Kd α) : List α → List Value
  | [] => []
  | p :: t => K.cs p ++ gflat K t
theorem gflat_len {α : Type} (K : Kd α) : ∀ ps : List α, (gflat K ps).length = ps.length * K.k
  | [] => by simp [gflat]
  | p :: t => by simp [gflat, gflat_len K t, K.len, Nat.add_mul]; omega
theorem gflat_app {α : Type} (K : Kd α) : ∀ ps qs : List α, gflat K (ps ++ qs) = gflat K ps ++ gflat K qs
  | [], _ => rfl
  | p :: t, qs => by simp [gflat, gflat_app K t qs]
theorem gflat_one {α : Type} (K : Kd α) : ∀ ps : List α, ∀ u ∈ gflat K ps, u.oneCell' = true
  | [], u, h => by cases h
  | p :: t, u, h => by
      rcases List.mem_append.1 h with h | h
      · exact K.one p u h
      · exact gflat_one K t u h
theorem gflat_at {α : Type} (K : Kd α) : ∀ (ps : List α) (j : Nat) (q : α), ps[j]? = some q → ∀ i, i < K.k → (gflat K ps)[j * K.k + i]? = (K.cs q)[i]?
  | [], j, q, h, i, hi => by simp at h
  | p :: t, 0, q, h, i, hi => by
      simp at h; subst h
      show (K.cs p ++ gflat K t)[0 * K.k + i]? = _
      rw [Nat.zero_mul, Nat.zero_add, List.getElem?_append_left (by rw [K.len]; exact hi)]
  | p :: t, j + 1, q, h, i, hi => by
      have := gflat_at K t j q (by simpa using h) i hi
      show (K.cs p ++ gflat K t)[(j + 1) * K.k + i]? = _
      rw [List.getElem?_append_right (by rw [K.len, Nat.add_mul]; omega), ← this]
      congr 1
      rw [K.len, Nat.add_mul]; omega

/-- What is read of a row. -/
def RowG {α : Type} (K : Kd α) (w : World) (a : Option Addr) (ps : List α) : Prop := ∀ j, j < ps.length → ∃ p o q, a = some ⟨p, o, none⟩ ∧ p < w.heap.size ∧ ps[j]? = some q ∧ ∀ i v, (K.cs q)[i]? = some v → w.cell? ⟨p, o + j * K.k + i, none⟩ = some v
/-- A row of one's own. -/
def OwnG {α : Type} (K : Kd α) (t : TypeId) (w : World) (B : Nat) (v : Value) (ps : List α) : Prop := w.ownsRow B t K.k v ps.length (gflat K ps)

theorem RowG.later {α : Type} {K : Kd α} {w w' : World} {a : Option Addr} {ps : List α} (h : RowG K w a ps) (hb : Below w.heap.size w w') : RowG K w' a ps := fun j hj => by
  obtain ⟨p, o, q, ha, hp, hq, c⟩ := h j hj
  exact ⟨p, o, q, ha, Nat.lt_of_lt_of_le hp hb.size, hq, fun i v hv => (hb.cell hp).trans (c i v hv)⟩
theorem RowG.nil {α : Type} (K : Kd α) (w : World) (a : Option Addr) : RowG K w a [] := fun j hj => absurd hj (Nat.not_lt_zero j)
theorem OwnG.row {α : Type} {K : Kd α} {t : TypeId} {w : World} {B n cap : Nat} {a : Option Addr} {ps : List α} (h : OwnG K t w B (.slice a n cap) ps) : RowG K w a ps := fun j hj => by
  rcases h.2 with ⟨hv, hn⟩ | ⟨g, c, cur, hv, _, hg, _⟩
  · omega
  · simp at hv
    obtain ⟨rfl, rfl, rfl⟩ := hv
    have hq : ps[j]? = some ps[j] := List.getElem?_eq_getElem hj
    refine ⟨g, 0, ps[j], rfl, ?_, hq, fun i v hv => ?_⟩
    · rcases Nat.lt_or_ge g w.heap.size with h' | h'
      · exact h'
      · rw [Array.getElem?_eq_none h'] at hg; cases hg
    · have hi : i < K.k := by
        rcases Nat.lt_or_ge i (K.cs ps[j]).length with h1 | h1
        · rw [K.len] at h1; exact h1
        · rw [List.getElem?_eq_none h1] at hv; cases hv
      have h2 : j * K.k + i < ps.length * K.k := by
        have : (j + 1) * K.k ≤ ps.length * K.k := Nat.mul_le_mul_right _ hj
        rw [Nat.add_mul] at this; omega
      have := World.ownsRow.cellAt h (j * K.k + i) h2
      rw [Nat.zero_add, this, gflat_at K ps j _ hq i hi, hv]
theorem OwnG.lt {α : Type} {K : Kd α} {t : TypeId} {w : World} {B : Nat} {v : Value} {ps : List α} (h : OwnG K t w B v ps) : ∀ k, v.ownBlock = some k → B ≤ k ∧ k < w.heap.size := World.ownsRow.lt h
theorem OwnG.alloc {α : Type} {K : Kd α} {t : TypeId} {w : World} {B : Nat} {v : Value} {ps : List α} (h : OwnG K t w B v ps) (o : Obj) : OwnG K t (w.alloc o) B v ps := World.ownsRow.alloc h o
theorem OwnG.mono {α : Type} {K : Kd α} {t : TypeId} {w : World} {B B' : Nat} {v : Value} {ps : List α} (h : OwnG K t w B v ps) (hb : B' ≤ B) : OwnG K t w B' v ps := by
  refine ⟨h.1, ?_⟩
  rcases h.2 with h' | ⟨g, c, cur, h1, h2, h3⟩
  · exact Or.inl h'
  · exact Or.inr ⟨g, c, cur, h1, Nat.le_trans hb h2, h3⟩
theorem OwnG.later {α : Type} {K : Kd α} {t : TypeId} {w w' : World} {B : Nat} {v : Value} {ps : List α} (h : OwnG K t w B v ps) (hb : Below w.heap.size w w') : OwnG K t w' B v ps := by
  refine ⟨h.1, ?_⟩
  rcases h.2 with h' | ⟨g, c, cur, h1, h2, h3, h4⟩
  · exact Or.inl h'
  · refine Or.inr ⟨g, c, cur, h1, h2, ?_, h4⟩
    have hg : g < w.heap.size := by
      rcases Nat.lt_or_ge g w.heap.size with h' | h'
      · exact h'
      · rw [Array.getElem?_eq_none h'] at h3; cases h3
    exact (hb.block g hg).trans h3
/-- A row of one's own stands where another block turns. -/
theorem OwnG.grown {α : Type} {K : Kd α} {t : TypeId} {w w' : World} {B : Nat} {v : Value} {ps : List α} {b : Option Nat} (h : OwnG K t w B v ps) (hg : w.grownBy w' b) (hn : ∀ k, v.ownBlock = some k → b ≠ some k) : OwnG K t w' B v ps := by
  refine ⟨h.1, ?_⟩
  rcases h.2 with h' | ⟨g, c, cur, h1, h2, h3, h4⟩
  · exact Or.inl h'
  · refine Or.inr ⟨g, c, cur, h1, h2, ?_, h4⟩
    have hgl : g < w.heap.size := by
      rcases Nat.lt_or_ge g w.heap.size with h' | h'
      · exact h'
      · rw [Array.getElem?_eq_none h'] at h3; cases h3
    have := hg.block g hgl (fun e => hn g (by rw [h1]; rfl) e.symm)
    exact this.trans h3
theorem OwnG.caps {α : Type} {K : Kd α} {t : TypeId} {w : World} {B n c : Nat} {a : Option Addr} {ps : List α} (h : OwnG K t w B (.slice a n c) ps) : n = ps.length ∧ ps.length ≤ c ∧ c ≤ 9223372036854775807 ∧ (a = none → c = 0) := by
  rcases h.2 with ⟨hv, hn⟩ | ⟨g, c', cur, hv, _, _, h1, h2, _⟩
  · simp at hv; obtain ⟨rfl, rfl, rfl⟩ := hv; exact ⟨hn.symm, by omega, by omega, fun _ => rfl⟩
  · simp at hv
    obtain ⟨rfl, rfl, rfl⟩ := hv
    exact ⟨rfl, h1, by unfold maxLen at h2; omega, fun h => by cases h⟩

/-- The type's facts of such rows. -/
def GTy {α : Type} (K : Kd α) (z : Value) (bytes : Nat) (P : Program) (t e : TypeId) : Prop := P.underlying t = some (.slice e) ∧ (P.info? e).map (fun i => (i.zero, i.size, i.bytes)) = some (some z, K.k, bytes) ∧ z.cells.size = K.k ∧ bytes ≤ 1000

theorem app_rowG {α : Type} {K : Kd α} {z : Value} {bytes : Nat} {P : Program} {t e : TypeId} (h4 : GTy K z bytes P t e) (w : World) (B : Nat) (tx ty : TypeId) (a : Option Addr) (n cap m : Nat) (ps qs : List α) (x : Value) (hn : n = ps.length) (hm : m = qs.length)
    (hown : OwnG K e w B (.slice a n cap) ps) (hs : Src P K.k tx x m (gflat K qs) w) (hl : n + m ≤ 1000000000) (hB : B ≤ w.heap.size) :
    ∃ a' c' w', (Builtin.append_ #[t, tx] ty #[.slice a n cap, x]).run P w = .ok (.slice a' (n + m) c') w' ∧ OwnG K e w' B (.slice a' (n + m) c') (ps ++ qs) ∧ w.grownBy w' (Value.slice a n cap).ownBlock ∧ (a' = a ∨ a' = some ⟨w.heap.size, 0, none⟩) := by
  obtain ⟨ht, h4, h5, h6⟩ := h4
  obtain ⟨i, hi, hz0, hz1, hz2⟩ := info_parts h4
  subst hn
  subst hm
  obtain ⟨a', c', w', h1, h2, h3⟩ := app_gen (P := P) w B t tx ty e i _ ht hi hz0 (by rw [hz1]; exact h5) (by omega) a ps.length cap qs.length (gflat K ps) (gflat K qs) x (by rw [hz1]; exact hown) (by rw [hz1]; exact hs) hl hB
  refine ⟨a', c', w', h1, ?_, h3⟩
  unfold OwnG
  rw [List.length_append, gflat_app]
  rw [hz1] at h2
  exact h2

theorem wp_appG {α : Type} {K : Kd α} {z : Value} {bytes : Nat} {P : Program} {t e : TypeId} (h4 : GTy K z bytes P t e) {o : Oper} {a : Act} {Kx : Act → World → Prop} {Q : Exit → Act → World → Prop} (w : World) (s x : Operand) (tx : TypeId)
    (ho : o.op = .call { callee := .builtin .append, args := #[s, x], argTypes := #[t, tx] })
    (B : Nat) (ad : Option Addr) (n cap m : Nat) (ps qs : List α) (xv : Value) (hsv : a.eval s = .slice ad n cap) (hn : n = ps.length) (hm : m = qs.length) (hown : OwnG K e w B (.slice ad n cap) ps)
    (hx : a.eval x = xv) (hs : Src P K.k tx xv m (gflat K qs) w) (hl : n + m ≤ 1000000000) (hB : B ≤ w.heap.size)
    (h : ∀ a' c' w', OwnG K e w' B (.slice a' (n + m) c') (ps ++ qs) → w.grownBy w' (Value.slice ad n cap).ownBlock → (a' = ad ∨ a' = some ⟨w.heap.size, 0, none⟩) → Kx (a.put o.dst (.slice a' (n + m) c')) w') : o.wp P a w Kx Q := by
  obtain ⟨b, c, w', hr, h2, h3, h5⟩ := app_rowG h4 w B tx o.type ad n cap m ps qs xv hn hm hown hs hl hB
  unfold Oper.wp execOp
  simp only [ho, resolve, invoke, builtin, Sem.run_bind, Sem.run_pure, Result.andThen_ok, List.map_toArray, List.map_cons, List.map_nil, hsv, hx, hr]
  exact h b c w' h2 h3 h5

theorem wpList_appG {α : Type} {K : Kd α} {z : Value} {bytes : Nat} {P : Program} {t e : TypeId} (h4 : GTy K z bytes P t e) {ops : Array Oper} {rest : List Oper} {o : Oper} {a : Act} {Q : Exit → Act → World → Prop} (w : World) (hgd : o.guard = none) (s x : Operand) (tx : TypeId)
    (ho : o.op = .call { callee := .builtin .append, args := #[s, x], argTypes := #[t, tx] })
    (B : Nat) (ad : Option Addr) (n cap m : Nat) (ps qs : List α) (xv : Value) (hsv : a.eval s = .slice ad n cap) (hn : n = ps.length) (hm : m = qs.length) (hown : OwnG K e w B (.slice ad n cap) ps)
    (hx : a.eval x = xv) (hs : Src P K.k tx xv m (gflat K qs) w) (hl : n + m ≤ 1000000000) (hB : B ≤ w.heap.size)
    (h : ∀ a' c' w', OwnG K e w' B (.slice a' (n + m) c') (ps ++ qs) → w.grownBy w' (Value.slice ad n cap).ownBlock → (a' = ad ∨ a' = some ⟨w.heap.size, 0, none⟩) → wpList P ops Q rest (a.put o.dst (.slice a' (n + m) c')) w') : wpList P ops Q (o :: rest) a w :=
  wpList_plain hgd fun _ hK => wp_appG h4 w s x tx ho B ad n cap m ps qs xv hsv hn hm hown hx hs hl hB fun b c w' h2 h3 h5 => hK _ _ (h b c w' h2 h3 h5)

theorem step_appG {α : Type} {K : Kd α} {z : Value} {bytes : Nat} {P : Program} {t e : TypeId} (h4 : GTy K z bytes P t e) {ops : Array Oper} {o : Oper} {a : Act} {Kx : Act → World → Prop} {Q : Exit → Act → World → Prop} {E : Prop} (w : World) (hgd : o.guard = none) (s x : Operand) (tx : TypeId)
    (ho : o.op = .call { callee := .builtin .append, args := #[s, x], argTypes := #[t, tx] })
    (B : Nat) (ad : Option Addr) (n cap m : Nat) (ps qs : List α) (xv : Value) (hsv : a.eval s = .slice ad n cap) (hn : n = ps.length) (hm : m = qs.length) (hown : OwnG K e w B (.slice ad n cap) ps)
    (hx : a.eval x = xv) (hs : Src P K.k tx xv m (gflat K qs) w) (hl : n + m ≤ 1000000000) (hB : B ≤ w.heap.size)
    (h : ∀ a' c' w', OwnG K e w' B (.slice a' (n + m) c') (ps ++ qs) → w.grownBy w' (Value.slice ad n cap).ownBlock → (a' = ad ∨ a' = some ⟨w.heap.size, 0, none⟩) → Kx (a.put o.dst (.slice a' (n + m) c')) w') :
    if Region.wanted o (yielded ops a.tmps) = true then Oper.wp P o a w Kx Q else E := by
  have hw : Region.wanted o (yielded ops a.tmps) = true := by simp [Region.wanted, hgd]
  rw [if_pos hw]
  exact wp_appG h4 w s x tx ho B ad n cap m ps qs xv hsv hn hm hown hx hs hl hB h

/-- What an append leaves of the older world. -/
theorem below_appG {α : Type} {K : Kd α} {w w1 w2 : World} {B n cap : Nat} {t : TypeId} {a : Option Addr} {ps : List α} (hb : Below B w w1) (ho : OwnG K t w1 B (.slice a n cap) ps) (hB : B ≤ w1.heap.size) (hg : w1.grownBy w2 (Value.slice a n cap).ownBlock) : Below B w w2 :=
  hb.grown hg hB (fun k hk => (World.ownsRow.lt ho k hk).1)

/-- A row as a source. -/
theorem src_rowG {α : Type} {K : Kd α} {P : Program} {t e : TypeId} (h4 : P.underlying t = some (.slice e)) {w : World} {a : Option Addr} {ps : List α} (n c : Nat) (hk : 0 < K.k) (hn : n = ps.length) (h : RowG K w a ps) (hc : a = none → c = 0) : Src P K.k t (.slice a n c) n (gflat K ps) w := by
  subst hn
  cases a with
  | none =>
    have : ps = [] := by
      cases ps with
      | nil => rfl
      | cons z t => obtain ⟨p, o, z', e, _⟩ := h 0 (by simp); cases e
    subst this
    rw [hc rfl]
    exact Src.ofNil (P := P) w h4 0
  | some ad =>
    refine Src.ofSlice (P := P) w h4 ad ps.length c _ (gflat_len K ps) (fun j u hu => ?_) (gflat_one K ps)
    have hj : j < ps.length * K.k := by rcases Nat.lt_or_ge j (gflat K ps).length with h1 | h1; rw [gflat_len] at h1; exact h1; rw [List.getElem?_eq_none h1] at hu; cases hu
    have hm : j / K.k * K.k + j % K.k = j := by rw [Nat.mul_comm]; exact Nat.div_add_mod j K.k
    have hd : j / K.k < ps.length := Nat.div_lt_of_lt_mul (by rw [Nat.mul_comm]; exact hj)
    obtain ⟨p, o, q, e, hp, hq, c⟩ := h (j / K.k) hd
    cases e
    have ea : (⟨p, o, none⟩ : Addr).add j = ⟨p, o + j, none⟩ := by unfold Addr.add; split <;> simp_all
    rw [ea]
    have f := gflat_at K ps (j / K.k) q hq (j % K.k) (Nat.mod_lt _ hk)
    rw [hm, hu] at f
    have := c (j % K.k) u f.symm
    rw [Nat.add_assoc, hm] at this
    exact this
theorem own_oneG {α : Type} (K : Kd α) (w : World) (B : Nat) (t : TypeId) (q : α) (hB : B ≤ w.heap.size) : OwnG K t (w.alloc (.cells (K.cs q).toArray t)) B (.slice (some ⟨w.heap.size, 0, none⟩) 1 1) [q] :=
  ⟨by simp [gflat, K.len], Or.inr ⟨w.heap.size, 1, _, rfl, hB, heap_alloc_new w _, Nat.le_refl _, by unfold maxLen; omega, by simp [K.len], by show List.take (1 * K.k) (K.cs q) = K.cs q ++ []; rw [List.append_nil, List.take_of_length_le (by rw [K.len]; omega)]⟩⟩
theorem own_noneG {α : Type} (K : Kd α) (w : World) (B : Nat) (t : TypeId) : OwnG K t w B (.slice none 0 0) [] := ⟨by simp [gflat], Or.inl ⟨rfl, rfl⟩⟩
theorem own_zeroG {α : Type} (K : Kd α) (w : World) (B : Nat) (t : TypeId) (hB : B ≤ w.heap.size) : OwnG K t (w.alloc (.cells #[] t)) B (.slice (some ⟨w.heap.size, 0, none⟩) 0 0) [] :=
  ⟨by simp [gflat], Or.inr ⟨w.heap.size, 0, _, rfl, hB, heap_alloc_new w _, Nat.le_refl _, by unfold maxLen; omega, by simp, by simp [gflat]⟩⟩

/-- Cells written one behind the other. -/
def puts (w : World) (g off : Nat) : List Value → World
  | [] => w
  | v :: vs => puts (w.setCell ⟨g, off, none⟩ v) g (off + 1) vs
def sets (l : List Value) (off : Nat) : List Value → List Value
  | [] => l
  | v :: vs => sets (l.set off v) (off + 1) vs
theorem sets_right (a b : List Value) : ∀ (vs : List Value) (off : Nat), sets (a ++ b) (a.length + off) vs = a ++ sets b off vs
  | [], off => rfl
  | v :: vs, off => by
      show sets ((a ++ b).set (a.length + off) v) (a.length + off + 1) vs = a ++ sets (b.set off v) (off + 1) vs
      rw [List.set_append_right _ _ (by omega), Nat.add_sub_cancel_left, Nat.add_assoc]
      have := sets_right a (b.set off v) vs (off + 1)
      exact this
theorem sets_all : ∀ (vs l t : List Value), l.length = vs.length → sets (l ++ t) 0 vs = vs ++ t
  | [], l, t, h => by
      have : l = [] := List.length_eq_zero_iff.1 h
      subst this; rfl
  | v :: vs, [], t, h => by simp at h
  | v :: vs, x :: l, t, h => by
      show sets ((x :: (l ++ t)).set 0 v) (0 + 1) vs = v :: (vs ++ t)
      rw [List.set_cons_zero]
      have := sets_right [v] (l ++ t) vs 0
      simp only [List.length_singleton, Nat.add_zero] at this
      rw [Nat.zero_add]
      show sets ([v] ++ (l ++ t)) 1 vs = _
      rw [this, sets_all vs l t (by simpa using h)]
      rfl
theorem gflat_set {α : Type} (K : Kd α) : ∀ (ps : List α) (j : Nat) (q : α), j < ps.length → sets (gflat K ps) (j * K.k) (K.cs q) = gflat K (ps.set j q)
  | [], j, q, h => by simp at h
  | p :: t, 0, q, h => by
      rw [Nat.zero_mul]
      show sets (K.cs p ++ gflat K t) 0 (K.cs q) = K.cs q ++ gflat K t
      exact sets_all _ _ _ (by rw [K.len, K.len])
  | p :: t, j + 1, q, h => by
      have ih := gflat_set K t j q (by simpa using h)
      show sets (K.cs p ++ gflat K t) ((j + 1) * K.k) (K.cs q) = K.cs p ++ gflat K (t.set j q)
      have e : (j + 1) * K.k = (K.cs p).length + j * K.k := by rw [K.len, Nat.add_mul]; omega
      rw [e, sets_right, ih]
theorem puts_own {t : TypeId} {g n cap : Nat} {B k : Nat} : ∀ (vs : List Value) (w : World) (xs : List Value) (off : Nat), w.ownsRow B t k (.slice (some ⟨g, 0, none⟩) n cap) n xs → (puts w g off vs).ownsRow B t k (.slice (some ⟨g, 0, none⟩) n cap) n (sets xs off vs)
  | [], _, _, _, h => h
  | v :: vs, _, _, off, h => puts_own vs _ _ (off + 1) (World.ownsRow.stored h off v).1

/-- One of a row is written. -/
theorem OwnG.put {α : Type} {K : Kd α} {t : TypeId} {w : World} {B g n cap : Nat} {ps : List α} (h : OwnG K t w B (.slice (some ⟨g, 0, none⟩) n cap) ps) (hn : n = ps.length) (j : Nat) (hj : j < n) (q : α) :
    OwnG K t (puts w g (j * K.k) (K.cs q)) B (.slice (some ⟨g, 0, none⟩) n cap) (ps.set j q) := by
  subst hn
  have := puts_own (K.cs q) w _ (j * K.k) h
  rw [gflat_set K ps j q hj] at this
  unfold OwnG
  rw [List.length_set]
  exact this
theorem OwnG.frozen {α : Type} {K : Kd α} {t : TypeId} {w : World} {B g n cap : Nat} {ps : List α} (h : OwnG K t w B (.slice (some ⟨g, 0, none⟩) n cap) ps) (o : Nat) : w.frozen? ⟨g, o, none⟩ = false := by
  have hn := h.caps.1
  subst hn
  exact World.ownsRow.frozenAt h o
theorem grown_cellG (w : World) (g o : Nat) (v : Value) : w.grownBy (w.setCell ⟨g, o, none⟩ v) (some g) :=
  ⟨rfl, rfl, rfl, by simp, fun k _ hk => heap_setCell_other w ⟨g, o, none⟩ k v (fun e => hk (by simp [e]))⟩
theorem puts_grown {w0 : World} {g : Nat} : ∀ (vs : List Value) (w : World) (off : Nat), w0.grownBy w (some g) → w0.grownBy (puts w g off vs) (some g)
  | [], _, _, h => h
  | _ :: vs, _, off, h => puts_grown vs _ (off + 1) (h.trans (grown_cellG _ g _ _))

end Go.Proofs.Ytnlnigelecmobaa
namespace Go.Proofs.Ytnlnigelecmobaa
open Go.RowKit

theorem bNotU (M : BitVec 64) : bits .xor .u64 IntKind.u64.max (M.toNat : Int) = ((~~~ M).toNat : Int) := by
  show IntKind.u64.wrap ((BitVec.ofInt 64 IntKind.u64.max ^^^ BitVec.ofInt 64 M.toNat).toNat : Int) = _
  rw [ofN, show BitVec.ofInt 64 IntKind.u64.max = BitVec.allOnes 64 by decide, BitVec.allOnes_xor, wrapUn]

set_option maxHeartbeats 1000000 in
theorem l2Last_six (H L : BitVec 64) (n : Nat) (b : Int) (hn : n ≤ 128) (hb : b = 128 - (n : Int)) (w : World) :
    Calls Try.prog 54 #[.agg #[.bool true, .int .i64 H.toInt, .int .i64 L.toInt, .int .i64 b]] w fun e w' => e = .returned (.agg #[.bool true, .int .i64 (fH n H).toInt, .int .i64 (fL n L).toInt]) ∧ Below w.heap.size w w' := by
  have a1 := l2High_any b (by omega) (by omega)
  have a2 := l2High_any (b - 64) (by omega) (by omega)
  rw [show hg b = ~~~ mh n by rw [hb]; exact hg_hi n hn] at a1
  rw [show hg (b - 64) = ~~~ ml n by rw [hb]; exact hg_lo n hn] at a2
  have H1 : Hid (∀ w, _) := a1
  have H2 : Hid (∀ w, _) := a2
  clear a1 a2
  have hb1 : -64 ≤ b - 64 := by omega
  have hb2 : b ≤ 128 := by omega
  have hw1 : wrap64 (b - 64) = b - 64 := by unfold wrap64; omega
  have hw2 : IntKind.i64.wrap (b - 64) = b - 64 := by rw [← w64]; exact hw1
  have k1 : IntKind.i64.wrap (bits .or .u64 (IntKind.u64.wrap H.toInt) (bits .xor .u64 IntKind.u64.max ((~~~ mh n).toNat : Int))) = (fH n H).toInt := by rw [bNotU, wrapU, bOrU, wrapI, BitVec.not_not]; rfl
  have k2 : IntKind.i64.wrap (bits .or .u64 (IntKind.u64.wrap L.toInt) (bits .xor .u64 IntKind.u64.max ((~~~ ml n).toNat : Int))) = (fL n L).toInt := by rw [bNotU, wrapU, bOrU, wrapI, BitVec.not_not]; rfl
  generalize ~~~ mh n = M1 at H1 k1
  generalize ~~~ ml n = M2 at H2 k2
  generalize fH n H = X1 at k1 ⊢
  generalize fL n L = X2 at k2 ⊢
  clear hb hn
  go_enter Try.func54, Try.ntmps54
  go_wp2_with fail
  go_region_held3 (fun x => x.cell? ⟨w.heap.size, 0, none⟩ = some (.bool true) ∧ x.cell? ⟨w.heap.size, 1, none⟩ = some (.int .i64 H.toInt) ∧ x.cell? ⟨w.heap.size, 2, none⟩ = some (.int .i64 L.toInt) ∧ x.cell? ⟨w.heap.size, 3, none⟩ = some (.int .i64 b)) ((go_simp)) (first | (go_at_call_of 61 (Value.int .i64 b); refine (H1.out _).mono ?_; rintro e w1 ⟨rfl, rfl⟩) | (go_at_call 61; refine (H2.out _).mono ?_; rintro e w1 ⟨rfl, rfl⟩))
  all_goals
    go_wp2_with fail
    refine bodyPost_ret (v := .agg #[.bool true, .int .i64 X1.toInt, .int .i64 X2.toInt]) (by simp [results, Try.results54, go_sem]) rfl ⟨rfl, ?_⟩
    repeat (first | with_reducible exact Below.refl _ _ | (with_reducible refine Below.drew ?_) | (with_reducible refine Below.alloc ?_ ?_ _; rotate_left; (focus (first | omega | (simp; omega) | (simp; done)))) | (with_reducible refine Below.setCell ?_ ?_ _; rotate_left; (focus (first | omega | (simp; omega) | (simp; done)))))

set_option maxHeartbeats 1000000 in
theorem l2Last_four (L : BitVec 64) (n : Nat) (b : Int) (hn : n ≤ 32) (hb : b = 32 - (n : Int)) (w : World) :
    Calls Try.prog 54 #[.agg #[.bool false, .int .i64 0, .int .i64 L.toInt, .int .i64 b]] w fun e w' => e = .returned (.agg #[.bool false, .int .i64 0, .int .i64 (fL n L).toInt]) ∧ Below w.heap.size w w' := by
  have a1 := l2High_any b (by omega) (by omega)
  have H1 : Hid (∀ w, _) := a1
  clear a1
  have k1 : bits .or .i64 L.toInt (IntKind.i64.wrap (bits .xor .u64 IntKind.u64.max ((hg b).toNat : Int) / (4294967296 : Int))) = (fL n L).toInt := by
    rw [bNotU, shr32', wrapI, bOr, hb, ng_32 n hn]; rfl
  generalize hg b = M1 at k1 H1
  generalize fL n L = X2 at k1 ⊢
  clear hb hn
  go_enter Try.func54, Try.ntmps54
  go_wp2_with fail
  go_region_held3 (fun x => x.cell? ⟨w.heap.size, 0, none⟩ = some (.bool false) ∧ x.cell? ⟨w.heap.size, 1, none⟩ = some (.int .i64 0) ∧ x.cell? ⟨w.heap.size, 2, none⟩ = some (.int .i64 L.toInt) ∧ x.cell? ⟨w.heap.size, 3, none⟩ = some (.int .i64 b)) ((go_simp)) ((go_at_call 61; refine (H1.out _).mono ?_; rintro e w1 ⟨rfl, rfl⟩))
  all_goals
    go_wp2_with fail
    refine bodyPost_ret (v := .agg #[.bool false, .int .i64 0, .int .i64 X2.toInt]) (by simp [results, Try.results54, go_sem]) rfl ⟨rfl, ?_⟩
    repeat (first | with_reducible exact Below.refl _ _ | (with_reducible refine Below.drew ?_) | (with_reducible refine Below.alloc ?_ ?_ _; rotate_left; (focus (first | omega | (simp; omega) | (simp; done)))) | (with_reducible refine Below.setCell ?_ ?_ _; rotate_left; (focus (first | omega | (simp; omega) | (simp; done)))))

end Go.Proofs.Ytnlnigelecmobaa
namespace Go.Proofs.Ytnlnigelecmobaa
open Go.RowKit

theorem l2Last_any (s : Bool) (H L : BitVec 64) (n : Nat) (b : Int) (hok : okB s H.toInt L.toInt = true) (hn : n ≤ wd s) (hb : b = (wd s : Int) - (n : Int)) (w : World) :
    Calls Try.prog 54 #[.agg #[.bool s, .int .i64 H.toInt, .int .i64 L.toInt, .int .i64 b]] w fun e w' => e = .returned (.agg #[.bool s, .int .i64 (fH n H).toInt, .int .i64 (fL n L).toInt]) ∧ Below w.heap.size w w' := by
  cases s
  · obtain ⟨rfl, hL⟩ := okB_four H L hok
    have hn' : n ≤ 32 := by simpa [wd] using hn
    have := l2Last_four L n b hn' (by simpa [wd] using hb) w
    have z : (fH n (0 : BitVec 64)) = 0 := by simp [fH, mh_32 n hn']
    rw [z]
    simpa using this
  · exact l2Last_six H L n b (by simpa [wd] using hn) (by simpa [wd] using hb) w

end Go.Proofs.Ytnlnigelecmobaa
namespace Go.Proofs.Ytnlnigelecmobaa
open Go.RowKit

theorem wd_le'' (s : Bool) : wd s ≤ 128 := by cases s <;> decide
theorem okB_low (L : BitVec 64) (h : L.toNat < 4294967296) : okB false (0 : BitVec 64).toInt L.toInt = true := by
  have e := BitVec.toInt_eq_toNat_cond (x := L)
  have h1 : (0 : BitVec 64).toInt = 0 := by decide
  rw [h1]
  refine okB_yes _ ?_ ?_ <;> split at e <;> omega
theorem okB_fill (s : Bool) (H L : BitVec 64) (n : Nat) (hn : n ≤ wd s) (hok : okB s H.toInt L.toInt = true) : okB s (fH n H).toInt (fL n L).toInt = true := by
  cases s
  · obtain ⟨rfl, hL⟩ := okB_four H L hok
    have hn' : n ≤ 32 := by simpa [wd] using hn
    have z : (fH n (0 : BitVec 64)) = 0 := by simp [fH, mh_32 n hn']
    rw [z]
    exact okB_low _ (or_lt32 L _ hL (ml_lt n hn'))
  · exact okB_t _ _
theorem okB_clr (s : Bool) (H L : BitVec 64) (n : Nat) (hok : okB s H.toInt L.toInt = true) : okB s (cH n H).toInt (cL n L).toInt = true := by
  cases s
  · obtain ⟨rfl, hL⟩ := okB_four H L hok
    have z : (cH n (0 : BitVec 64)) = 0 := by simp [cH]
    rw [z]
    exact okB_low _ (and_lt32 L _ hL)
  · exact okB_t _ _

set_option maxHeartbeats 1000000 in
theorem l2Halves_any (s : Bool) (H L : BitVec 64) (b : Int) (k : Nat) (hn : (k : Int) + 1 = (wd s : Int) - b) (hok : okB s H.toInt L.toInt = true) (hb : 0 ≤ b) (w : World) :
    Calls Try.prog 38 #[.agg #[.bool s, .int .i64 H.toInt, .int .i64 L.toInt, .int .i64 b]] w fun e w' => e = .returned (.tuple #[.agg #[.bool s, .int .i64 H.toInt, .int .i64 L.toInt, .int .i64 (b + 1)], .agg #[.bool s, .int .i64 (cH k (fH (k + 1) H)).toInt, .int .i64 (cL k (fL (k + 1) L)).toInt, .int .i64 (b + 1)]]) ∧ Below w.heap.size w w' := by
  have hw := wd_le'' s
  have HL : Hid (∀ w, _) := l2Last_any s H L (k + 1) b hok (by omega) (by omega)
  have HM : Hid (∀ w, _) := l2Mask_any s (fH (k + 1) H) (fL (k + 1) L) k (b + 1) (okB_fill s H L (k + 1) (by omega) hok) (by omega) (by omega)
  have hw1 : wrap64 (b + 1) = b + 1 := by unfold wrap64; omega
  have hw2 : IntKind.i64.wrap (b + 1) = b + 1 := by rw [← w64]; exact hw1
  generalize cH k (fH (k + 1) H) = X1 at HM ⊢
  generalize cL k (fL (k + 1) L) = X2 at HM ⊢
  generalize fH (k + 1) H = F1 at HM HL
  generalize fL (k + 1) L = F2 at HM HL
  clear hn hok hw
  go_enter Try.func38, Try.ntmps38
  go_upto_region 2 with fail
  go_cut [5] (fun t5 X => ∃ r N : Nat, t5 = .pointer (some ⟨r, 0, none⟩) ∧ (X.cell? ⟨w.heap.size, 0, none⟩ = some (.bool s) ∧ X.cell? ⟨w.heap.size, 1, none⟩ = some (.int .i64 H.toInt) ∧ X.cell? ⟨w.heap.size, 2, none⟩ = some (.int .i64 L.toInt) ∧ X.cell? ⟨w.heap.size, 3, none⟩ = some (.int .i64 b)) ∧ (X.cell? ⟨w.heap.size + 3, 0, none⟩ = some (.bool s) ∧ X.cell? ⟨w.heap.size + 3, 1, none⟩ = some (.int .i64 H.toInt) ∧ X.cell? ⟨w.heap.size + 3, 2, none⟩ = some (.int .i64 L.toInt) ∧ X.cell? ⟨w.heap.size + 3, 3, none⟩ = some (.int .i64 (b + 1))) ∧ (X.cell? ⟨r, 0, none⟩ = some (.bool s) ∧ X.cell? ⟨r, 1, none⟩ = some (.int .i64 F1.toInt) ∧ X.cell? ⟨r, 2, none⟩ = some (.int .i64 F2.toInt)) ∧ (X.cell? ⟨w.heap.size + 1, 0, none⟩ = some (.bool false) ∧ X.cell? ⟨w.heap.size + 1, 1, none⟩ = some (.int .i64 0) ∧ X.cell? ⟨w.heap.size + 1, 2, none⟩ = some (.int .i64 0) ∧ X.cell? ⟨w.heap.size + 1, 3, none⟩ = some (.int .i64 0)) ∧ (X.cell? ⟨w.heap.size + 2, 0, none⟩ = some (.bool false) ∧ X.cell? ⟨w.heap.size + 2, 1, none⟩ = some (.int .i64 0) ∧ X.cell? ⟨w.heap.size + 2, 2, none⟩ = some (.int .i64 0) ∧ X.cell? ⟨w.heap.size + 2, 3, none⟩ = some (.int .i64 0)) ∧ (X.frozen? ⟨w.heap.size + 1, 0, none⟩ = false ∧ X.frozen? ⟨w.heap.size + 1, 1, none⟩ = false ∧ X.frozen? ⟨w.heap.size + 1, 2, none⟩ = false ∧ X.frozen? ⟨w.heap.size + 1, 3, none⟩ = false) ∧ (X.frozen? ⟨w.heap.size + 2, 0, none⟩ = false ∧ X.frozen? ⟨w.heap.size + 2, 1, none⟩ = false ∧ X.frozen? ⟨w.heap.size + 2, 2, none⟩ = false ∧ X.frozen? ⟨w.heap.size + 2, 3, none⟩ = false) ∧ w.heap.size + 3 < r ∧ X.heap.size = N ∧ r < N ∧ Below w.heap.size w X)
  case first =>
    go_wp2_with fail
    refine (HL.out _).mono ?_
    rintro e w1 ⟨rfl, hb1⟩
    have hz1 := hb1.size
    try simp at hz1
    have f10 : w.heap.size < w1.heap.size := by omega
    have f11 : w.heap.size + 1 < w1.heap.size := by omega
    have f12 : w.heap.size + 2 < w1.heap.size := by omega
    have f13 : w.heap.size + 3 < w1.heap.size := by omega
    refine olds_k (w.heap.size + 4) hb1 ?_ ?_
    · first | omega | (simp; omega) | (simp; done)
    intro hc1 hf1
    go_wp2_with fail
    go_meet
    refine ⟨_, _, rfl, ⟨?_, ?_, ?_, ?_⟩, ⟨?_, ?_, ?_, ?_⟩, ⟨?_, ?_, ?_⟩, ⟨?_, ?_, ?_, ?_⟩, ⟨?_, ?_, ?_, ?_⟩, ⟨?_, ?_, ?_, ?_⟩, ⟨?_, ?_, ?_, ?_⟩, ?_, rfl, ?_, ?_⟩
    all_goals try (go_simp; done)
    all_goals try omega
    all_goals try (simp; omega)
    repeat (first | with_reducible exact Below.refl _ _ | (with_reducible refine Below.drew ?_) | (with_reducible refine Below.alloc ?_ ?_ _; rotate_left; (focus (first | omega | (simp; omega) | (simp; done)))) | (with_reducible refine Below.setCell ?_ ?_ _; rotate_left; (focus (first | omega | (simp; omega) | (simp; done)))) | (with_reducible refine Below.trans ?_ (hb1.mono ?_); rotate_left; (focus (first | omega | (simp; omega) | (simp; done)))))
  case rest =>
    obtain ⟨r, N, rfl, ⟨a0, a1, a2, a3⟩, ⟨b0, b1, b2, b3⟩, ⟨r0, r1, r2⟩, ⟨c0, c1, c2, c3⟩, ⟨d0, d1, d2, d3⟩, ⟨g0, g1, g2, g3⟩, ⟨h0, h1, h2, h3⟩, m1, hN, m3, hX⟩ := hcut
    go_wp2_with fail
    have np1 : w.heap.size + 1 ≠ r := by omega
    have np2 : w.heap.size + 2 ≠ r := by omega
    have e0 : w.heap.size < N := by omega
    have e1 : w.heap.size + 1 < N := by omega
    have e2 : w.heap.size + 2 < N := by omega
    have e3 : w.heap.size + 3 < N := by omega
    go_region_held3 (fun x => x.cell? ⟨w.heap.size, 0, none⟩ = some (.bool s) ∧ x.cell? ⟨w.heap.size, 1, none⟩ = some (.int .i64 H.toInt) ∧ x.cell? ⟨w.heap.size, 2, none⟩ = some (.int .i64 L.toInt) ∧ x.cell? ⟨w.heap.size, 3, none⟩ = some (.int .i64 b) ∧ x.cell? ⟨w.heap.size + 3, 0, none⟩ = some (.bool s) ∧ x.cell? ⟨w.heap.size + 3, 1, none⟩ = some (.int .i64 H.toInt) ∧ x.cell? ⟨w.heap.size + 3, 2, none⟩ = some (.int .i64 L.toInt) ∧ x.cell? ⟨w.heap.size + 3, 3, none⟩ = some (.int .i64 (b + 1)) ∧ x.cell? ⟨r, 0, none⟩ = some (.bool s) ∧ x.cell? ⟨r, 1, none⟩ = some (.int .i64 F1.toInt) ∧ x.cell? ⟨r, 2, none⟩ = some (.int .i64 F2.toInt)) ((repeat' apply And.intro) <;> (first | (go_simp; done) | (go_keep; done))) ((go_at_call 52; refine (HM.out _).mono ?_; rintro e w2 ⟨rfl, hb2⟩; have hz2 := hb2.size; (try simp at hz2); (refine ltk (w.heap.size + 1) (w2.heap.size) ?_ ?_; (focus omega); intro f21); (refine ltk (w.heap.size + 2) (w2.heap.size) ?_ ?_; (focus omega); intro f22); (refine olds_k N hb2 ?_ ?_; (focus (first | omega | (simp; omega) | (simp; done))); intro hc2 hf2)))
    all_goals
      go_wp2_with fail
      refine bodyPost_ret (v := .tuple #[.agg #[.bool s, .int .i64 H.toInt, .int .i64 L.toInt, .int .i64 (b + 1)], .agg #[.bool s, .int .i64 X1.toInt, .int .i64 X2.toInt, .int .i64 (b + 1)]]) (by simp [results, Try.results38, go_sem, hc2, c0, c1, c2, c3, d0, d1, d2, d3, e1, e2]) rfl ⟨rfl, ?_⟩
      repeat (first | with_reducible exact hX | (with_reducible refine Below.drew ?_) | (with_reducible refine Below.alloc ?_ ?_ _; rotate_left; (focus (first | omega | (simp; omega) | (simp; done)))) | (with_reducible refine Below.setCell ?_ ?_ _; rotate_left; (focus (first | omega | (simp; omega) | (simp; done)))) | (with_reducible refine Below.trans ?_ (hb2.mono ?_); rotate_left; (focus (first | omega | (simp; omega) | (simp; done)))))

end Go.Proofs.Ytnlnigelecmobaa
namespace Go.Proofs.Ytnlnigelecmobaa
open Go.RowKit

set_option maxHeartbeats 1000000 in
theorem sHalves_no (s : Bool) (H L : BitVec 64) (b : Int) (hp : pokB s H L b = false) (w : World) :
    Calls Try.prog 30 #[.agg #[.bool s, .int .i64 H.toInt, .int .i64 L.toInt, .int .i64 b]] w fun e w' => e = .returned (.tuple #[.agg #[.bool false, .int .i64 0, .int .i64 0, .int .i64 0], .agg #[.bool false, .int .i64 0, .int .i64 0, .int .i64 0], .bool false]) ∧ Below w.heap.size w w' := by
  have HP : Hid (∀ w, _) := sPrefixOk_any s H L b
  rw [hp] at HP
  clear hp
  go_enter Try.func30, Try.ntmps30
  go_wp2_with fail
  refine wp_region_held_drew (S := (fun x => x.cell? ⟨w.heap.size, 0, none⟩ = some (.bool s) ∧ x.cell? ⟨w.heap.size, 1, none⟩ = some (.int .i64 H.toInt) ∧ x.cell? ⟨w.heap.size, 2, none⟩ = some (.int .i64 L.toInt) ∧ x.cell? ⟨w.heap.size, 3, none⟩ = some (.int .i64 b))) (by kernel_rfl) ?_ (fun hHeld => ?_)
  · try dsimp only
    (refine four_of_below (W := ((w.alloc (.cells #[.bool s, .int .i64 H.toInt, .int .i64 L.toInt, .int .i64 b] 27)).alloc (.cells #[.bool false, .int .i64 0, .int .i64 0, .int .i64 0] 27)).alloc (.cells #[.bool false, .int .i64 0, .int .i64 0, .int .i64 0] 27)) (n := w.heap.size + 3) ?_ (by omega) ⟨by simp [go_sem], by simp [go_sem], by simp [go_sem], by simp [go_sem]⟩; repeat (first | with_reducible exact Below.refl _ _ | (with_reducible refine Below.drew ?_) | (with_reducible refine Below.alloc ?_ ?_ _; rotate_left; (focus (first | omega | (simp; omega) | (simp; done)))) | (with_reducible refine Below.setCell ?_ ?_ _; rotate_left; (focus (first | omega | (simp; omega) | (simp; done))))))
  refine tk 0 7 rfl ?_; simp only [pa]
  refine wpAnyH_ready (rs := [1]) (by kernel_rfl) (by simp) ?_
  refine AllReadyH.cons rfl (fun K hK => ?_) AllReadyH.nil
  go_simp
  go_wp2_with ((go_at_call 33; refine (HP.out _).mono ?_; rintro e w1 ⟨rfl, hb1⟩; have hz1 := hb1.size; (try simp at hz1); (first | (refine ltk (w.heap.size) (w1.heap.size) ?_ ?_; (focus omega); intro f10) | skip); (first | (refine ltk (w.heap.size + 1) (w1.heap.size) ?_ ?_; (focus omega); intro f11) | skip); (first | (refine ltk (w.heap.size + 2) (w1.heap.size) ?_ ?_; (focus omega); intro f12) | skip); (refine olds_k (w.heap.size + 3) hb1 ?_ ?_; (focus (first | omega | (simp; omega) | (simp; done))); intro hc1 hf1)))
  refine hK.out _ _ ?_ (fun hHeld => ?_)
  · try dsimp only
    (refine four_of_below (W := ((w.alloc (.cells #[.bool s, .int .i64 H.toInt, .int .i64 L.toInt, .int .i64 b] 27)).alloc (.cells #[.bool false, .int .i64 0, .int .i64 0, .int .i64 0] 27)).alloc (.cells #[.bool false, .int .i64 0, .int .i64 0, .int .i64 0] 27)) (n := w.heap.size + 3) ?_ (by omega) ⟨by simp [go_sem], by simp [go_sem], by simp [go_sem], by simp [go_sem]⟩; repeat (first | with_reducible exact Below.refl _ _ | (with_reducible refine Below.drew ?_) | (with_reducible refine Below.alloc ?_ ?_ _; rotate_left; (focus (first | omega | (simp; omega) | (simp; done)))) | (with_reducible refine Below.setCell ?_ ?_ _; rotate_left; (focus (first | omega | (simp; omega) | (simp; done)))) | (with_reducible refine Below.trans ?_ (hb1.mono ?_); rotate_left; (focus (first | omega | (simp; omega) | (simp; done))))))
  clear hK K
  refine tk 2 9 rfl ?_; simp only [pa]
  refine tk 3 10 rfl ?_; simp only [pa]
  refine sk 4 11 rfl ?_; simp only [pa]
  refine sk 5 12 rfl ?_; simp only [pa]
  refine sk 6 13 rfl ?_; simp only [pa]
  refine sk 7 14 rfl ?_; simp only [pa]
  refine wpAnyH_ready (rs := [8]) (by kernel_rfl) (by simp) ?_
  refine AllReadyH.cons rfl (fun K hK => ?_) AllReadyH.nil
  go_simp
  refine hK.out _ _ ?_ (fun hHeld => ?_)
  · try dsimp only
    (refine four_of_below (W := ((w.alloc (.cells #[.bool s, .int .i64 H.toInt, .int .i64 L.toInt, .int .i64 b] 27)).alloc (.cells #[.bool false, .int .i64 0, .int .i64 0, .int .i64 0] 27)).alloc (.cells #[.bool false, .int .i64 0, .int .i64 0, .int .i64 0] 27)) (n := w.heap.size + 3) ?_ (by omega) ⟨by simp [go_sem], by simp [go_sem], by simp [go_sem], by simp [go_sem]⟩; repeat (first | with_reducible exact Below.refl _ _ | (with_reducible refine Below.drew ?_) | (with_reducible refine Below.alloc ?_ ?_ _; rotate_left; (focus (first | omega | (simp; omega) | (simp; done)))) | (with_reducible refine Below.setCell ?_ ?_ _; rotate_left; (focus (first | omega | (simp; omega) | (simp; done)))) | (with_reducible refine Below.trans ?_ (hb1.mono ?_); rotate_left; (focus (first | omega | (simp; omega) | (simp; done))))))
  clear hK K
  refine sk 9 16 rfl ?_; simp only [pa]
  refine tk 10 17 rfl ?_; simp only [pa]
  refine wpAnyH_done (by kernel_rfl) ?_ _
  go_wp2_with fail
  refine bodyPost_ret (v := .tuple #[.agg #[.bool false, .int .i64 0, .int .i64 0, .int .i64 0], .agg #[.bool false, .int .i64 0, .int .i64 0, .int .i64 0], .bool false]) (by simp [results, Try.results30, go_sem, hc1]) rfl ⟨rfl, ?_⟩
  repeat (first | with_reducible exact Below.refl _ _ | (with_reducible refine Below.drew ?_) | (with_reducible refine Below.alloc ?_ ?_ _; rotate_left; (focus (first | omega | (simp; omega) | (simp; done)))) | (with_reducible refine Below.setCell ?_ ?_ _; rotate_left; (focus (first | omega | (simp; omega) | (simp; done)))) | (with_reducible refine Below.trans ?_ (hb1.mono ?_); rotate_left; (focus (first | omega | (simp; omega) | (simp; done)))))

set_option maxHeartbeats 1000000 in
theorem sHalves_one (s : Bool) (H L : BitVec 64) (b : Int) (hp : pokB s H L b = true) (he : (b == (wd s : Int)) = true) (w : World) :
    Calls Try.prog 30 #[.agg #[.bool s, .int .i64 H.toInt, .int .i64 L.toInt, .int .i64 b]] w fun e w' => e = .returned (.tuple #[.agg #[.bool false, .int .i64 0, .int .i64 0, .int .i64 0], .agg #[.bool false, .int .i64 0, .int .i64 0, .int .i64 0], .bool false]) ∧ Below w.heap.size w w' := by
  have HP : Hid (∀ w, _) := sPrefixOk_any s H L b
  rw [hp] at HP
  clear hp
  go_enter Try.func30, Try.ntmps30
  go_wp2_with fail
  refine wp_region_held_drew (S := (fun x => x.cell? ⟨w.heap.size, 0, none⟩ = some (.bool s) ∧ x.cell? ⟨w.heap.size, 1, none⟩ = some (.int .i64 H.toInt) ∧ x.cell? ⟨w.heap.size, 2, none⟩ = some (.int .i64 L.toInt) ∧ x.cell? ⟨w.heap.size, 3, none⟩ = some (.int .i64 b))) (by kernel_rfl) ?_ (fun hHeld => ?_)
  · try dsimp only
    (refine four_of_below (W := ((w.alloc (.cells #[.bool s, .int .i64 H.toInt, .int .i64 L.toInt, .int .i64 b] 27)).alloc (.cells #[.bool false, .int .i64 0, .int .i64 0, .int .i64 0] 27)).alloc (.cells #[.bool false, .int .i64 0, .int .i64 0, .int .i64 0] 27)) (n := w.heap.size + 3) ?_ (by omega) ⟨by simp [go_sem], by simp [go_sem], by simp [go_sem], by simp [go_sem]⟩; repeat (first | with_reducible exact Below.refl _ _ | (with_reducible refine Below.drew ?_) | (with_reducible refine Below.alloc ?_ ?_ _; rotate_left; (focus (first | omega | (simp; omega) | (simp; done)))) | (with_reducible refine Below.setCell ?_ ?_ _; rotate_left; (focus (first | omega | (simp; omega) | (simp; done))))))
  refine tk 0 7 rfl ?_; simp only [pa]
  refine wpAnyH_ready (rs := [1]) (by kernel_rfl) (by simp) ?_
  refine AllReadyH.cons rfl (fun K hK => ?_) AllReadyH.nil
  go_simp
  go_wp2_with ((go_at_call 33; refine (HP.out _).mono ?_; rintro e w1 ⟨rfl, hb1⟩; have hz1 := hb1.size; (try simp at hz1); (first | (refine ltk (w.heap.size) (w1.heap.size) ?_ ?_; (focus omega); intro f10) | skip); (first | (refine ltk (w.heap.size + 1) (w1.heap.size) ?_ ?_; (focus omega); intro f11) | skip); (first | (refine ltk (w.heap.size + 2) (w1.heap.size) ?_ ?_; (focus omega); intro f12) | skip); (refine olds_k (w.heap.size + 3) hb1 ?_ ?_; (focus (first | omega | (simp; omega) | (simp; done))); intro hc1 hf1)))
  refine hK.out _ _ ?_ (fun hHeld => ?_)
  · try dsimp only
    (refine four_of_below (W := ((w.alloc (.cells #[.bool s, .int .i64 H.toInt, .int .i64 L.toInt, .int .i64 b] 27)).alloc (.cells #[.bool false, .int .i64 0, .int .i64 0, .int .i64 0] 27)).alloc (.cells #[.bool false, .int .i64 0, .int .i64 0, .int .i64 0] 27)) (n := w.heap.size + 3) ?_ (by omega) ⟨by simp [go_sem], by simp [go_sem], by simp [go_sem], by simp [go_sem]⟩; repeat (first | with_reducible exact Below.refl _ _ | (with_reducible refine Below.drew ?_) | (with_reducible refine Below.alloc ?_ ?_ _; rotate_left; (focus (first | omega | (simp; omega) | (simp; done)))) | (with_reducible refine Below.setCell ?_ ?_ _; rotate_left; (focus (first | omega | (simp; omega) | (simp; done)))) | (with_reducible refine Below.trans ?_ (hb1.mono ?_); rotate_left; (focus (first | omega | (simp; omega) | (simp; done))))))
  clear hK K
  refine tk 2 9 rfl ?_; simp only [pa]
  refine tk 3 10 rfl ?_; simp only [pa]
  refine tk 4 11 rfl ?_; simp only [pa]
  refine tk 5 12 rfl ?_; simp only [pa]
  refine tk 6 13 rfl ?_; simp only [pa]
  refine tk 7 14 rfl ?_; simp only [pa]
  refine wpAnyH_ready (rs := [8]) (by kernel_rfl) (by simp) ?_
  refine AllReadyH.cons rfl (fun K hK => ?_) AllReadyH.nil
  go_simp
  go_wp2_with ((go_at_call 36; refine (l2Width_any s H.toInt L.toInt _).mono ?_; rintro e w2 ⟨rfl, hb2⟩; have hz2 := hb2.size; (try simp at hz2); (first | (refine ltk (w.heap.size) (w2.heap.size) ?_ ?_; (focus omega); intro f20) | skip); (first | (refine ltk (w.heap.size + 1) (w2.heap.size) ?_ ?_; (focus omega); intro f21) | skip); (first | (refine ltk (w.heap.size + 2) (w2.heap.size) ?_ ?_; (focus omega); intro f22) | skip); (refine olds_k (w.heap.size + 3) hb2 ?_ ?_; (focus (first | omega | (simp; omega) | (simp; done))); intro hc2 hf2)))
  refine hK.out _ _ ?_ (fun hHeld => ?_)
  · try dsimp only
    (refine four_of_below (W := ((w.alloc (.cells #[.bool s, .int .i64 H.toInt, .int .i64 L.toInt, .int .i64 b] 27)).alloc (.cells #[.bool false, .int .i64 0, .int .i64 0, .int .i64 0] 27)).alloc (.cells #[.bool false, .int .i64 0, .int .i64 0, .int .i64 0] 27)) (n := w.heap.size + 3) ?_ (by omega) ⟨by simp [go_sem], by simp [go_sem], by simp [go_sem], by simp [go_sem]⟩; repeat (first | with_reducible exact Below.refl _ _ | (with_reducible refine Below.drew ?_) | (with_reducible refine Below.alloc ?_ ?_ _; rotate_left; (focus (first | omega | (simp; omega) | (simp; done)))) | (with_reducible refine Below.setCell ?_ ?_ _; rotate_left; (focus (first | omega | (simp; omega) | (simp; done)))) | (with_reducible refine Below.trans ?_ (hb2.mono ?_); rotate_left; (focus (first | omega | (simp; omega) | (simp; done)))) | (with_reducible refine Below.trans ?_ (hb1.mono ?_); rotate_left; (focus (first | omega | (simp; omega) | (simp; done))))))
  clear hK K
  refine tk 9 16 rfl ?_; simp only [pa]
  refine tk 10 17 rfl ?_; simp only [pa]
  refine wpAnyH_done (by kernel_rfl) ?_ _
  go_wp2_with fail
  refine bodyPost_ret (v := .tuple #[.agg #[.bool false, .int .i64 0, .int .i64 0, .int .i64 0], .agg #[.bool false, .int .i64 0, .int .i64 0, .int .i64 0], .bool false]) (by simp [results, Try.results30, go_sem, hc1, hc2]) rfl ⟨rfl, ?_⟩
  repeat (first | with_reducible exact Below.refl _ _ | (with_reducible refine Below.drew ?_) | (with_reducible refine Below.alloc ?_ ?_ _; rotate_left; (focus (first | omega | (simp; omega) | (simp; done)))) | (with_reducible refine Below.setCell ?_ ?_ _; rotate_left; (focus (first | omega | (simp; omega) | (simp; done)))) | (with_reducible refine Below.trans ?_ (hb2.mono ?_); rotate_left; (focus (first | omega | (simp; omega) | (simp; done)))) | (with_reducible refine Below.trans ?_ (hb1.mono ?_); rotate_left; (focus (first | omega | (simp; omega) | (simp; done)))))

set_option maxHeartbeats 1000000 in
theorem sHalves_yes (s : Bool) (H L : BitVec 64) (b : Int) (k : Nat) (hn : (k : Int) + 1 = (wd s : Int) - b) (hok : okB s H.toInt L.toInt = true) (hb : 0 ≤ b) (hp : pokB s H L b = true) (w : World) :
    Calls Try.prog 30 #[.agg #[.bool s, .int .i64 H.toInt, .int .i64 L.toInt, .int .i64 b]] w fun e w' => e = .returned (.tuple #[.agg #[.bool s, .int .i64 H.toInt, .int .i64 L.toInt, .int .i64 (b + 1)], .agg #[.bool s, .int .i64 (cH k (fH (k + 1) H)).toInt, .int .i64 (cL k (fL (k + 1) L)).toInt, .int .i64 (b + 1)], .bool true]) ∧ Below w.heap.size w w' := by
  have he : (b == (wd s : Int)) = false := by rw [beq_eq_false_iff_ne]; omega
  have HH : Hid (∀ w, _) := l2Halves_any s H L b k hn hok hb
  generalize cH k (fH (k + 1) H) = X1 at HH ⊢
  generalize cL k (fL (k + 1) L) = X2 at HH ⊢
  clear hn hok hb
  have HP : Hid (∀ w, _) := sPrefixOk_any s H L b
  rw [hp] at HP
  clear hp
  go_enter Try.func30, Try.ntmps30
  go_upto_region 1 with fail
  go_cut [17] (fun t17 X => ∃ N : Nat, t17 = .bool false ∧ X.heap.size = N ∧ w.heap.size + 2 < N ∧ Below (w.heap.size + 3) (((w.alloc (.cells #[.bool s, .int .i64 H.toInt, .int .i64 L.toInt, .int .i64 b] 27)).alloc (.cells #[.bool false, .int .i64 0, .int .i64 0, .int .i64 0] 27)).alloc (.cells #[.bool false, .int .i64 0, .int .i64 0, .int .i64 0] 27)) X ∧ Below w.heap.size w X)
  case first =>
    refine wp_region_held_drew (S := (fun x => x.cell? ⟨w.heap.size, 0, none⟩ = some (.bool s) ∧ x.cell? ⟨w.heap.size, 1, none⟩ = some (.int .i64 H.toInt) ∧ x.cell? ⟨w.heap.size, 2, none⟩ = some (.int .i64 L.toInt) ∧ x.cell? ⟨w.heap.size, 3, none⟩ = some (.int .i64 b))) (by kernel_rfl) ?_ (fun hHeld => ?_)
    · try dsimp only
      (refine four_of_below (W := ((w.alloc (.cells #[.bool s, .int .i64 H.toInt, .int .i64 L.toInt, .int .i64 b] 27)).alloc (.cells #[.bool false, .int .i64 0, .int .i64 0, .int .i64 0] 27)).alloc (.cells #[.bool false, .int .i64 0, .int .i64 0, .int .i64 0] 27)) (n := w.heap.size + 3) ?_ (by omega) ⟨by simp [go_sem], by simp [go_sem], by simp [go_sem], by simp [go_sem]⟩; repeat (first | with_reducible exact Below.refl _ _ | (with_reducible refine Below.drew ?_) | (with_reducible refine Below.alloc ?_ ?_ _; rotate_left; (focus (first | omega | (simp; omega) | (simp; done)))) | (with_reducible refine Below.setCell ?_ ?_ _; rotate_left; (focus (first | omega | (simp; omega) | (simp; done))))))
    refine tk 0 7 rfl ?_; simp only [pa]
    refine wpAnyH_ready (rs := [1]) (by kernel_rfl) (by simp) ?_
    refine AllReadyH.cons rfl (fun K hK => ?_) AllReadyH.nil
    go_simp
    go_wp2_with ((go_at_call 33; refine (HP.out _).mono ?_; rintro e w1 ⟨rfl, hb1⟩; have hz1 := hb1.size; (try simp at hz1); (first | (refine ltk (w.heap.size) (w1.heap.size) ?_ ?_; (focus omega); intro f10) | skip); (first | (refine ltk (w.heap.size + 1) (w1.heap.size) ?_ ?_; (focus omega); intro f11) | skip); (first | (refine ltk (w.heap.size + 2) (w1.heap.size) ?_ ?_; (focus omega); intro f12) | skip); (refine olds_k (w.heap.size + 3) hb1 ?_ ?_; (focus (first | omega | (simp; omega) | (simp; done))); intro hc1 hf1)))
    refine hK.out _ _ ?_ (fun hHeld => ?_)
    · try dsimp only
      (refine four_of_below (W := ((w.alloc (.cells #[.bool s, .int .i64 H.toInt, .int .i64 L.toInt, .int .i64 b] 27)).alloc (.cells #[.bool false, .int .i64 0, .int .i64 0, .int .i64 0] 27)).alloc (.cells #[.bool false, .int .i64 0, .int .i64 0, .int .i64 0] 27)) (n := w.heap.size + 3) ?_ (by omega) ⟨by simp [go_sem], by simp [go_sem], by simp [go_sem], by simp [go_sem]⟩; repeat (first | with_reducible exact Below.refl _ _ | (with_reducible refine Below.drew ?_) | (with_reducible refine Below.alloc ?_ ?_ _; rotate_left; (focus (first | omega | (simp; omega) | (simp; done)))) | (with_reducible refine Below.setCell ?_ ?_ _; rotate_left; (focus (first | omega | (simp; omega) | (simp; done)))) | (with_reducible refine Below.trans ?_ (hb1.mono ?_); rotate_left; (focus (first | omega | (simp; omega) | (simp; done))))))
    clear hK K
    refine tk 2 9 rfl ?_; simp only [pa]
    refine tk 3 10 rfl ?_; simp only [pa]
    refine tk 4 11 rfl ?_; simp only [pa]
    refine tk 5 12 rfl ?_; simp only [pa]
    refine tk 6 13 rfl ?_; simp only [pa]
    refine tk 7 14 rfl ?_; simp only [pa]
    refine wpAnyH_ready (rs := [8]) (by kernel_rfl) (by simp) ?_
    refine AllReadyH.cons rfl (fun K hK => ?_) AllReadyH.nil
    go_simp
    go_wp2_with ((go_at_call 36; refine (l2Width_any s H.toInt L.toInt _).mono ?_; rintro e w2 ⟨rfl, hb2⟩; have hz2 := hb2.size; (try simp at hz2); (first | (refine ltk (w.heap.size) (w2.heap.size) ?_ ?_; (focus omega); intro f20) | skip); (first | (refine ltk (w.heap.size + 1) (w2.heap.size) ?_ ?_; (focus omega); intro f21) | skip); (first | (refine ltk (w.heap.size + 2) (w2.heap.size) ?_ ?_; (focus omega); intro f22) | skip); (refine olds_k (w.heap.size + 3) hb2 ?_ ?_; (focus (first | omega | (simp; omega) | (simp; done))); intro hc2 hf2)))
    refine hK.out _ _ ?_ (fun hHeld => ?_)
    · try dsimp only
      (refine four_of_below (W := ((w.alloc (.cells #[.bool s, .int .i64 H.toInt, .int .i64 L.toInt, .int .i64 b] 27)).alloc (.cells #[.bool false, .int .i64 0, .int .i64 0, .int .i64 0] 27)).alloc (.cells #[.bool false, .int .i64 0, .int .i64 0, .int .i64 0] 27)) (n := w.heap.size + 3) ?_ (by omega) ⟨by simp [go_sem], by simp [go_sem], by simp [go_sem], by simp [go_sem]⟩; repeat (first | with_reducible exact Below.refl _ _ | (with_reducible refine Below.drew ?_) | (with_reducible refine Below.alloc ?_ ?_ _; rotate_left; (focus (first | omega | (simp; omega) | (simp; done)))) | (with_reducible refine Below.setCell ?_ ?_ _; rotate_left; (focus (first | omega | (simp; omega) | (simp; done)))) | (with_reducible refine Below.trans ?_ (hb2.mono ?_); rotate_left; (focus (first | omega | (simp; omega) | (simp; done)))) | (with_reducible refine Below.trans ?_ (hb1.mono ?_); rotate_left; (focus (first | omega | (simp; omega) | (simp; done))))))
    clear hK K
    refine tk 9 16 rfl ?_; simp only [pa]
    refine tk 10 17 rfl ?_; simp only [pa]
    refine wpAnyH_done (by kernel_rfl) ?_ _
    go_wp2_with fail
    go_meet
    refine ⟨_, rfl, rfl, ?_, ?_, ?_⟩
    · first | omega | (simp; omega)
    · repeat (first | with_reducible exact Below.refl _ _ | (with_reducible refine Below.drew ?_) | (with_reducible refine Below.alloc ?_ ?_ _; rotate_left; (focus (first | omega | (simp; omega) | (simp; done)))) | (with_reducible refine Below.setCell ?_ ?_ _; rotate_left; (focus (first | omega | (simp; omega) | (simp; done)))) | (with_reducible refine Below.trans ?_ (hb2.mono ?_); rotate_left; (focus (first | omega | (simp; omega) | (simp; done)))) | (with_reducible refine Below.trans ?_ (hb1.mono ?_); rotate_left; (focus (first | omega | (simp; omega) | (simp; done)))))
    · repeat (first | with_reducible exact Below.refl _ _ | (with_reducible refine Below.drew ?_) | (with_reducible refine Below.alloc ?_ ?_ _; rotate_left; (focus (first | omega | (simp; omega) | (simp; done)))) | (with_reducible refine Below.setCell ?_ ?_ _; rotate_left; (focus (first | omega | (simp; omega) | (simp; done)))) | (with_reducible refine Below.trans ?_ (hb2.mono ?_); rotate_left; (focus (first | omega | (simp; omega) | (simp; done)))) | (with_reducible refine Below.trans ?_ (hb1.mono ?_); rotate_left; (focus (first | omega | (simp; omega) | (simp; done)))))
  case rest =>
    obtain ⟨N, rfl, hN, y2, hB, hW⟩ := hcut
    have y1 := Nat.lt_of_succ_lt y2
    have y0 := Nat.lt_of_succ_lt y1
    obtain ⟨hc, hf⟩ := olds hB
    go_upto_region 3 with fail
    go_cut [5, 6] (fun t5 t6 Y => ∃ p q M : Nat, t5 = .pointer (some ⟨p, 0, none⟩) ∧ t6 = .pointer (some ⟨q, 0, none⟩) ∧ (Y.cell? ⟨p, 0, none⟩ = some (.bool s) ∧ Y.cell? ⟨p, 1, none⟩ = some (.int .i64 H.toInt) ∧ Y.cell? ⟨p, 2, none⟩ = some (.int .i64 L.toInt) ∧ Y.cell? ⟨p, 3, none⟩ = some (.int .i64 (b + 1))) ∧ (Y.cell? ⟨q, 0, none⟩ = some (.bool s) ∧ Y.cell? ⟨q, 1, none⟩ = some (.int .i64 X1.toInt) ∧ Y.cell? ⟨q, 2, none⟩ = some (.int .i64 X2.toInt) ∧ Y.cell? ⟨q, 3, none⟩ = some (.int .i64 (b + 1))) ∧ (Y.cell? ⟨w.heap.size + 1, 0, none⟩ = some (.bool false) ∧ Y.cell? ⟨w.heap.size + 1, 1, none⟩ = some (.int .i64 0) ∧ Y.cell? ⟨w.heap.size + 1, 2, none⟩ = some (.int .i64 0) ∧ Y.cell? ⟨w.heap.size + 1, 3, none⟩ = some (.int .i64 0)) ∧ (Y.cell? ⟨w.heap.size + 2, 0, none⟩ = some (.bool false) ∧ Y.cell? ⟨w.heap.size + 2, 1, none⟩ = some (.int .i64 0) ∧ Y.cell? ⟨w.heap.size + 2, 2, none⟩ = some (.int .i64 0) ∧ Y.cell? ⟨w.heap.size + 2, 3, none⟩ = some (.int .i64 0)) ∧ (Y.frozen? ⟨w.heap.size + 1, 0, none⟩ = false ∧ Y.frozen? ⟨w.heap.size + 1, 1, none⟩ = false ∧ Y.frozen? ⟨w.heap.size + 1, 2, none⟩ = false ∧ Y.frozen? ⟨w.heap.size + 1, 3, none⟩ = false) ∧ (Y.frozen? ⟨w.heap.size + 2, 0, none⟩ = false ∧ Y.frozen? ⟨w.heap.size + 2, 1, none⟩ = false ∧ Y.frozen? ⟨w.heap.size + 2, 2, none⟩ = false ∧ Y.frozen? ⟨w.heap.size + 2, 3, none⟩ = false) ∧ w.heap.size + 2 < p ∧ w.heap.size + 2 < q ∧ Y.heap.size = M ∧ p < M ∧ q < M ∧ Below w.heap.size w Y)
    case first =>
      go_wp2_with fail
      refine (HH.out _).mono ?_
      rintro e w3 ⟨rfl, hb3⟩
      have hz3 := hb3.size
      try simp at hz3
      have f30 : w.heap.size < w3.heap.size := by omega
      have f31 : w.heap.size + 1 < w3.heap.size := by omega
      have f32 : w.heap.size + 2 < w3.heap.size := by omega
      refine olds_k (w.heap.size + 3) hb3 ?_ ?_
      · first | omega | (simp; omega) | (simp; done)
      intro hc3 hf3
      go_wp2_with fail
      go_meet
      refine ⟨_, _, _, rfl, rfl, ⟨?_, ?_, ?_, ?_⟩, ⟨?_, ?_, ?_, ?_⟩, ⟨?_, ?_, ?_, ?_⟩, ⟨?_, ?_, ?_, ?_⟩, ⟨?_, ?_, ?_, ?_⟩, ⟨?_, ?_, ?_, ?_⟩, ?_, ?_, rfl, ?_, ?_, ?_⟩
      all_goals try (go_simp; done)
      all_goals try omega
      all_goals try (simp; omega)
      repeat (first | with_reducible exact hW | (with_reducible refine Below.drew ?_) | (with_reducible refine Below.alloc ?_ ?_ _; rotate_left; (focus (first | omega | (simp; omega) | (simp; done)))) | (with_reducible refine Below.setCell ?_ ?_ _; rotate_left; (focus (first | omega | (simp; omega) | (simp; done)))) | (with_reducible refine Below.trans ?_ (hb3.mono ?_); rotate_left; (focus (first | omega | (simp; omega) | (simp; done)))))
    case rest =>
      obtain ⟨p, q, M, rfl, rfl, ⟨a0, a1, a2, a3⟩, ⟨b0, b1, b2, b3⟩, ⟨c0, c1, c2, c3⟩, ⟨d0, d1, d2, d3⟩, ⟨g0, g1, g2, g3⟩, ⟨h0, h1, h2, h3⟩, m1, m2, hM, m3, m4, hX⟩ := hcut
      clear hc hf hB hW
      have np1 : w.heap.size + 1 ≠ p := by omega
      have np2 : w.heap.size + 2 ≠ p := by omega
      have nq1 : w.heap.size + 1 ≠ q := by omega
      have nq2 : w.heap.size + 2 ≠ q := by omega
      have e1 := Nat.lt_trans (Nat.lt_of_succ_lt m1) m3
      have e2 := Nat.lt_trans m1 m3
      go_wp2_with fail
      go_region
      all_goals
        go_wp2_with fail
        refine bodyPost_ret (v := .tuple #[.agg #[.bool s, .int .i64 H.toInt, .int .i64 L.toInt, .int .i64 (b + 1)], .agg #[.bool s, .int .i64 X1.toInt, .int .i64 X2.toInt, .int .i64 (b + 1)], .bool true]) (by simp [results, Try.results30, go_sem, c0, c1, c2, c3, d0, d1, d2, d3]) rfl ⟨rfl, ?_⟩
        repeat (first | with_reducible exact hX | (with_reducible refine Below.drew ?_) | (with_reducible refine Below.alloc ?_ ?_ _; rotate_left; (focus (first | omega | (simp; omega) | (simp; done)))) | (with_reducible refine Below.setCell ?_ ?_ _; rotate_left; (focus (first | omega | (simp; omega) | (simp; done)))))

end Go.Proofs.Ytnlnigelecmobaa
namespace Go.Proofs.Ytnlnigelecmobaa
open Go.RowKit

theorem wd_le' (s : Bool) : wd s ≤ 128 := by cases s <;> decide

set_option maxHeartbeats 1000000 in
theorem spanOf_bad (s : Bool) (H L : BitVec 64) (b : Int) (hok : okB s H.toInt L.toInt = false) (w : World) :
    Calls Try.prog 18 #[.agg #[.bool s, .int .i64 H.toInt, .int .i64 L.toInt, .int .i64 b]] w fun e w' => e = .returned (.tuple #[.agg #[.bool false, .int .i64 0, .int .i64 0, .int .i64 0], .bool false]) ∧ Below w.heap.size w w' := by
  have HK : Hid (∀ w, _) := iAddrOk_any s H.toInt L.toInt
  rw [hok] at HK
  clear hok
  go_enter Try.func18, Try.ntmps18
  go_wp2_with fail
  first | (go_region_with ((go_at_call 39; refine (HK.out _).mono ?_; rintro e w1 ⟨rfl, hb1⟩; have hz1 := hb1.size; (try simp at hz1); (first | (refine ltk (w.heap.size) (w1.heap.size) ?_ ?_; (focus omega); intro f10) | skip); (first | (refine ltk (w.heap.size + 1) (w1.heap.size) ?_ ?_; (focus omega); intro f11) | skip); (first | (refine ltk (w.heap.size + 2) (w1.heap.size) ?_ ?_; (focus omega); intro f12) | skip); (refine olds_k (w.heap.size + 3) hb1 ?_ ?_; (focus (first | omega | (simp; omega) | (simp; done))); intro hc1 hf1)))) | fail
  all_goals
    go_wp2_with fail
    refine bodyPost_ret (v := .tuple #[.agg #[.bool false, .int .i64 0, .int .i64 0, .int .i64 0], .bool false]) (by simp [results, Try.results18, go_sem, hc1]) rfl ⟨rfl, ?_⟩
    repeat (first | with_reducible exact Below.refl _ _ | (with_reducible refine Below.drew ?_) | (with_reducible refine Below.alloc ?_ ?_ _; rotate_left; (focus (first | omega | (simp; omega) | (simp; done)))) | (with_reducible refine Below.setCell ?_ ?_ _; rotate_left; (focus (first | omega | (simp; omega) | (simp; done)))) | (with_reducible refine Below.trans ?_ (hb1.mono ?_); rotate_left; (focus (first | omega | (simp; omega) | (simp; done)))))

set_option maxHeartbeats 1000000 in
theorem spanOf_neg (s : Bool) (H L : BitVec 64) (b : Int) (hok : okB s H.toInt L.toInt = true) (hb : b < 0) (w : World) :
    Calls Try.prog 18 #[.agg #[.bool s, .int .i64 H.toInt, .int .i64 L.toInt, .int .i64 b]] w fun e w' => e = .returned (.tuple #[.agg #[.bool false, .int .i64 0, .int .i64 0, .int .i64 0], .bool false]) ∧ Below w.heap.size w w' := by
  have HK : Hid (∀ w, _) := iAddrOk_any s H.toInt L.toInt
  rw [hok] at HK
  clear hok
  go_enter Try.func18, Try.ntmps18
  go_wp2_with fail
  first | (go_region_with ((go_at_call 39; refine (HK.out _).mono ?_; rintro e w1 ⟨rfl, hb1⟩; have hz1 := hb1.size; (try simp at hz1); (first | (refine ltk (w.heap.size) (w1.heap.size) ?_ ?_; (focus omega); intro f10) | skip); (first | (refine ltk (w.heap.size + 1) (w1.heap.size) ?_ ?_; (focus omega); intro f11) | skip); (first | (refine ltk (w.heap.size + 2) (w1.heap.size) ?_ ?_; (focus omega); intro f12) | skip); (refine olds_k (w.heap.size + 3) hb1 ?_ ?_; (focus (first | omega | (simp; omega) | (simp; done))); intro hc1 hf1)))) | fail
  all_goals
    go_wp2_with fail
    refine bodyPost_ret (v := .tuple #[.agg #[.bool false, .int .i64 0, .int .i64 0, .int .i64 0], .bool false]) (by simp [results, Try.results18, go_sem, hc1]) rfl ⟨rfl, ?_⟩
    repeat (first | with_reducible exact Below.refl _ _ | (with_reducible refine Below.drew ?_) | (with_reducible refine Below.alloc ?_ ?_ _; rotate_left; (focus (first | omega | (simp; omega) | (simp; done)))) | (with_reducible refine Below.setCell ?_ ?_ _; rotate_left; (focus (first | omega | (simp; omega) | (simp; done)))) | (with_reducible refine Below.trans ?_ (hb1.mono ?_); rotate_left; (focus (first | omega | (simp; omega) | (simp; done)))))

set_option maxHeartbeats 1000000 in
theorem spanOf_big (s : Bool) (H L : BitVec 64) (b : Int) (hok : okB s H.toInt L.toInt = true) (hb : 0 ≤ b) (hg : (wd s : Int) < b) (w : World) :
    Calls Try.prog 18 #[.agg #[.bool s, .int .i64 H.toInt, .int .i64 L.toInt, .int .i64 b]] w fun e w' => e = .returned (.tuple #[.agg #[.bool false, .int .i64 0, .int .i64 0, .int .i64 0], .bool false]) ∧ Below w.heap.size w w' := by
  have HK : Hid (∀ w, _) := iAddrOk_any s H.toInt L.toInt
  rw [hok] at HK
  clear hok
  go_enter Try.func18, Try.ntmps18
  go_wp2_with fail
  first | (go_region_with (first | (go_at_call 39; refine (HK.out _).mono ?_; rintro e w1 ⟨rfl, hb1⟩; have hz1 := hb1.size; (try simp at hz1); (first | (refine ltk (w.heap.size) (w1.heap.size) ?_ ?_; (focus omega); intro f10) | skip); (first | (refine ltk (w.heap.size + 1) (w1.heap.size) ?_ ?_; (focus omega); intro f11) | skip); (first | (refine ltk (w.heap.size + 2) (w1.heap.size) ?_ ?_; (focus omega); intro f12) | skip); (refine olds_k (w.heap.size + 3) hb1 ?_ ?_; (focus (first | omega | (simp; omega) | (simp; done))); intro hc1 hf1)) | (go_at_call 32; refine (width_any s H.toInt L.toInt _).mono ?_; rintro e w2 ⟨rfl, hb2⟩; have hz2 := hb2.size; (try simp at hz2); (first | (refine ltk (w.heap.size) (w2.heap.size) ?_ ?_; (focus omega); intro f20) | skip); (first | (refine ltk (w.heap.size + 1) (w2.heap.size) ?_ ?_; (focus omega); intro f21) | skip); (first | (refine ltk (w.heap.size + 2) (w2.heap.size) ?_ ?_; (focus omega); intro f22) | skip); (refine olds_k (w.heap.size + 3) hb2 ?_ ?_; (focus (first | omega | (simp; omega) | (simp; done))); intro hc2 hf2)))) | fail
  all_goals
    go_wp2_with fail
    refine bodyPost_ret (v := .tuple #[.agg #[.bool false, .int .i64 0, .int .i64 0, .int .i64 0], .bool false]) (by simp [results, Try.results18, go_sem, hc1, hc2]) rfl ⟨rfl, ?_⟩
    repeat (first | with_reducible exact Below.refl _ _ | (with_reducible refine Below.drew ?_) | (with_reducible refine Below.alloc ?_ ?_ _; rotate_left; (focus (first | omega | (simp; omega) | (simp; done)))) | (with_reducible refine Below.setCell ?_ ?_ _; rotate_left; (focus (first | omega | (simp; omega) | (simp; done)))) | (with_reducible refine Below.trans ?_ (hb2.mono ?_); rotate_left; (focus (first | omega | (simp; omega) | (simp; done)))) | (with_reducible refine Below.trans ?_ (hb1.mono ?_); rotate_left; (focus (first | omega | (simp; omega) | (simp; done)))))

end Go.Proofs.Ytnlnigelecmobaa
namespace Go.Proofs.Ytnlnigelecmobaa
open Go.RowKit

set_option maxHeartbeats 1000000 in
theorem spanOf_ok (s : Bool) (H L : BitVec 64) (b : Int) (n : Nat) (hn : n ≤ 128) (hok : okB s H.toInt L.toInt = true) (hb0 : 0 ≤ b) (hbw : b ≤ (wd s : Int)) (hsub : IntKind.i64.wrap ((wd s : Int) - b) = (n : Int)) (hh : hasB s H L n s H L = true) (w : World) :
    Calls Try.prog 18 #[.agg #[.bool s, .int .i64 H.toInt, .int .i64 L.toInt, .int .i64 b]] w fun e w' => e = .returned (.tuple #[.agg #[.bool s, .int .i64 H.toInt, .int .i64 L.toInt, .int .i64 n], .bool true]) ∧ Below w.heap.size w w' := by
  have HH : Hid (∀ w, _) := has_any s H L n hn s H L
  rw [hh] at HH
  clear hh
  have HK : Hid (∀ w, _) := iAddrOk_any s H.toInt L.toInt
  rw [hok] at HK
  clear hok
  have d1 : decide (b < 0) = false := decide_eq_false (by omega)
  have d2 : decide ((wd s : Int) < b) = false := decide_eq_false (by omega)
  go_enter Try.func18, Try.ntmps18
  go_upto_region 2 with fail
  go_cut [24] (fun t24 wc => t24 = .bool false ∧ Below (w.heap.size + 3) (((w.alloc (.cells #[.bool s, .int .i64 H.toInt, .int .i64 L.toInt, .int .i64 b] 27)).alloc (.cells #[.bool false, .int .i64 0, .int .i64 0, .int .i64 0] 46)).alloc (.cells #[.bool s, .int .i64 H.toInt, .int .i64 L.toInt, .int .i64 0] 46)) wc ∧ Below w.heap.size w wc)
  case first =>
    first | (go_region_with (first | (go_at_call 39; refine (HK.out _).mono ?_; rintro e w1 ⟨rfl, hb1⟩; have hz1 := hb1.size; (try simp at hz1); (first | (refine ltk (w.heap.size) (w1.heap.size) ?_ ?_; (focus omega); intro f10) | skip); (first | (refine ltk (w.heap.size + 1) (w1.heap.size) ?_ ?_; (focus omega); intro f11) | skip); (first | (refine ltk (w.heap.size + 2) (w1.heap.size) ?_ ?_; (focus omega); intro f12) | skip); (refine olds_k (w.heap.size + 3) hb1 ?_ ?_; (focus (first | omega | (simp; omega) | (simp; done))); intro hc1 hf1)) | (go_at_call 32; refine (width_any s H.toInt L.toInt _).mono ?_; rintro e w2 ⟨rfl, hb2⟩; have hz2 := hb2.size; (try simp at hz2); (first | (refine ltk (w.heap.size) (w2.heap.size) ?_ ?_; (focus omega); intro f20) | skip); (first | (refine ltk (w.heap.size + 1) (w2.heap.size) ?_ ?_; (focus omega); intro f21) | skip); (first | (refine ltk (w.heap.size + 2) (w2.heap.size) ?_ ?_; (focus omega); intro f22) | skip); (refine olds_k (w.heap.size + 3) hb2 ?_ ?_; (focus (first | omega | (simp; omega) | (simp; done))); intro hc2 hf2)))) | fail
    all_goals
      go_wp2_with fail
      go_meet
      refine ⟨rfl, ?_, ?_⟩
      · repeat (first | with_reducible exact Below.refl _ _ | (with_reducible refine Below.drew ?_) | (with_reducible refine Below.alloc ?_ ?_ _; rotate_left; (focus (first | omega | (simp; omega) | (simp; done)))) | (with_reducible refine Below.setCell ?_ ?_ _; rotate_left; (focus (first | omega | (simp; omega) | (simp; done)))) | (with_reducible refine Below.trans ?_ (hb2.mono ?_); rotate_left; (focus (first | omega | (simp; omega) | (simp; done)))) | (with_reducible refine Below.trans ?_ (hb1.mono ?_); rotate_left; (focus (first | omega | (simp; omega) | (simp; done)))))
      · repeat (first | with_reducible exact Below.refl _ _ | (with_reducible refine Below.drew ?_) | (with_reducible refine Below.alloc ?_ ?_ _; rotate_left; (focus (first | omega | (simp; omega) | (simp; done)))) | (with_reducible refine Below.setCell ?_ ?_ _; rotate_left; (focus (first | omega | (simp; omega) | (simp; done)))) | (with_reducible refine Below.trans ?_ (hb2.mono ?_); rotate_left; (focus (first | omega | (simp; omega) | (simp; done)))) | (with_reducible refine Below.trans ?_ (hb1.mono ?_); rotate_left; (focus (first | omega | (simp; omega) | (simp; done)))))
  case rest =>
    obtain ⟨rfl, hB, hW⟩ := hcut
    rename_i wc
    have hzc := hB.size
    simp at hzc
    have y0 : w.heap.size < wc.heap.size := by omega
    have y1 : w.heap.size + 1 < wc.heap.size := by omega
    have y2 : w.heap.size + 2 < wc.heap.size := by omega
    obtain ⟨hc, hf⟩ := olds hB
    go_upto_region 4 with fail
    go_cut [] (fun wd4 => w.heap.size + 2 < wd4.heap.size ∧ wd4.cell? ⟨w.heap.size, 0, none⟩ = some (.bool s) ∧ wd4.cell? ⟨w.heap.size, 1, none⟩ = some (.int .i64 H.toInt) ∧ wd4.cell? ⟨w.heap.size, 2, none⟩ = some (.int .i64 L.toInt) ∧ wd4.cell? ⟨w.heap.size + 2, 0, none⟩ = some (.bool s) ∧ wd4.cell? ⟨w.heap.size + 2, 1, none⟩ = some (.int .i64 H.toInt) ∧ wd4.cell? ⟨w.heap.size + 2, 2, none⟩ = some (.int .i64 L.toInt) ∧ wd4.cell? ⟨w.heap.size + 2, 3, none⟩ = some (.int .i64 n) ∧ wd4.cell? ⟨w.heap.size + 1, 0, none⟩ = some (.bool false) ∧ wd4.cell? ⟨w.heap.size + 1, 1, none⟩ = some (.int .i64 0) ∧ wd4.cell? ⟨w.heap.size + 1, 2, none⟩ = some (.int .i64 0) ∧ wd4.cell? ⟨w.heap.size + 1, 3, none⟩ = some (.int .i64 0) ∧ wd4.frozen? ⟨w.heap.size + 1, 0, none⟩ = false ∧ wd4.frozen? ⟨w.heap.size + 1, 1, none⟩ = false ∧ wd4.frozen? ⟨w.heap.size + 1, 2, none⟩ = false ∧ wd4.frozen? ⟨w.heap.size + 1, 3, none⟩ = false ∧ Below w.heap.size w wd4)
    case first =>
      first | (go_region_with ((go_at_call 32; refine (width_any s H.toInt L.toInt _).mono ?_; rintro e w3 ⟨rfl, hb3⟩; have hz3 := hb3.size; (try simp at hz3); (first | (refine ltk (w.heap.size) (w3.heap.size) ?_ ?_; (focus omega); intro f30) | skip); (first | (refine ltk (w.heap.size + 1) (w3.heap.size) ?_ ?_; (focus omega); intro f31) | skip); (first | (refine ltk (w.heap.size + 2) (w3.heap.size) ?_ ?_; (focus omega); intro f32) | skip); (refine olds_k (w.heap.size + 3) hb3 ?_ ?_; (focus (first | omega | (simp; omega) | (simp; done))); intro hc3 hf3)))) | fail
      all_goals
        go_wp2_with fail
        go_meet
        refine ⟨?_, ?_, ?_, ?_, ?_, ?_, ?_, ?_, ?_, ?_, ?_, ?_, ?_, ?_, ?_, ?_, ?_⟩
        all_goals try (go_simp; done)
        repeat (first | with_reducible exact hW | (with_reducible refine Below.drew ?_) | (with_reducible refine Below.alloc ?_ ?_ _; rotate_left; (focus (first | omega | (simp; omega) | (simp; done)))) | (with_reducible refine Below.setCell ?_ ?_ _; rotate_left; (focus (first | omega | (simp; omega) | (simp; done)))) | (with_reducible refine Below.trans ?_ (hb3.mono ?_); rotate_left; (focus (first | omega | (simp; omega) | (simp; done)))))
    case rest =>
      obtain ⟨x0, p0, p1, p2, q0, q1, q2, q3, r0, r1, r2, r3, g0, g1, g2, g3, hV⟩ := hcut
      clear hc hf hB hW
      have x1 := Nat.lt_of_succ_lt x0
      go_wp2_with fail
      refine (HH.out _).mono ?_
      rintro e w4 ⟨rfl, hb4⟩
      have hz4 := hb4.size
      try simp at hz4
      have f40 : w.heap.size < w4.heap.size := by omega
      have f41 : w.heap.size + 1 < w4.heap.size := by omega
      have f42 : w.heap.size + 2 < w4.heap.size := by omega
      refine olds_k (w.heap.size + 3) hb4 ?_ ?_
      · first | omega | (simp; omega) | (simp; done)
      intro hc4 hf4
      go_wp2_with fail
      refine bodyPost_ret (v := .tuple #[.agg #[.bool s, .int .i64 H.toInt, .int .i64 L.toInt, .int .i64 n], .bool true]) (by simp [results, Try.results18, go_sem, hc4, r0, r1, r2, r3]) rfl ⟨rfl, ?_⟩
      repeat (first | with_reducible exact hV | (with_reducible refine Below.drew ?_) | (with_reducible refine Below.alloc ?_ ?_ _; rotate_left; (focus (first | omega | (simp; omega) | (simp; done)))) | (with_reducible refine Below.setCell ?_ ?_ _; rotate_left; (focus (first | omega | (simp; omega) | (simp; done)))) | (with_reducible refine Below.trans ?_ (hb4.mono ?_); rotate_left; (focus (first | omega | (simp; omega) | (simp; done)))))

set_option maxHeartbeats 1000000 in
theorem spanOf_off (s : Bool) (H L : BitVec 64) (b : Int) (n : Nat) (hn : n ≤ 128) (hok : okB s H.toInt L.toInt = true) (hb0 : 0 ≤ b) (hbw : b ≤ (wd s : Int)) (hsub : IntKind.i64.wrap ((wd s : Int) - b) = (n : Int)) (hh : hasB s H L n s H L = false) (w : World) :
    Calls Try.prog 18 #[.agg #[.bool s, .int .i64 H.toInt, .int .i64 L.toInt, .int .i64 b]] w fun e w' => e = .returned (.tuple #[.agg #[.bool false, .int .i64 0, .int .i64 0, .int .i64 0], .bool false]) ∧ Below w.heap.size w w' := by
  have HH : Hid (∀ w, _) := has_any s H L n hn s H L
  rw [hh] at HH
  clear hh
  have HK : Hid (∀ w, _) := iAddrOk_any s H.toInt L.toInt
  rw [hok] at HK
  clear hok
  have d1 : decide (b < 0) = false := decide_eq_false (by omega)
  have d2 : decide ((wd s : Int) < b) = false := decide_eq_false (by omega)
  go_enter Try.func18, Try.ntmps18
  go_upto_region 2 with fail
  go_cut [24] (fun t24 wc => t24 = .bool false ∧ Below (w.heap.size + 3) (((w.alloc (.cells #[.bool s, .int .i64 H.toInt, .int .i64 L.toInt, .int .i64 b] 27)).alloc (.cells #[.bool false, .int .i64 0, .int .i64 0, .int .i64 0] 46)).alloc (.cells #[.bool s, .int .i64 H.toInt, .int .i64 L.toInt, .int .i64 0] 46)) wc ∧ Below w.heap.size w wc)
  case first =>
    first | (go_region_with (first | (go_at_call 39; refine (HK.out _).mono ?_; rintro e w1 ⟨rfl, hb1⟩; have hz1 := hb1.size; (try simp at hz1); (first | (refine ltk (w.heap.size) (w1.heap.size) ?_ ?_; (focus omega); intro f10) | skip); (first | (refine ltk (w.heap.size + 1) (w1.heap.size) ?_ ?_; (focus omega); intro f11) | skip); (first | (refine ltk (w.heap.size + 2) (w1.heap.size) ?_ ?_; (focus omega); intro f12) | skip); (refine olds_k (w.heap.size + 3) hb1 ?_ ?_; (focus (first | omega | (simp; omega) | (simp; done))); intro hc1 hf1)) | (go_at_call 32; refine (width_any s H.toInt L.toInt _).mono ?_; rintro e w2 ⟨rfl, hb2⟩; have hz2 := hb2.size; (try simp at hz2); (first | (refine ltk (w.heap.size) (w2.heap.size) ?_ ?_; (focus omega); intro f20) | skip); (first | (refine ltk (w.heap.size + 1) (w2.heap.size) ?_ ?_; (focus omega); intro f21) | skip); (first | (refine ltk (w.heap.size + 2) (w2.heap.size) ?_ ?_; (focus omega); intro f22) | skip); (refine olds_k (w.heap.size + 3) hb2 ?_ ?_; (focus (first | omega | (simp; omega) | (simp; done))); intro hc2 hf2)))) | fail
    all_goals
      go_wp2_with fail
      go_meet
      refine ⟨rfl, ?_, ?_⟩
      · repeat (first | with_reducible exact Below.refl _ _ | (with_reducible refine Below.drew ?_) | (with_reducible refine Below.alloc ?_ ?_ _; rotate_left; (focus (first | omega | (simp; omega) | (simp; done)))) | (with_reducible refine Below.setCell ?_ ?_ _; rotate_left; (focus (first | omega | (simp; omega) | (simp; done)))) | (with_reducible refine Below.trans ?_ (hb2.mono ?_); rotate_left; (focus (first | omega | (simp; omega) | (simp; done)))) | (with_reducible refine Below.trans ?_ (hb1.mono ?_); rotate_left; (focus (first | omega | (simp; omega) | (simp; done)))))
      · repeat (first | with_reducible exact Below.refl _ _ | (with_reducible refine Below.drew ?_) | (with_reducible refine Below.alloc ?_ ?_ _; rotate_left; (focus (first | omega | (simp; omega) | (simp; done)))) | (with_reducible refine Below.setCell ?_ ?_ _; rotate_left; (focus (first | omega | (simp; omega) | (simp; done)))) | (with_reducible refine Below.trans ?_ (hb2.mono ?_); rotate_left; (focus (first | omega | (simp; omega) | (simp; done)))) | (with_reducible refine Below.trans ?_ (hb1.mono ?_); rotate_left; (focus (first | omega | (simp; omega) | (simp; done)))))
  case rest =>
    obtain ⟨rfl, hB, hW⟩ := hcut
    rename_i wc
    have hzc := hB.size
    simp at hzc
    have y0 : w.heap.size < wc.heap.size := by omega
    have y1 : w.heap.size + 1 < wc.heap.size := by omega
    have y2 : w.heap.size + 2 < wc.heap.size := by omega
    obtain ⟨hc, hf⟩ := olds hB
    go_upto_region 4 with fail
    go_cut [] (fun wd4 => w.heap.size + 2 < wd4.heap.size ∧ wd4.cell? ⟨w.heap.size, 0, none⟩ = some (.bool s) ∧ wd4.cell? ⟨w.heap.size, 1, none⟩ = some (.int .i64 H.toInt) ∧ wd4.cell? ⟨w.heap.size, 2, none⟩ = some (.int .i64 L.toInt) ∧ wd4.cell? ⟨w.heap.size + 2, 0, none⟩ = some (.bool s) ∧ wd4.cell? ⟨w.heap.size + 2, 1, none⟩ = some (.int .i64 H.toInt) ∧ wd4.cell? ⟨w.heap.size + 2, 2, none⟩ = some (.int .i64 L.toInt) ∧ wd4.cell? ⟨w.heap.size + 2, 3, none⟩ = some (.int .i64 n) ∧ wd4.cell? ⟨w.heap.size + 1, 0, none⟩ = some (.bool false) ∧ wd4.cell? ⟨w.heap.size + 1, 1, none⟩ = some (.int .i64 0) ∧ wd4.cell? ⟨w.heap.size + 1, 2, none⟩ = some (.int .i64 0) ∧ wd4.cell? ⟨w.heap.size + 1, 3, none⟩ = some (.int .i64 0) ∧ wd4.frozen? ⟨w.heap.size + 1, 0, none⟩ = false ∧ wd4.frozen? ⟨w.heap.size + 1, 1, none⟩ = false ∧ wd4.frozen? ⟨w.heap.size + 1, 2, none⟩ = false ∧ wd4.frozen? ⟨w.heap.size + 1, 3, none⟩ = false ∧ Below w.heap.size w wd4)
    case first =>
      first | (go_region_with ((go_at_call 32; refine (width_any s H.toInt L.toInt _).mono ?_; rintro e w3 ⟨rfl, hb3⟩; have hz3 := hb3.size; (try simp at hz3); (first | (refine ltk (w.heap.size) (w3.heap.size) ?_ ?_; (focus omega); intro f30) | skip); (first | (refine ltk (w.heap.size + 1) (w3.heap.size) ?_ ?_; (focus omega); intro f31) | skip); (first | (refine ltk (w.heap.size + 2) (w3.heap.size) ?_ ?_; (focus omega); intro f32) | skip); (refine olds_k (w.heap.size + 3) hb3 ?_ ?_; (focus (first | omega | (simp; omega) | (simp; done))); intro hc3 hf3)))) | fail
      all_goals
        go_wp2_with fail
        go_meet
        refine ⟨?_, ?_, ?_, ?_, ?_, ?_, ?_, ?_, ?_, ?_, ?_, ?_, ?_, ?_, ?_, ?_, ?_⟩
        all_goals try (go_simp; done)
        repeat (first | with_reducible exact hW | (with_reducible refine Below.drew ?_) | (with_reducible refine Below.alloc ?_ ?_ _; rotate_left; (focus (first | omega | (simp; omega) | (simp; done)))) | (with_reducible refine Below.setCell ?_ ?_ _; rotate_left; (focus (first | omega | (simp; omega) | (simp; done)))) | (with_reducible refine Below.trans ?_ (hb3.mono ?_); rotate_left; (focus (first | omega | (simp; omega) | (simp; done)))))
    case rest =>
      obtain ⟨x0, p0, p1, p2, q0, q1, q2, q3, r0, r1, r2, r3, g0, g1, g2, g3, hV⟩ := hcut
      clear hc hf hB hW
      have x1 := Nat.lt_of_succ_lt x0
      go_wp2_with fail
      refine (HH.out _).mono ?_
      rintro e w4 ⟨rfl, hb4⟩
      have hz4 := hb4.size
      try simp at hz4
      have f40 : w.heap.size < w4.heap.size := by omega
      have f41 : w.heap.size + 1 < w4.heap.size := by omega
      have f42 : w.heap.size + 2 < w4.heap.size := by omega
      refine olds_k (w.heap.size + 3) hb4 ?_ ?_
      · first | omega | (simp; omega) | (simp; done)
      intro hc4 hf4
      go_wp2_with fail
      refine bodyPost_ret (v := .tuple #[.agg #[.bool false, .int .i64 0, .int .i64 0, .int .i64 0], .bool false]) (by simp [results, Try.results18, go_sem, hc4, r0, r1, r2, r3]) rfl ⟨rfl, ?_⟩
      repeat (first | with_reducible exact hV | (with_reducible refine Below.drew ?_) | (with_reducible refine Below.alloc ?_ ?_ _; rotate_left; (focus (first | omega | (simp; omega) | (simp; done)))) | (with_reducible refine Below.setCell ?_ ?_ _; rotate_left; (focus (first | omega | (simp; omega) | (simp; done)))) | (with_reducible refine Below.trans ?_ (hb4.mono ?_); rotate_left; (focus (first | omega | (simp; omega) | (simp; done)))))

end Go.Proofs.Ytnlnigelecmobaa
namespace Go.Proofs.Ytnlnigelecmobaa
open Go.RowKit

theorem pokB_parts {s : Bool} {H L : BitVec 64} {b : Int} (hp : pokB s H L b = true) : okB s H.toInt L.toInt = true ∧ (0 ≤ b ∧ b ≤ (wd s : Int)) ∧ hasB s H L ((wd s : Int) - b).toNat s H L = true := by
  simp only [pokB, Bool.and_eq_true, decide_eq_true_eq] at hp
  exact hp
theorem wrapSub (s : Bool) (b : Int) (h : 0 ≤ b ∧ b ≤ (wd s : Int)) : IntKind.i64.wrap ((wd s : Int) - b) = ((((wd s : Int) - b).toNat : Nat) : Int) := by
  have := wd_le' s
  rw [← w64]; unfold wrap64; omega

theorem spanOf_yes (s : Bool) (H L : BitVec 64) (b : Int) (n : Nat) (hn : (n : Int) = (wd s : Int) - b) (hp : pokB s H L b = true) (w : World) :
    Calls Try.prog 18 #[.agg #[.bool s, .int .i64 H.toInt, .int .i64 L.toInt, .int .i64 b]] w fun e w' => e = .returned (.tuple #[.agg #[.bool s, .int .i64 H.toInt, .int .i64 L.toInt, .int .i64 n], .bool true]) ∧ Below w.heap.size w w' := by
  obtain ⟨hok, hb, hh⟩ := pokB_parts hp
  have e : ((wd s : Int) - b).toNat = n := by omega
  rw [e] at hh
  have := wd_le' s
  have hs := wrapSub s b hb
  rw [e] at hs
  exact spanOf_ok s H L b n (by omega) hok hb.1 hb.2 hs hh w

theorem spanOf_no (s : Bool) (H L : BitVec 64) (b : Int) (hp : pokB s H L b = false) (w : World) :
    Calls Try.prog 18 #[.agg #[.bool s, .int .i64 H.toInt, .int .i64 L.toInt, .int .i64 b]] w fun e w' => e = .returned (.tuple #[.agg #[.bool false, .int .i64 0, .int .i64 0, .int .i64 0], .bool false]) ∧ Below w.heap.size w w' := by
  cases hok : okB s H.toInt L.toInt
  · exact spanOf_bad s H L b hok w
  · by_cases h0 : b < 0
    · exact spanOf_neg s H L b hok h0 w
    · by_cases h1 : (wd s : Int) < b
      · exact spanOf_big s H L b hok (by omega) h1 w
      · have hb : 0 ≤ b ∧ b ≤ (wd s : Int) := by omega
        have hh : hasB s H L ((wd s : Int) - b).toNat s H L = false := by
          rw [pokB, hok, decide_eq_true hb] at hp
          simpa using hp
        have := wd_le' s
        exact spanOf_off s H L b _ (by omega) hok hb.1 hb.2 (wrapSub s b hb) hh w

end Go.Proofs.Ytnlnigelecmobaa
namespace Go.Proofs.Ytnlnigelecmobaa
open Go.RowKit

theorem seven_of_below {W X : World} {n b c : Nat} {v0 v1 v2 v3 u0 u1 u2 : Value} (hB : Below n W X) (hb : b < n) (hc : c < n)
    (k : W.cell? ⟨b, 0, none⟩ = some v0 ∧ W.cell? ⟨b, 1, none⟩ = some v1 ∧ W.cell? ⟨b, 2, none⟩ = some v2 ∧ W.cell? ⟨b, 3, none⟩ = some v3 ∧ W.cell? ⟨c, 0, none⟩ = some u0 ∧ W.cell? ⟨c, 1, none⟩ = some u1 ∧ W.cell? ⟨c, 2, none⟩ = some u2) :
    X.cell? ⟨b, 0, none⟩ = some v0 ∧ X.cell? ⟨b, 1, none⟩ = some v1 ∧ X.cell? ⟨b, 2, none⟩ = some v2 ∧ X.cell? ⟨b, 3, none⟩ = some v3 ∧ X.cell? ⟨c, 0, none⟩ = some u0 ∧ X.cell? ⟨c, 1, none⟩ = some u1 ∧ X.cell? ⟨c, 2, none⟩ = some u2 := by
  obtain ⟨k0, k1, k2, k3, k4, k5, k6⟩ := k
  exact ⟨(hB.cell hb).trans k0, (hB.cell hb).trans k1, (hB.cell hb).trans k2, (hB.cell hb).trans k3, (hB.cell hc).trans k4, (hB.cell hc).trans k5, (hB.cell hc).trans k6⟩

set_option maxHeartbeats 1000000 in
theorem sHasAddr_no (s : Bool) (H L : BitVec 64) (b : Int) (s' : Bool) (H' L' : BitVec 64) (hp : pokB s H L b = false) (w : World) :
    Calls Try.prog 53 #[.agg #[.bool s, .int .i64 H.toInt, .int .i64 L.toInt, .int .i64 b], .agg #[.bool s', .int .i64 H'.toInt, .int .i64 L'.toInt]] w fun e w' => e = .returned (.bool false) ∧ Below w.heap.size w w' := by
  have HP : Hid (∀ w, _) := sPrefixOk_any s H L b
  rw [hp] at HP
  clear hp
  go_enter Try.func53, Try.ntmps53
  go_wp2_with fail
  refine wp_region_held_drew (S := (fun x => x.cell? ⟨w.heap.size, 0, none⟩ = some (.bool s) ∧ x.cell? ⟨w.heap.size, 1, none⟩ = some (.int .i64 H.toInt) ∧ x.cell? ⟨w.heap.size, 2, none⟩ = some (.int .i64 L.toInt) ∧ x.cell? ⟨w.heap.size, 3, none⟩ = some (.int .i64 b) ∧ x.cell? ⟨w.heap.size + 1, 0, none⟩ = some (.bool s') ∧ x.cell? ⟨w.heap.size + 1, 1, none⟩ = some (.int .i64 H'.toInt) ∧ x.cell? ⟨w.heap.size + 1, 2, none⟩ = some (.int .i64 L'.toInt))) (by kernel_rfl) ?_ (fun hHeld => ?_)
  · try dsimp only
    (refine seven_of_below (W := (w.alloc (.cells #[.bool s, .int .i64 H.toInt, .int .i64 L.toInt, .int .i64 b] 27)).alloc (.cells #[.bool s', .int .i64 H'.toInt, .int .i64 L'.toInt] 25)) (n := w.heap.size + 2) ?_ (by omega) (by omega) ⟨by simp [go_sem], by simp [go_sem], by simp [go_sem], by simp [go_sem], by simp [go_sem], by simp [go_sem], by simp [go_sem]⟩; repeat (first | with_reducible exact Below.refl _ _ | (with_reducible refine Below.drew ?_) | (with_reducible refine Below.alloc ?_ ?_ _; rotate_left; (focus (first | omega | (simp; omega) | (simp; done)))) | (with_reducible refine Below.setCell ?_ ?_ _; rotate_left; (focus (first | omega | (simp; omega) | (simp; done))))))
  refine tk 0 5 rfl ?_; simp only [pa]
  refine wpAnyH_ready (rs := [1]) (by kernel_rfl) (by simp) ?_
  refine AllReadyH.cons rfl (fun K hK => ?_) AllReadyH.nil
  go_simp
  go_wp2_with ((go_at_call 33; refine (HP.out _).mono ?_; rintro e w1 ⟨rfl, hb1⟩; have hz1 := hb1.size; (try simp at hz1); (first | (refine ltk (w.heap.size) (w1.heap.size) ?_ ?_; (focus omega); intro f10) | skip); (first | (refine ltk (w.heap.size + 1) (w1.heap.size) ?_ ?_; (focus omega); intro f11) | skip); (refine olds_k (w.heap.size + 2) hb1 ?_ ?_; (focus (first | omega | (simp; omega) | (simp; done))); intro hc1 hf1)))
  refine hK.out _ _ ?_ (fun hHeld => ?_)
  · try dsimp only
    (refine seven_of_below (W := (w.alloc (.cells #[.bool s, .int .i64 H.toInt, .int .i64 L.toInt, .int .i64 b] 27)).alloc (.cells #[.bool s', .int .i64 H'.toInt, .int .i64 L'.toInt] 25)) (n := w.heap.size + 2) ?_ (by omega) (by omega) ⟨by simp [go_sem], by simp [go_sem], by simp [go_sem], by simp [go_sem], by simp [go_sem], by simp [go_sem], by simp [go_sem]⟩; repeat (first | with_reducible exact Below.refl _ _ | (with_reducible refine Below.drew ?_) | (with_reducible refine Below.alloc ?_ ?_ _; rotate_left; (focus (first | omega | (simp; omega) | (simp; done)))) | (with_reducible refine Below.setCell ?_ ?_ _; rotate_left; (focus (first | omega | (simp; omega) | (simp; done)))) | (with_reducible refine Below.trans ?_ (hb1.mono ?_); rotate_left; (focus (first | omega | (simp; omega) | (simp; done))))))
  clear hK K
  refine tk 2 7 rfl ?_; simp only [pa]
  refine sk 3 8 rfl ?_; simp only [pa]
  refine wpAnyH_ready (rs := [4]) (by kernel_rfl) (by simp) ?_
  refine AllReadyH.cons rfl (fun K hK => ?_) AllReadyH.nil
  go_simp
  refine hK.out _ _ ?_ (fun hHeld => ?_)
  · try dsimp only
    (refine seven_of_below (W := (w.alloc (.cells #[.bool s, .int .i64 H.toInt, .int .i64 L.toInt, .int .i64 b] 27)).alloc (.cells #[.bool s', .int .i64 H'.toInt, .int .i64 L'.toInt] 25)) (n := w.heap.size + 2) ?_ (by omega) (by omega) ⟨by simp [go_sem], by simp [go_sem], by simp [go_sem], by simp [go_sem], by simp [go_sem], by simp [go_sem], by simp [go_sem]⟩; repeat (first | with_reducible exact Below.refl _ _ | (with_reducible refine Below.drew ?_) | (with_reducible refine Below.alloc ?_ ?_ _; rotate_left; (focus (first | omega | (simp; omega) | (simp; done)))) | (with_reducible refine Below.setCell ?_ ?_ _; rotate_left; (focus (first | omega | (simp; omega) | (simp; done)))) | (with_reducible refine Below.trans ?_ (hb1.mono ?_); rotate_left; (focus (first | omega | (simp; omega) | (simp; done))))))
  clear hK K
  refine tk 5 10 rfl ?_; simp only [pa]
  refine tk 6 11 rfl ?_; simp only [pa]
  refine sk 7 12 rfl ?_; simp only [pa]
  refine sk 8 13 rfl ?_; simp only [pa]
  refine sk 9 14 rfl ?_; simp only [pa]
  refine sk 10 15 rfl ?_; simp only [pa]
  refine sk 11 16 rfl ?_; simp only [pa]
  refine sk 12 17 rfl ?_; simp only [pa]
  refine tk 13 18 rfl ?_; simp only [pa]
  refine tk 14 19 rfl ?_; simp only [pa]
  refine sk 15 20 rfl ?_; simp only [pa]
  refine sk 16 21 rfl ?_; simp only [pa]
  refine sk 17 22 rfl ?_; simp only [pa]
  refine sk 19 24 rfl ?_; simp only [pa]
  refine sk 20 25 rfl ?_; simp only [pa]
  refine wpAnyH_ready (rs := [18]) (by kernel_rfl) (by simp) ?_
  refine AllReadyH.cons rfl (fun K hK => ?_) AllReadyH.nil
  go_simp
  refine hK.out _ _ ?_ (fun hHeld => ?_)
  · try dsimp only
    (refine seven_of_below (W := (w.alloc (.cells #[.bool s, .int .i64 H.toInt, .int .i64 L.toInt, .int .i64 b] 27)).alloc (.cells #[.bool s', .int .i64 H'.toInt, .int .i64 L'.toInt] 25)) (n := w.heap.size + 2) ?_ (by omega) (by omega) ⟨by simp [go_sem], by simp [go_sem], by simp [go_sem], by simp [go_sem], by simp [go_sem], by simp [go_sem], by simp [go_sem]⟩; repeat (first | with_reducible exact Below.refl _ _ | (with_reducible refine Below.drew ?_) | (with_reducible refine Below.alloc ?_ ?_ _; rotate_left; (focus (first | omega | (simp; omega) | (simp; done)))) | (with_reducible refine Below.setCell ?_ ?_ _; rotate_left; (focus (first | omega | (simp; omega) | (simp; done)))) | (with_reducible refine Below.trans ?_ (hb1.mono ?_); rotate_left; (focus (first | omega | (simp; omega) | (simp; done))))))
  clear hK K
  refine sk 21 26 rfl ?_; simp only [pa]
  refine tk 22 27 rfl ?_; simp only [pa]
  refine tk 23 4 rfl ?_; simp only [pa]
  refine wpAnyH_done (by kernel_rfl) ?_ _
  go_wp2_with fail
  go_ret
  refine ⟨rfl, ?_⟩
  repeat (first | with_reducible exact Below.refl _ _ | (with_reducible refine Below.drew ?_) | (with_reducible refine Below.alloc ?_ ?_ _; rotate_left; (focus (first | omega | (simp; omega) | (simp; done)))) | (with_reducible refine Below.setCell ?_ ?_ _; rotate_left; (focus (first | omega | (simp; omega) | (simp; done)))) | (with_reducible refine Below.trans ?_ (hb1.mono ?_); rotate_left; (focus (first | omega | (simp; omega) | (simp; done)))))

set_option maxHeartbeats 1000000 in
theorem sHasAddr_bad (s : Bool) (H L : BitVec 64) (b : Int) (s' : Bool) (H' L' : BitVec 64) (hp : pokB s H L b = true) (hok : okB s' H'.toInt L'.toInt = false) (w : World) :
    Calls Try.prog 53 #[.agg #[.bool s, .int .i64 H.toInt, .int .i64 L.toInt, .int .i64 b], .agg #[.bool s', .int .i64 H'.toInt, .int .i64 L'.toInt]] w fun e w' => e = .returned (.bool false) ∧ Below w.heap.size w w' := by
  have HP : Hid (∀ w, _) := sPrefixOk_any s H L b
  rw [hp] at HP
  clear hp
  have HK : Hid (∀ w, _) := sAddrOk_any s' H'.toInt L'.toInt
  rw [hok] at HK
  clear hok
  go_enter Try.func53, Try.ntmps53
  go_wp2_with fail
  refine wp_region_held_drew (S := (fun x => x.cell? ⟨w.heap.size, 0, none⟩ = some (.bool s) ∧ x.cell? ⟨w.heap.size, 1, none⟩ = some (.int .i64 H.toInt) ∧ x.cell? ⟨w.heap.size, 2, none⟩ = some (.int .i64 L.toInt) ∧ x.cell? ⟨w.heap.size, 3, none⟩ = some (.int .i64 b) ∧ x.cell? ⟨w.heap.size + 1, 0, none⟩ = some (.bool s') ∧ x.cell? ⟨w.heap.size + 1, 1, none⟩ = some (.int .i64 H'.toInt) ∧ x.cell? ⟨w.heap.size + 1, 2, none⟩ = some (.int .i64 L'.toInt))) (by kernel_rfl) ?_ (fun hHeld => ?_)
  · try dsimp only
    (refine seven_of_below (W := (w.alloc (.cells #[.bool s, .int .i64 H.toInt, .int .i64 L.toInt, .int .i64 b] 27)).alloc (.cells #[.bool s', .int .i64 H'.toInt, .int .i64 L'.toInt] 25)) (n := w.heap.size + 2) ?_ (by omega) (by omega) ⟨by simp [go_sem], by simp [go_sem], by simp [go_sem], by simp [go_sem], by simp [go_sem], by simp [go_sem], by simp [go_sem]⟩; repeat (first | with_reducible exact Below.refl _ _ | (with_reducible refine Below.drew ?_) | (with_reducible refine Below.alloc ?_ ?_ _; rotate_left; (focus (first | omega | (simp; omega) | (simp; done)))) | (with_reducible refine Below.setCell ?_ ?_ _; rotate_left; (focus (first | omega | (simp; omega) | (simp; done))))))
  refine tk 0 5 rfl ?_; simp only [pa]
  refine wpAnyH_ready (rs := [1]) (by kernel_rfl) (by simp) ?_
  refine AllReadyH.cons rfl (fun K hK => ?_) AllReadyH.nil
  go_simp
  go_wp2_with ((go_at_call 33; refine (HP.out _).mono ?_; rintro e w1 ⟨rfl, hb1⟩; have hz1 := hb1.size; (try simp at hz1); (first | (refine ltk (w.heap.size) (w1.heap.size) ?_ ?_; (focus omega); intro f10) | skip); (first | (refine ltk (w.heap.size + 1) (w1.heap.size) ?_ ?_; (focus omega); intro f11) | skip); (refine olds_k (w.heap.size + 2) hb1 ?_ ?_; (focus (first | omega | (simp; omega) | (simp; done))); intro hc1 hf1)))
  refine hK.out _ _ ?_ (fun hHeld => ?_)
  · try dsimp only
    (refine seven_of_below (W := (w.alloc (.cells #[.bool s, .int .i64 H.toInt, .int .i64 L.toInt, .int .i64 b] 27)).alloc (.cells #[.bool s', .int .i64 H'.toInt, .int .i64 L'.toInt] 25)) (n := w.heap.size + 2) ?_ (by omega) (by omega) ⟨by simp [go_sem], by simp [go_sem], by simp [go_sem], by simp [go_sem], by simp [go_sem], by simp [go_sem], by simp [go_sem]⟩; repeat (first | with_reducible exact Below.refl _ _ | (with_reducible refine Below.drew ?_) | (with_reducible refine Below.alloc ?_ ?_ _; rotate_left; (focus (first | omega | (simp; omega) | (simp; done)))) | (with_reducible refine Below.setCell ?_ ?_ _; rotate_left; (focus (first | omega | (simp; omega) | (simp; done)))) | (with_reducible refine Below.trans ?_ (hb1.mono ?_); rotate_left; (focus (first | omega | (simp; omega) | (simp; done))))))
  clear hK K
  refine tk 2 7 rfl ?_; simp only [pa]
  refine tk 3 8 rfl ?_; simp only [pa]
  refine wpAnyH_ready (rs := [4]) (by kernel_rfl) (by simp) ?_
  refine AllReadyH.cons rfl (fun K hK => ?_) AllReadyH.nil
  go_simp
  go_wp2_with ((go_at_call 51; refine (HK.out _).mono ?_; rintro e w2 ⟨rfl, hb2⟩; have hz2 := hb2.size; (try simp at hz2); (first | (refine ltk (w.heap.size) (w2.heap.size) ?_ ?_; (focus omega); intro f20) | skip); (first | (refine ltk (w.heap.size + 1) (w2.heap.size) ?_ ?_; (focus omega); intro f21) | skip); (refine olds_k (w.heap.size + 2) hb2 ?_ ?_; (focus (first | omega | (simp; omega) | (simp; done))); intro hc2 hf2)))
  refine hK.out _ _ ?_ (fun hHeld => ?_)
  · try dsimp only
    (refine seven_of_below (W := (w.alloc (.cells #[.bool s, .int .i64 H.toInt, .int .i64 L.toInt, .int .i64 b] 27)).alloc (.cells #[.bool s', .int .i64 H'.toInt, .int .i64 L'.toInt] 25)) (n := w.heap.size + 2) ?_ (by omega) (by omega) ⟨by simp [go_sem], by simp [go_sem], by simp [go_sem], by simp [go_sem], by simp [go_sem], by simp [go_sem], by simp [go_sem]⟩; repeat (first | with_reducible exact Below.refl _ _ | (with_reducible refine Below.drew ?_) | (with_reducible refine Below.alloc ?_ ?_ _; rotate_left; (focus (first | omega | (simp; omega) | (simp; done)))) | (with_reducible refine Below.setCell ?_ ?_ _; rotate_left; (focus (first | omega | (simp; omega) | (simp; done)))) | (with_reducible refine Below.trans ?_ (hb2.mono ?_); rotate_left; (focus (first | omega | (simp; omega) | (simp; done)))) | (with_reducible refine Below.trans ?_ (hb1.mono ?_); rotate_left; (focus (first | omega | (simp; omega) | (simp; done))))))
  clear hK K
  refine tk 5 10 rfl ?_; simp only [pa]
  refine tk 6 11 rfl ?_; simp only [pa]
  refine sk 7 12 rfl ?_; simp only [pa]
  refine sk 8 13 rfl ?_; simp only [pa]
  refine sk 9 14 rfl ?_; simp only [pa]
  refine sk 10 15 rfl ?_; simp only [pa]
  refine sk 11 16 rfl ?_; simp only [pa]
  refine sk 12 17 rfl ?_; simp only [pa]
  refine tk 13 18 rfl ?_; simp only [pa]
  refine tk 14 19 rfl ?_; simp only [pa]
  refine sk 15 20 rfl ?_; simp only [pa]
  refine sk 16 21 rfl ?_; simp only [pa]
  refine sk 17 22 rfl ?_; simp only [pa]
  refine sk 19 24 rfl ?_; simp only [pa]
  refine sk 20 25 rfl ?_; simp only [pa]
  refine wpAnyH_ready (rs := [18]) (by kernel_rfl) (by simp) ?_
  refine AllReadyH.cons rfl (fun K hK => ?_) AllReadyH.nil
  go_simp
  refine hK.out _ _ ?_ (fun hHeld => ?_)
  · try dsimp only
    (refine seven_of_below (W := (w.alloc (.cells #[.bool s, .int .i64 H.toInt, .int .i64 L.toInt, .int .i64 b] 27)).alloc (.cells #[.bool s', .int .i64 H'.toInt, .int .i64 L'.toInt] 25)) (n := w.heap.size + 2) ?_ (by omega) (by omega) ⟨by simp [go_sem], by simp [go_sem], by simp [go_sem], by simp [go_sem], by simp [go_sem], by simp [go_sem], by simp [go_sem]⟩; repeat (first | with_reducible exact Below.refl _ _ | (with_reducible refine Below.drew ?_) | (with_reducible refine Below.alloc ?_ ?_ _; rotate_left; (focus (first | omega | (simp; omega) | (simp; done)))) | (with_reducible refine Below.setCell ?_ ?_ _; rotate_left; (focus (first | omega | (simp; omega) | (simp; done)))) | (with_reducible refine Below.trans ?_ (hb2.mono ?_); rotate_left; (focus (first | omega | (simp; omega) | (simp; done)))) | (with_reducible refine Below.trans ?_ (hb1.mono ?_); rotate_left; (focus (first | omega | (simp; omega) | (simp; done))))))
  clear hK K
  refine sk 21 26 rfl ?_; simp only [pa]
  refine tk 22 27 rfl ?_; simp only [pa]
  refine tk 23 4 rfl ?_; simp only [pa]
  refine wpAnyH_done (by kernel_rfl) ?_ _
  go_wp2_with fail
  go_ret
  refine ⟨rfl, ?_⟩
  repeat (first | with_reducible exact Below.refl _ _ | (with_reducible refine Below.drew ?_) | (with_reducible refine Below.alloc ?_ ?_ _; rotate_left; (focus (first | omega | (simp; omega) | (simp; done)))) | (with_reducible refine Below.setCell ?_ ?_ _; rotate_left; (focus (first | omega | (simp; omega) | (simp; done)))) | (with_reducible refine Below.trans ?_ (hb2.mono ?_); rotate_left; (focus (first | omega | (simp; omega) | (simp; done)))) | (with_reducible refine Below.trans ?_ (hb1.mono ?_); rotate_left; (focus (first | omega | (simp; omega) | (simp; done)))))

end Go.Proofs.Ytnlnigelecmobaa
