/-
  The cursor that draws go by (a row of bytes, a place in it, a number that is mixed on), as memory holds it, and what a draw keeps: every old block but the cursor's own.
-/
import Derived.Test.YtnngbeoeocbofaaAOk
import Derived.Deep.RegionHeld3
namespace Go.Proofs.Ytnngbeoeocbofaa
open Go.RowKit

/-- Block c holds a cursor over the row (a, len, cap): its bytes are there, its place is within. -/
structure Cur (W : World) (c : Nat) (a : Option Addr) (len cap : Nat) : Prop where
  row : W.cell? ⟨c, 0, none⟩ = some (.slice a len cap)
  idx : ∃ i : Nat, i ≤ len ∧ W.cell? ⟨c, 1, none⟩ = some (.int .i64 i)
  mix : ∃ h : Int, W.cell? ⟨c, 2, none⟩ = some (.int .i64 h)
  fr1 : W.frozen? ⟨c, 1, none⟩ = false
  fr2 : W.frozen? ⟨c, 2, none⟩ = false
  byt : ∀ j, j < len → ∃ p o v, a = some ⟨p, o, none⟩ ∧ p < c ∧ W.cell? ⟨p, o + j, none⟩ = some (.int .u8 v) ∧ 0 ≤ v ∧ v < 256
  few : len ≤ 1048576

/-- What a draw keeps: what is older than block c as a whole, and every block but c. -/
structure Kp (c : Nat) (W X : World) : Prop where
  low : Below c W X
  big : W.heap.size ≤ X.heap.size
  cel : ∀ b o, b < W.heap.size → b ≠ c → X.cell? ⟨b, o, none⟩ = W.cell? ⟨b, o, none⟩
  frz : ∀ b o, b < W.heap.size → b ≠ c → X.frozen? ⟨b, o, none⟩ = W.frozen? ⟨b, o, none⟩
  blk : ∀ b, b < W.heap.size → b ≠ c → X.heap[b]? = W.heap[b]?

theorem Kp.refl (c : Nat) (W : World) : Kp c W W := ⟨Below.refl _ _, Nat.le_refl _, fun _ _ _ _ => rfl, fun _ _ _ _ => rfl, fun _ _ _ => rfl⟩
theorem Kp.trans {c : Nat} {W X Y : World} (h : Kp c W X) (k : Kp c X Y) : Kp c W Y :=
  ⟨h.low.trans k.low, Nat.le_trans h.big k.big, fun b o hb hc => (k.cel b o (Nat.lt_of_lt_of_le hb h.big) hc).trans (h.cel b o hb hc), fun b o hb hc => (k.frz b o (Nat.lt_of_lt_of_le hb h.big) hc).trans (h.frz b o hb hc), fun b hb hc => (k.blk b (Nat.lt_of_lt_of_le hb h.big) hc).trans (h.blk b hb hc)⟩
/-- What only makes memory keeps all. -/
theorem Kp.of_below {c : Nat} {W X : World} (hc : c < W.heap.size) (h : Below W.heap.size W X) : Kp c W X :=
  ⟨h.mono (Nat.le_of_lt hc), h.size, fun _ _ hb _ => h.cell hb, fun _ _ hb _ => h.frozen hb, fun b hb _ => h.block b hb⟩
theorem Cur.lt {W : World} {c : Nat} {a : Option Addr} {len cap : Nat} (h : Cur W c a len cap) : c < W.heap.size := World.block_lt_of_cell? W _ h.row
/-- The cursor lies as it did behind what turns neither it nor what is older. -/
theorem Cur.keep {W X : World} {c : Nat} {a : Option Addr} {len cap : Nat} (h : Cur W c a len cap) (k : Below (c + 1) W X) : Cur X c a len cap := by
  obtain ⟨i, hi, h1⟩ := h.idx
  obtain ⟨m, h2⟩ := h.mix
  refine ⟨(k.cell (Nat.lt_succ_self c)).trans h.row, ⟨i, hi, (k.cell (Nat.lt_succ_self c)).trans h1⟩, ⟨m, (k.cell (Nat.lt_succ_self c)).trans h2⟩, (k.frozen (Nat.lt_succ_self c)).trans h.fr1, (k.frozen (Nat.lt_succ_self c)).trans h.fr2, fun j hj => ?_, h.few⟩
  obtain ⟨p, o, v, ha, hp, hv, h0, h9⟩ := h.byt j hj
  exact ⟨p, o, v, ha, hp, (k.cell (Nat.lt_succ_of_lt hp)).trans hv, h0, h9⟩
theorem Cur.grew {W X : World} {c : Nat} {a : Option Addr} {len cap : Nat} (h : Cur W c a len cap) (k : Below W.heap.size W X) : Cur X c a len cap := h.keep (k.mono h.lt)

/-- A store into the cursor's second or third word. -/
theorem Cur.set1 {W : World} {c : Nat} {a : Option Addr} {len cap : Nat} (h : Cur W c a len cap) (z : Int) (i : Nat) (hz : z = (i : Int)) (hi : i ≤ len) : Cur (W.setCell ⟨c, 1, none⟩ (.int .i64 z)) c a len cap := by
  subst hz
  obtain ⟨i0, _, h1⟩ := h.idx
  obtain ⟨m, h2⟩ := h.mix
  refine ⟨?_, ⟨i, hi, ?_⟩, ⟨m, ?_⟩, ?_, ?_, fun j hj => ?_, h.few⟩
  · simp [go_sem, h.row]
  · simp [go_sem, h1]
  · simp [go_sem, h2]
  · simp [go_sem, h.fr1]
  · simp [go_sem, h.fr2]
  · obtain ⟨p, o, v, ha, hp, hv, h0, h9⟩ := h.byt j hj
    exact ⟨p, o, v, ha, hp, (World.cell?_setCell_far _ _ _ _ (by show c ≠ p; omega)).trans hv, h0, h9⟩
theorem Cur.set2 {W : World} {c : Nat} {a : Option Addr} {len cap : Nat} (h : Cur W c a len cap) (m : Int) : Cur (W.setCell ⟨c, 2, none⟩ (.int .i64 m)) c a len cap := by
  obtain ⟨i0, hi, h1⟩ := h.idx
  obtain ⟨m0, h2⟩ := h.mix
  refine ⟨?_, ⟨i0, hi, ?_⟩, ⟨m, ?_⟩, ?_, ?_, fun j hj => ?_, h.few⟩
  · simp [go_sem, h.row]
  · simp [go_sem, h1]
  · simp [go_sem, h2]
  · simp [go_sem, h.fr1]
  · simp [go_sem, h.fr2]
  · obtain ⟨p, o, v, ha, hp, hv, h0, h9⟩ := h.byt j hj
    exact ⟨p, o, v, ha, hp, (World.cell?_setCell_far _ _ _ _ (by show c ≠ p; omega)).trans hv, h0, h9⟩
theorem Cur.drew {W : World} {c : Nat} {a : Option Addr} {len cap : Nat} (h : Cur W c a len cap) : Cur W.drew c a len cap := h.grew (Below.refl _ W).drew
theorem Kp.drew (c : Nat) (W : World) : Kp c W W.drew := ⟨(Below.refl _ W).drew, by simp, fun _ _ _ _ => by simp [go_sem], fun _ _ _ _ => by simp [go_sem], fun _ _ _ => rfl⟩
theorem Kp.set (c : Nat) (W : World) (o : Nat) (v : Value) : Kp c W (W.setCell ⟨c, o, none⟩ v) :=
  ⟨(Below.refl _ W).setCell (by simp) _, by simp, fun b q _ hc => World.cell?_setCell_far _ _ _ _ (by show c ≠ b; omega), fun b q _ _ => by simp [go_sem], fun b _ hc => Below.heap_setCell W ⟨c, o, none⟩ v b hc⟩

end Go.Proofs.Ytnngbeoeocbofaa
