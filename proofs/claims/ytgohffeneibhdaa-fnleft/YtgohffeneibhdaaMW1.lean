/-
  The cursor that draws go by (a row of bytes, a place in it, a number that is mixed on), as memory holds it, and what a draw keeps: every old block but the cursor's own.
-/
import Derived.Test.YtgohffeneibhdaaAOk
import Derived.Deep.RegionHeld3
import Derived.RegionTactic
namespace Go.Proofs.Ytgohffeneibhdaa
open Go.RowKit

/-- Block c holds a cursor over the row (a, len, cap): its bytes are there, its place is within. -/
structure Cur (W : World) (c : Nat) (a : Option Addr) (len cap : Nat) : Prop where
  row : W.cell? ⟨c, 0, none⟩ = some (.slice a len cap)
  idx : ∃ i : Nat, i ≤ len ∧ W.cell? ⟨c, 1, none⟩ = some (.int .i64 i)
  mix : ∃ h : Int, W.cell? ⟨c, 2, none⟩ = some (.int .i64 h)
  fr1 : W.frozen? ⟨c, 1, none⟩ = false
  fr2 : W.frozen? ⟨c, 2, none⟩ = false
  byt : ∀ j, j < len → ∃ p o v, a = some ⟨p, o, none⟩ ∧ p < c ∧ W.cell? ⟨p, o + j, none⟩ = some (.int .u8 v) ∧ 0 ≤ v ∧ v < 256
  few : len ≤ 1048576

/-- What a draw keeps: what is older than block c as a whole, and every block but c. -/
structure Kp (c : Nat) (W X : World) : Prop where
  low : Below c W X
  big : W.heap.size ≤ X.heap.size
  cel : ∀ b o, b < W.heap.size → b ≠ c → X.cell? ⟨b, o, none⟩ = W.cell? ⟨b, o, none⟩
  frz : ∀ b o, b < W.heap.size → b ≠ c → X.frozen? ⟨b, o, none⟩ = W.frozen? ⟨b, o, none⟩
  blk : ∀ b, b < W.heap.size → b ≠ c → X.heap[b]? = W.heap[b]?

theorem Kp.refl (c : Nat) (W : World) : Kp c W W := ⟨Below.refl _ _, Nat.le_refl _, fun _ _ _ _ => rfl, fun _ _ _ _ => rfl, fun _ _ _ => rfl⟩
theorem Kp.trans {c : Nat} {W X Y : World} (h : Kp c W X) (k : Kp c X Y) : Kp c W Y :=
  ⟨h.low.trans k.low, Nat.le_trans h.big k.big, fun b o hb hc => (k.cel b o (Nat.lt_of_lt_of_le hb h.big) hc).trans (h.cel b o hb hc), fun b o hb hc => (k.frz b o (Nat.lt_of_lt_of_le hb h.big) hc).trans (h.frz b o hb hc), fun b hb hc => (k.blk b (Nat.lt_of_lt_of_le hb h.big) hc).trans (h.blk b hb hc)⟩
/-- What only makes memory keeps all. -/
theorem Kp.of_below {c : Nat} {W X : World} (hc : c < W.heap.size) (h : Below W.heap.size W X) : Kp c W X :=
  ⟨h.mono (Nat.le_of_lt hc), h.size, fun _ _ hb _ => h.cell hb, fun _ _ hb _ => h.frozen hb, fun b hb _ => h.block b hb⟩
theorem Cur.lt {W : World} {c : Nat} {a : Option Addr} {len cap : Nat} (h : Cur W c a len cap) : c < W.heap.size := World.block_lt_of_cell? W _ h.row
/-- The cursor lies as it did behind what turns neither it nor what is older. -/
theorem Cur.keep {W X : World} {c : Nat} {a : Option Addr} {len cap : Nat} (h : Cur W c a len cap) (k : Below (c + 1) W X) : Cur X c a len cap := by
  obtain ⟨i, hi, h1⟩ := h.idx
  obtain ⟨m, h2⟩ := h.mix
  refine ⟨(k.cell (Nat.lt_succ_self c)).trans h.row, ⟨i, hi, (k.cell (Nat.lt_succ_self c)).trans h1⟩, ⟨m, (k.cell (Nat.lt_succ_self c)).trans h2⟩, (k.frozen (Nat.lt_succ_self c)).trans h.fr1, (k.frozen (Nat.lt_succ_self c)).trans h.fr2, fun j hj => ?_, h.few⟩
  obtain ⟨p, o, v, ha, hp, hv, h0, h9⟩ := h.byt j hj
  exact ⟨p, o, v, ha, hp, (k.cell (Nat.lt_succ_of_lt hp)).trans hv, h0, h9⟩
theorem Cur.grew {W X : World} {c : Nat} {a : Option Addr} {len cap : Nat} (h : Cur W c a len cap) (k : Below W.heap.size W X) : Cur X c a len cap := h.keep (k.mono h.lt)

/-- A store into the cursor's second or third word. -/
theorem Cur.set1 {W : World} {c : Nat} {a : Option Addr} {len cap : Nat} (h : Cur W c a len cap) (z : Int) (i : Nat) (hz : z = (i : Int)) (hi : i ≤ len) : Cur (W.setCell ⟨c, 1, none⟩ (.int .i64 z)) c a len cap := by
  subst hz
  obtain ⟨i0, _, h1⟩ := h.idx
  obtain ⟨m, h2⟩ := h.mix
  refine ⟨?_, ⟨i, hi, ?_⟩, ⟨m, ?_⟩, ?_, ?_, fun j hj => ?_, h.few⟩
  · simp [go_sem, h.row]
  · simp [go_sem, h1]
  · simp [go_sem, h2]
  · simp [go_sem, h.fr1]
  · simp [go_sem, h.fr2]
  · obtain ⟨p, o, v, ha, hp, hv, h0, h9⟩ := h.byt j hj
    exact ⟨p, o, v, ha, hp, (World.cell?_setCell_far _ _ _ _ (by show c ≠ p; omega)).trans hv, h0, h9⟩
theorem Cur.set2 {W : World} {c : Nat} {a : Option Addr} {len cap : Nat} (h : Cur W c a len cap) (m : Int) : Cur (W.setCell ⟨c, 2, none⟩ (.int .i64 m)) c a len cap := by
  obtain ⟨i0, hi, h1⟩ := h.idx
  obtain ⟨m0, h2⟩ := h.mix
  refine ⟨?_, ⟨i0, hi, ?_⟩, ⟨m, ?_⟩, ?_, ?_, fun j hj => ?_, h.few⟩
  · simp [go_sem, h.row]
  · simp [go_sem, h1]
  · simp [go_sem, h2]
  · simp [go_sem, h.fr1]
  · simp [go_sem, h.fr2]
  · obtain ⟨p, o, v, ha, hp, hv, h0, h9⟩ := h.byt j hj
    exact ⟨p, o, v, ha, hp, (World.cell?_setCell_far _ _ _ _ (by show c ≠ p; omega)).trans hv, h0, h9⟩
theorem Cur.drew {W : World} {c : Nat} {a : Option Addr} {len cap : Nat} (h : Cur W c a len cap) : Cur W.drew c a len cap := h.grew (Below.refl _ W).drew
theorem Kp.drew (c : Nat) (W : World) : Kp c W W.drew := ⟨(Below.refl _ W).drew, by simp, fun _ _ _ _ => by simp [go_sem], fun _ _ _ _ => by simp [go_sem], fun _ _ _ => rfl⟩
theorem Kp.set (c : Nat) (W : World) (o : Nat) (v : Value) : Kp c W (W.setCell ⟨c, o, none⟩ v) :=
  ⟨(Below.refl _ W).setCell (by simp) _, by simp, fun b q _ hc => World.cell?_setCell_far _ _ _ _ (by show c ≠ b; omega), fun b q _ _ => by simp [go_sem], fun b _ hc => Below.heap_setCell W ⟨c, o, none⟩ v b hc⟩

end Go.Proofs.Ytgohffeneibhdaa

namespace Go.Proofs.Ytgohffeneibhdaa
open Go.RowKit

theorem and255 (x : Int) : 0 ≤ bits .and .i64 x 255 ∧ bits .and .i64 x 255 ≤ 255 := by
  have e : bits .and .i64 x 255 = IntKind.i64.wrap ((BitVec.ofInt 64 x &&& BitVec.ofInt 64 255).toNat : Int) := rfl
  have h : (BitVec.ofInt 64 x &&& BitVec.ofInt 64 255).toNat ≤ 255 := by
    rw [BitVec.toNat_and]
    exact Nat.le_trans Nat.and_le_right (by decide)
  rw [e, IntKind.wrap_i64]
  omega

set_option maxHeartbeats 1000000 in
theorem l1Byte_any (c : Nat) (a : Option Addr) (len cap : Nat) (W : World) (hC : Cur W c a len cap) :
    Calls Try.prog 58 #[.pointer (some ⟨c, 0, none⟩)] W fun e W' => (∃ x : Int, 0 ≤ x ∧ x ≤ 255 ∧ e = .returned (.int .i64 x)) ∧ Cur W' c a len cap ∧ Kp c W W' := by
  have HC : Hid (Cur W c a len cap) := hC
  obtain ⟨i, hi, c1⟩ := hC.idx
  obtain ⟨m, c2⟩ := hC.mix
  have c0 := hC.row
  have g1 := hC.fr1
  have g2 := hC.fr2
  have hl := hC.few
  by_cases hlt : i < len
  · obtain ⟨p, o, v, rfl, hp, cv, v0, v9⟩ := hC.byt i hlt
    have hne : c ≠ p := by omega
    clear hC
    go_enter Try.func58, Try.ntmps58
    go_wp2_with fail
    go_region
    all_goals
      go_wp2_with fail
      go_region
    all_goals
      go_wp2_with fail
      go_region
    all_goals
      go_wp2_with fail
      go_ret
      refine ⟨⟨_, (and255 _).1, (and255 _).2, rfl⟩, ?_, ?_⟩
      · repeat (first | with_reducible exact HC.out | with_reducible refine Cur.drew ?_ | with_reducible refine Cur.set2 ?_ _ | (with_reducible refine Cur.set1 ?_ _ (i + 1) (by omega) (by omega)))
      · repeat (first | with_reducible exact Kp.refl _ _ | (with_reducible refine Kp.trans ?_ (Kp.drew _ _)) | (with_reducible refine Kp.trans ?_ (Kp.set _ _ _ _)))
  · clear hC
    go_enter Try.func58, Try.ntmps58
    go_wp2_with fail
    go_region
    all_goals
      go_wp2_with fail
      go_region
    all_goals
      go_wp2_with fail
      go_ret
      refine ⟨⟨_, (and255 _).1, (and255 _).2, rfl⟩, ?_, ?_⟩
      · repeat (first | with_reducible exact HC.out | with_reducible refine Cur.drew ?_ | with_reducible refine Cur.set2 ?_ _)
      · repeat (first | with_reducible exact Kp.refl _ _ | (with_reducible refine Kp.trans ?_ (Kp.drew _ _)) | (with_reducible refine Kp.trans ?_ (Kp.set _ _ _ _)))

end Go.Proofs.Ytgohffeneibhdaa

namespace Go.Proofs.Ytgohffeneibhdaa
open Go.RowKit

set_option maxHeartbeats 1000000 in
theorem l1Below_any (c : Nat) (a : Option Addr) (len cap : Nat) (n : Int) (W : World) (hC : Cur W c a len cap) :
    Calls Try.prog 27 #[.pointer (some ⟨c, 0, none⟩), .int .i64 n] W fun e W' => (∃ x : Int, 0 ≤ x ∧ (0 < n → x < n) ∧ e = .returned (.int .i64 x)) ∧ Cur W' c a len cap ∧ Kp c W W' := by
  have HC : Hid (Cur W c a len cap) := hC
  clear hC
  by_cases h0 : n ≤ 0
  · go_enter Try.func27, Try.ntmps27
    go_wp2_with fail
    go_ret
    exact ⟨⟨0, Int.le_refl _, fun h => h, rfl⟩, HC.out, Kp.refl _ _⟩
  · by_cases h1 : n ≤ 256
    · go_enter Try.func27, Try.ntmps27
      go_wp2_with fail
      refine (l1Byte_any c a len cap _ HC.out).mono ?_
      rintro e W1 ⟨⟨x, x0, x9, rfl⟩, hC1, hK1⟩
      go_wp2_with fail
      go_ret
      exact ⟨⟨x % n, Int.emod_nonneg _ (by omega), fun _ => Int.emod_lt_of_pos _ (by omega), rfl⟩, hC1, hK1⟩
    · go_enter Try.func27, Try.ntmps27
      go_wp2_with fail
      refine (l1Byte_any c a len cap _ HC.out).mono ?_
      rintro e W1 ⟨⟨x, x0, x9, rfl⟩, hC1, hK1⟩
      have HC1 : Hid (Cur W1 c a len cap) := hC1
      have HK1 : Hid (Kp c W W1) := hK1
      clear hC1 hK1
      go_wp2_with fail
      refine (l1Byte_any c a len cap _ HC1.out).mono ?_
      rintro e W2 ⟨⟨y, y0, y9, rfl⟩, hC2, hK2⟩
      have HC2 : Hid (Cur W2 c a len cap) := hC2
      have HK2 : Hid (Kp c W1 W2) := hK2
      clear hC2 hK2
      go_wp2_with fail
      refine (l1Byte_any c a len cap _ HC2.out).mono ?_
      rintro e W3 ⟨⟨z, z0, z9, rfl⟩, hC3, hK3⟩
      go_wp2_with fail
      go_ret
      exact ⟨⟨_, Int.emod_nonneg _ (by omega), fun _ => Int.emod_lt_of_pos _ (by omega), rfl⟩, hC3, (HK1.out.trans HK2.out).trans hK3⟩

set_option maxHeartbeats 1000000 in
theorem l1Once_any (c : Nat) (a : Option Addr) (len cap : Nat) (n : Int) (W : World) (hC : Cur W c a len cap) :
    Calls Try.prog 26 #[.pointer (some ⟨c, 0, none⟩), .int .i64 n] W fun e W' => (∃ B : Bool, e = .returned (.bool B)) ∧ Cur W' c a len cap ∧ Kp c W W' := by
  have HC : Hid (Cur W c a len cap) := hC
  clear hC
  go_enter Try.func26, Try.ntmps26
  go_wp2_with fail
  refine (l1Below_any c a len cap n _ HC.out).mono ?_
  rintro e W1 ⟨⟨x, x0, x9, rfl⟩, hC1, hK1⟩
  go_wp2_with fail
  go_ret
  exact ⟨⟨_, rfl⟩, hC1, hK1⟩

/-- A number of the kind int. -/
def I64 (z : Int) : Prop := -9223372036854775808 ≤ z ∧ z ≤ 9223372036854775807

set_option maxHeartbeats 1000000 in
theorem l1Int_any (P : Int → Prop) (c : Nat) (a : Option Addr) (len cap : Nat) (q k : Nat) (W : World) (hC : Cur W c a len cap) (hk : 0 < k) (hk1 : k ≤ 100) (hq : q < W.heap.size) (hqc : q ≠ c) (hv : ∀ j, j < k → ∃ z, P z ∧ W.cell? ⟨q, j, none⟩ = some (.int .i64 z)) :
    Calls Try.prog 56 #[.pointer (some ⟨c, 0, none⟩), .slice (some ⟨q, 0, none⟩) k k] W fun e W' => (∃ z, P z ∧ e = .returned (.int .i64 z)) ∧ Cur W' c a len cap ∧ Kp c W W' := by
  have HC : Hid (Cur W c a len cap) := hC
  have HV : Hid (∀ j, j < k → ∃ z, P z ∧ W.cell? ⟨q, j, none⟩ = some (.int .i64 z)) := hv
  clear hC hv
  go_enter Try.func56, Try.ntmps56
  go_wp2_with fail
  refine (l1Below_any c a len cap k _ HC.out).mono ?_
  rintro e W1 ⟨⟨x, x0, x9, rfl⟩, hC1, hK1⟩
  obtain ⟨j, rfl⟩ : ∃ j : Nat, x = (j : Int) := ⟨x.toNat, by omega⟩
  have hj : j < k := by omega
  obtain ⟨z, hz, hc⟩ := HV.out j hj
  have cv : W1.cell? ⟨q, j, none⟩ = some (.int .i64 z) := (hK1.cel q j hq hqc).trans hc
  have HZ : Hid (P z) := hz
  have HK : Hid (Kp c W W1) := hK1
  have HC1 : Hid (Cur W1 c a len cap) := hC1
  clear hK1 hC1 x9 x0 hc hz
  go_wp2_with fail
  go_ret
  exact ⟨⟨z, HZ.out, rfl⟩, HC1.out, HK.out⟩

/-- The cursor behind a store into a newer block; what is kept behind new memory. -/
theorem Cur.far {W : World} {c : Nat} {a : Option Addr} {len cap : Nat} (h : Cur W c a len cap) {b o : Nat} (hb : c < b) (v : Value) : Cur (W.setCell ⟨b, o, none⟩ v) c a len cap :=
  h.keep ((Below.refl _ W).setCell (by show c + 1 ≤ b; omega) _)
theorem Cur.more {W : World} {c : Nat} {a : Option Addr} {len cap : Nat} (h : Cur W c a len cap) (x : Obj) : Cur (W.alloc x) c a len cap := h.grew ((Below.refl _ W).alloc (Nat.le_refl _) _)
theorem Kp.more {c : Nat} {W X : World} (h : Kp c W X) (hc : c < W.heap.size) (x : Obj) : Kp c W (X.alloc x) :=
  h.trans (Kp.of_below (Nat.lt_of_lt_of_le hc h.big) ((Below.refl _ X).alloc (Nat.le_refl _) _))
theorem Kp.setNew {c : Nat} {W X : World} (h : Kp c W X) (hc : c < W.heap.size) {b o : Nat} (hb : W.heap.size ≤ b) (v : Value) : Kp c W (X.setCell ⟨b, o, none⟩ v) :=
  ⟨h.low.setCell (by show c ≤ b; omega) _, by simpa using h.big, fun d q hd hq => (World.cell?_setCell_far _ _ _ _ (by show b ≠ d; omega)).trans (h.cel d q hd hq), fun d q hd hq => by simpa [go_sem] using h.frz d q hd hq, fun d hd hq => (Below.heap_setCell X ⟨b, o, none⟩ v d (by show d ≠ b; omega)).trans (h.blk d hd hq)⟩

end Go.Proofs.Ytgohffeneibhdaa

namespace Go.Proofs.Ytgohffeneibhdaa
open Go.RowKit

/-- The code's bytes, as memory holds them. -/
def Bytes (w : World) (a : Option Addr) (len : Nat) : Prop := ∀ j, j < len → ∃ p o v, a = some ⟨p, o, none⟩ ∧ p < w.heap.size ∧ w.cell? ⟨p, o + j, none⟩ = some (.int .u8 v) ∧ 0 ≤ v ∧ v < 256

set_option maxRecDepth 100000 in
set_option maxHeartbeats 1000000 in
theorem l1New_any (a : Option Addr) (len cap : Nat) (w : World) (hB : Bytes w a len) (hl : len ≤ 1048576) :
    Calls Try.prog 22 #[.slice a len cap] w fun e w' => e = .returned (.pointer (some ⟨w.heap.size, 0, none⟩)) ∧ Cur w' w.heap.size a len cap ∧ Below w.heap.size w w' ∧ w'.heap.size = w.heap.size + 1 := by
  have HB : Hid (Bytes w a len) := hB
  clear hB
  go_enter Try.func22, Try.ntmps22
  go_wp2
  go_loop [3, 4] (fun t3 t4 => ∃ (h : Int) (k : Nat), k ≤ len ∧ t3 = .int .i64 h ∧ t4 = .int .i64 k) (fun _ t4 => len - (intOf t4).toNat)
  case atStart => exact ⟨_, 0, Nat.zero_le _, rfl, rfl⟩
  case round =>
    obtain ⟨h, k, hk, rfl, rfl⟩ := hrel
    by_cases h1 : k < len
    · by_cases h2 : k < 4000
      · obtain ⟨p, o, v, rfl, hp, cv, v0, v9⟩ := HB.out k h1
        go_wp2
        go_round
        case rel => exact ⟨_, k + 1, by omega, rfl, by go_num⟩
        case measure => simp [intOf]; omega
      · go_wp2
        go_ret
        refine ⟨rfl, ⟨by simp [go_sem], ⟨0, Nat.zero_le _, by simp [go_sem]⟩, ⟨h, by simp [go_sem]⟩, by simp [go_sem], by simp [go_sem], fun j hj => ?_, hl⟩, (Below.refl _ w).alloc (Nat.le_refl _) _, by simp⟩
        obtain ⟨p, o, v, ha, hp, cv, v0, v9⟩ := HB.out j hj
        exact ⟨p, o, v, ha, hp, (((Below.refl _ w).alloc (Nat.le_refl _) _).cell hp).trans cv, v0, v9⟩
    · go_wp2
      go_ret
      refine ⟨rfl, ⟨by simp [go_sem], ⟨0, Nat.zero_le _, by simp [go_sem]⟩, ⟨h, by simp [go_sem]⟩, by simp [go_sem], by simp [go_sem], fun j hj => ?_, hl⟩, (Below.refl _ w).alloc (Nat.le_refl _) _, by simp⟩
      obtain ⟨p, o, v, ha, hp, cv, v0, v9⟩ := HB.out j hj
      exact ⟨p, o, v, ha, hp, (((Below.refl _ w).alloc (Nat.le_refl _) _).cell hp).trans cv, v0, v9⟩

end Go.Proofs.Ytgohffeneibhdaa
