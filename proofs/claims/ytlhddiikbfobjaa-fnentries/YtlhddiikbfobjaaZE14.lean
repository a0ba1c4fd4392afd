/-
  The cursor that draws go by (a row of bytes, a place in it, a number that is mixed on), as memory holds it, and what a draw keeps: every old block but the cursor's own.
-/
import Derived.Test.YtlhddiikbfobjaaChecked
import GoSem.Claim
import GoSem.ClaimJoined
import GoSem.ClaimMapViews
import Derived.JoinedTies
import Derived.KernelRfl
import Derived.WalkKit
import Derived.WalkSpells
import Derived.WalkLawsBesides
import Derived.Test.YtlhddiikbfobjaaRows
import Derived.Deep.RegionHeld3
import Derived.RegionTactic
import Derived.Test.YtlhddiikbfobjaaZE13
import Derived.Test.YtlhddiikbfobjaaZE5
import Derived.Deep.QuietTactic
import Derived.BigQuiet
import Derived.Deep.AppendLies
import Derived.Test.YtlhddiikbfobjaaZE3
import Derived.Deep.AppendSrc
import Derived.Lib.AppendZeros
namespace Go.Proofs.Ytlhddiikbfobjaa
open Go.RowKit

/-- Block c holds a cursor over the row (a, len, cap): its bytes are there, its place is within. -/
structure Cur (W : World) (c : Nat) (a : Option Addr) (len cap : Nat) : Prop where
  row : W.cell? ⟨c, 0, none⟩ = some (.slice a len cap)
  idx : ∃ i : Nat, i ≤ len ∧ W.cell? ⟨c, 1, none⟩ = some (.int .i64 i)
  mix : ∃ h : Int, W.cell? ⟨c, 2, none⟩ = some (.int .i64 h)
  fr1 : W.frozen? ⟨c, 1, none⟩ = false
  fr2 : W.frozen? ⟨c, 2, none⟩ = false
  byt : ∀ j, j < len → ∃ p o v, a = some ⟨p, o, none⟩ ∧ p < c ∧ W.cell? ⟨p, o + j, none⟩ = some (.int .u8 v) ∧ 0 ≤ v ∧ v < 256
  few : len ≤ 1048576

/-- What a draw keeps: what is older than block c as a whole, and every block but c. -/
structure Kp (c : Nat) (W X : World) : Prop where
  low : Below c W X
  big : W.heap.size ≤ X.heap.size
  cel : ∀ b o, b < W.heap.size → b ≠ c → X.cell? ⟨b, o, none⟩ = W.cell? ⟨b, o, none⟩
  frz : ∀ b o, b < W.heap.size → b ≠ c → X.frozen? ⟨b, o, none⟩ = W.frozen? ⟨b, o, none⟩
  blk : ∀ b, b < W.heap.size → b ≠ c → X.heap[b]? = W.heap[b]?

theorem Kp.refl (c : Nat) (W : World) : Kp c W W := ⟨Below.refl _ _, Nat.le_refl _, fun _ _ _ _ => rfl, fun _ _ _ _ => rfl, fun _ _ _ => rfl⟩
theorem Kp.trans {c : Nat} {W X Y : World} (h : Kp c W X) (k : Kp c X Y) : Kp c W Y :=
  ⟨h.low.trans k.low, Nat.le_trans h.big k.big, fun b o hb hc => (k.cel b o (Nat.lt_of_lt_of_le hb h.big) hc).trans (h.cel b o hb hc), fun b o hb hc => (k.frz b o (Nat.lt_of_lt_of_le hb h.big) hc).trans (h.frz b o hb hc), fun b hb hc => (k.blk b (Nat.lt_of_lt_of_le hb h.big) hc).trans (h.blk b hb hc)⟩
/-- What only makes memory keeps all. -/
theorem Kp.of_below {c : Nat} {W X : World} (hc : c < W.heap.size) (h : Below W.heap.size W X) : Kp c W X :=
  ⟨h.mono (Nat.le_of_lt hc), h.size, fun _ _ hb _ => h.cell hb, fun _ _ hb _ => h.frozen hb, fun b hb _ => h.block b hb⟩
theorem Cur.lt {W : World} {c : Nat} {a : Option Addr} {len cap : Nat} (h : Cur W c a len cap) : c < W.heap.size := World.block_lt_of_cell? W _ h.row
/-- The cursor lies as it did behind what turns neither it nor what is older. -/
theorem Cur.keep {W X : World} {c : Nat} {a : Option Addr} {len cap : Nat} (h : Cur W c a len cap) (k : Below (c + 1) W X) : Cur X c a len cap := by
  obtain ⟨i, hi, h1⟩ := h.idx
  obtain ⟨m, h2⟩ := h.mix
  refine ⟨(k.cell (Nat.lt_succ_self c)).trans h.row, ⟨i, hi, (k.cell (Nat.lt_succ_self c)).trans h1⟩, ⟨m, (k.cell (Nat.lt_succ_self c)).trans h2⟩, (k.frozen (Nat.lt_succ_self c)).trans h.fr1, (k.frozen (Nat.lt_succ_self c)).trans h.fr2, fun j hj => ?_, h.few⟩
  obtain ⟨p, o, v, ha, hp, hv, h0, h9⟩ := h.byt j hj
  exact ⟨p, o, v, ha, hp, (k.cell (Nat.lt_succ_of_lt hp)).trans hv, h0, h9⟩
theorem Cur.grew {W X : World} {c : Nat} {a : Option Addr} {len cap : Nat} (h : Cur W c a len cap) (k : Below W.heap.size W X) : Cur X c a len cap := h.keep (k.mono h.lt)

/-- A store into the cursor's second or third word. -/
theorem Cur.set1 {W : World} {c : Nat} {a : Option Addr} {len cap : Nat} (h : Cur W c a len cap) (z : Int) (i : Nat) (hz : z = (i : Int)) (hi : i ≤ len) : Cur (W.setCell ⟨c, 1, none⟩ (.int .i64 z)) c a len cap := by
  subst hz
  obtain ⟨i0, _, h1⟩ := h.idx
  obtain ⟨m, h2⟩ := h.mix
  refine ⟨?_, ⟨i, hi, ?_⟩, ⟨m, ?_⟩, ?_, ?_, fun j hj => ?_, h.few⟩
  · simp [go_sem, h.row]
  · simp [go_sem, h1]
  · simp [go_sem, h2]
  · simp [go_sem, h.fr1]
  · simp [go_sem, h.fr2]
  · obtain ⟨p, o, v, ha, hp, hv, h0, h9⟩ := h.byt j hj
    exact ⟨p, o, v, ha, hp, (World.cell?_setCell_far _ _ _ _ (by show c ≠ p; omega)).trans hv, h0, h9⟩
theorem Cur.set2 {W : World} {c : Nat} {a : Option Addr} {len cap : Nat} (h : Cur W c a len cap) (m : Int) : Cur (W.setCell ⟨c, 2, none⟩ (.int .i64 m)) c a len cap := by
  obtain ⟨i0, hi, h1⟩ := h.idx
  obtain ⟨m0, h2⟩ := h.mix
  refine ⟨?_, ⟨i0, hi, ?_⟩, ⟨m, ?_⟩, ?_, ?_, fun j hj => ?_, h.few⟩
  · simp [go_sem, h.row]
  · simp [go_sem, h1]
  · simp [go_sem, h2]
  · simp [go_sem, h.fr1]
  · simp [go_sem, h.fr2]
  · obtain ⟨p, o, v, ha, hp, hv, h0, h9⟩ := h.byt j hj
    exact ⟨p, o, v, ha, hp, (World.cell?_setCell_far _ _ _ _ (by show c ≠ p; omega)).trans hv, h0, h9⟩
theorem Cur.drew {W : World} {c : Nat} {a : Option Addr} {len cap : Nat} (h : Cur W c a len cap) : Cur W.drew c a len cap := h.grew (Below.refl _ W).drew
theorem Kp.drew (c : Nat) (W : World) : Kp c W W.drew := ⟨(Below.refl _ W).drew, by simp, fun _ _ _ _ => by simp [go_sem], fun _ _ _ _ => by simp [go_sem], fun _ _ _ => rfl⟩
theorem Kp.set (c : Nat) (W : World) (o : Nat) (v : Value) : Kp c W (W.setCell ⟨c, o, none⟩ v) :=
  ⟨(Below.refl _ W).setCell (by simp) _, by simp, fun b q _ hc => World.cell?_setCell_far _ _ _ _ (by show c ≠ b; omega), fun b q _ _ => by simp [go_sem], fun b _ hc => Below.heap_setCell W ⟨c, o, none⟩ v b hc⟩

end Go.Proofs.Ytlhddiikbfobjaa

/-
  The specification's l1Byte: a number from 0 to 255; the cursor lies as before, on or one farther; nothing else turns.
-/
namespace Go.Proofs.Ytlhddiikbfobjaa
open Go.RowKit

theorem and255 (x : Int) : 0 ≤ bits .and .i64 x 255 ∧ bits .and .i64 x 255 ≤ 255 := by
  have e : bits .and .i64 x 255 = IntKind.i64.wrap ((BitVec.ofInt 64 x &&& BitVec.ofInt 64 255).toNat : Int) := rfl
  have h : (BitVec.ofInt 64 x &&& BitVec.ofInt 64 255).toNat ≤ 255 := by
    rw [BitVec.toNat_and]
    exact Nat.le_trans Nat.and_le_right (by decide)
  rw [e, IntKind.wrap_i64]
  omega

set_option maxHeartbeats 1000000 in
theorem l1Byte_any (c : Nat) (a : Option Addr) (len cap : Nat) (W : World) (hC : Cur W c a len cap) :
    Calls Try.prog 86 #[.pointer (some ⟨c, 0, none⟩)] W fun e W' => (∃ x : Int, 0 ≤ x ∧ x ≤ 255 ∧ e = .returned (.int .i64 x)) ∧ Cur W' c a len cap ∧ Kp c W W' := by
  have HC : Hid (Cur W c a len cap) := hC
  obtain ⟨i, hi, c1⟩ := hC.idx
  obtain ⟨m, c2⟩ := hC.mix
  have c0 := hC.row
  have g1 := hC.fr1
  have g2 := hC.fr2
  have hl := hC.few
  by_cases hlt : i < len
  · obtain ⟨p, o, v, rfl, hp, cv, v0, v9⟩ := hC.byt i hlt
    have hne : c ≠ p := by omega
    clear hC
    go_enter Try.func86, Try.ntmps86
    go_wp2_with fail
    go_region
    all_goals
      go_wp2_with fail
      go_region
    all_goals
      go_wp2_with fail
      go_region
    all_goals
      go_wp2_with fail
      go_ret
      refine ⟨⟨_, (and255 _).1, (and255 _).2, rfl⟩, ?_, ?_⟩
      · repeat (first | with_reducible exact HC.out | with_reducible refine Cur.drew ?_ | with_reducible refine Cur.set2 ?_ _ | (with_reducible refine Cur.set1 ?_ _ (i + 1) (by omega) (by omega)))
      · repeat (first | with_reducible exact Kp.refl _ _ | (with_reducible refine Kp.trans ?_ (Kp.drew _ _)) | (with_reducible refine Kp.trans ?_ (Kp.set _ _ _ _)))
  · clear hC
    go_enter Try.func86, Try.ntmps86
    go_wp2_with fail
    go_region
    all_goals
      go_wp2_with fail
      go_region
    all_goals
      go_wp2_with fail
      go_ret
      refine ⟨⟨_, (and255 _).1, (and255 _).2, rfl⟩, ?_, ?_⟩
      · repeat (first | with_reducible exact HC.out | with_reducible refine Cur.drew ?_ | with_reducible refine Cur.set2 ?_ _)
      · repeat (first | with_reducible exact Kp.refl _ _ | (with_reducible refine Kp.trans ?_ (Kp.drew _ _)) | (with_reducible refine Kp.trans ?_ (Kp.set _ _ _ _)))

end Go.Proofs.Ytlhddiikbfobjaa

/-
  The specification's l1Below, l1Once and l1Int: a number below n, a coin, one of a row; the cursor lies on; nothing else turns.
-/
namespace Go.Proofs.Ytlhddiikbfobjaa
open Go.RowKit

set_option maxHeartbeats 1000000 in
theorem l1Below_any (c : Nat) (a : Option Addr) (len cap : Nat) (n : Int) (W : World) (hC : Cur W c a len cap) :
    Calls Try.prog 58 #[.pointer (some ⟨c, 0, none⟩), .int .i64 n] W fun e W' => (∃ x : Int, 0 ≤ x ∧ (0 < n → x < n) ∧ e = .returned (.int .i64 x)) ∧ Cur W' c a len cap ∧ Kp c W W' := by
  have HC : Hid (Cur W c a len cap) := hC
  clear hC
  by_cases h0 : n ≤ 0
  · go_enter Try.func58, Try.ntmps58
    go_wp2_with fail
    go_ret
    exact ⟨⟨0, Int.le_refl _, fun h => h, rfl⟩, HC.out, Kp.refl _ _⟩
  · by_cases h1 : n ≤ 256
    · go_enter Try.func58, Try.ntmps58
      go_wp2_with fail
      refine (l1Byte_any c a len cap _ HC.out).mono ?_
      rintro e W1 ⟨⟨x, x0, x9, rfl⟩, hC1, hK1⟩
      go_wp2_with fail
      go_ret
      exact ⟨⟨x % n, Int.emod_nonneg _ (by omega), fun _ => Int.emod_lt_of_pos _ (by omega), rfl⟩, hC1, hK1⟩
    · go_enter Try.func58, Try.ntmps58
      go_wp2_with fail
      refine (l1Byte_any c a len cap _ HC.out).mono ?_
      rintro e W1 ⟨⟨x, x0, x9, rfl⟩, hC1, hK1⟩
      have HC1 : Hid (Cur W1 c a len cap) := hC1
      have HK1 : Hid (Kp c W W1) := hK1
      clear hC1 hK1
      go_wp2_with fail
      refine (l1Byte_any c a len cap _ HC1.out).mono ?_
      rintro e W2 ⟨⟨y, y0, y9, rfl⟩, hC2, hK2⟩
      have HC2 : Hid (Cur W2 c a len cap) := hC2
      have HK2 : Hid (Kp c W1 W2) := hK2
      clear hC2 hK2
      go_wp2_with fail
      refine (l1Byte_any c a len cap _ HC2.out).mono ?_
      rintro e W3 ⟨⟨z, z0, z9, rfl⟩, hC3, hK3⟩
      go_wp2_with fail
      go_ret
      exact ⟨⟨_, Int.emod_nonneg _ (by omega), fun _ => Int.emod_lt_of_pos _ (by omega), rfl⟩, hC3, (HK1.out.trans HK2.out).trans hK3⟩

set_option maxHeartbeats 1000000 in
theorem l1Once_any (c : Nat) (a : Option Addr) (len cap : Nat) (n : Int) (W : World) (hC : Cur W c a len cap) :
    Calls Try.prog 57 #[.pointer (some ⟨c, 0, none⟩), .int .i64 n] W fun e W' => (∃ B : Bool, e = .returned (.bool B)) ∧ Cur W' c a len cap ∧ Kp c W W' := by
  have HC : Hid (Cur W c a len cap) := hC
  clear hC
  go_enter Try.func57, Try.ntmps57
  go_wp2_with fail
  refine (l1Below_any c a len cap n _ HC.out).mono ?_
  rintro e W1 ⟨⟨x, x0, x9, rfl⟩, hC1, hK1⟩
  go_wp2_with fail
  go_ret
  exact ⟨⟨_, rfl⟩, hC1, hK1⟩

set_option maxHeartbeats 1000000 in
theorem l1Int_any (P : Int → Prop) (c : Nat) (a : Option Addr) (len cap : Nat) (q k : Nat) (W : World) (hC : Cur W c a len cap) (hk : 0 < k) (hk1 : k ≤ 100) (hq : q < W.heap.size) (hqc : q ≠ c) (hv : ∀ j, j < k → ∃ z, P z ∧ W.cell? ⟨q, j, none⟩ = some (.int .i64 z)) :
    Calls Try.prog 65 #[.pointer (some ⟨c, 0, none⟩), .slice (some ⟨q, 0, none⟩) k k] W fun e W' => (∃ z, P z ∧ e = .returned (.int .i64 z)) ∧ Cur W' c a len cap ∧ Kp c W W' := by
  have HC : Hid (Cur W c a len cap) := hC
  have HV : Hid (∀ j, j < k → ∃ z, P z ∧ W.cell? ⟨q, j, none⟩ = some (.int .i64 z)) := hv
  clear hC hv
  go_enter Try.func65, Try.ntmps65
  go_wp2_with fail
  refine (l1Below_any c a len cap k _ HC.out).mono ?_
  rintro e W1 ⟨⟨x, x0, x9, rfl⟩, hC1, hK1⟩
  obtain ⟨j, rfl⟩ : ∃ j : Nat, x = (j : Int) := ⟨x.toNat, by omega⟩
  have hj : j < k := by omega
  obtain ⟨z, hz, hc⟩ := HV.out j hj
  have cv : W1.cell? ⟨q, j, none⟩ = some (.int .i64 z) := (hK1.cel q j hq hqc).trans hc
  have HZ : Hid (P z) := hz
  have HK : Hid (Kp c W W1) := hK1
  have HC1 : Hid (Cur W1 c a len cap) := hC1
  clear hK1 hC1 x9 x0 hc hz
  go_wp2_with fail
  go_ret
  exact ⟨⟨z, HZ.out, rfl⟩, HC1.out, HK.out⟩

/-- The cursor behind a store into a newer block; what is kept behind new memory. -/
theorem Cur.far {W : World} {c : Nat} {a : Option Addr} {len cap : Nat} (h : Cur W c a len cap) {b o : Nat} (hb : c < b) (v : Value) : Cur (W.setCell ⟨b, o, none⟩ v) c a len cap :=
  h.keep ((Below.refl _ W).setCell (by show c + 1 ≤ b; omega) _)
theorem Cur.more {W : World} {c : Nat} {a : Option Addr} {len cap : Nat} (h : Cur W c a len cap) (x : Obj) : Cur (W.alloc x) c a len cap := h.grew ((Below.refl _ W).alloc (Nat.le_refl _) _)
theorem Kp.more {c : Nat} {W X : World} (h : Kp c W X) (hc : c < W.heap.size) (x : Obj) : Kp c W (X.alloc x) :=
  h.trans (Kp.of_below (Nat.lt_of_lt_of_le hc h.big) ((Below.refl _ X).alloc (Nat.le_refl _) _))
theorem Kp.setNew {c : Nat} {W X : World} (h : Kp c W X) (hc : c < W.heap.size) {b o : Nat} (hb : W.heap.size ≤ b) (v : Value) : Kp c W (X.setCell ⟨b, o, none⟩ v) :=
  ⟨h.low.setCell (by show c ≤ b; omega) _, by simpa using h.big, fun d q hd hq => (World.cell?_setCell_far _ _ _ _ (by show b ≠ d; omega)).trans (h.cel d q hd hq), fun d q hd hq => by simpa [go_sem] using h.frz d q hd hq, fun d hd hq => (Below.heap_setCell X ⟨b, o, none⟩ v d (by show d ≠ b; omega)).trans (h.blk d hd hq)⟩

end Go.Proofs.Ytlhddiikbfobjaa

/-
  The specification's l1New: a cursor over the code's bytes, in a block of its own; nothing old turns.
-/
namespace Go.Proofs.Ytlhddiikbfobjaa
open Go.RowKit

/-- The code's bytes, as memory holds them. -/
def Bytes (w : World) (a : Option Addr) (len : Nat) : Prop := ∀ j, j < len → ∃ p o v, a = some ⟨p, o, none⟩ ∧ p < w.heap.size ∧ w.cell? ⟨p, o + j, none⟩ = some (.int .u8 v) ∧ 0 ≤ v ∧ v < 256

set_option maxRecDepth 100000 in
set_option maxHeartbeats 1000000 in
theorem l1New_any (a : Option Addr) (len cap : Nat) (w : World) (hB : Bytes w a len) (hl : len ≤ 1048576) :
    Calls Try.prog 21 #[.slice a len cap] w fun e w' => e = .returned (.pointer (some ⟨w.heap.size, 0, none⟩)) ∧ Cur w' w.heap.size a len cap ∧ Below w.heap.size w w' ∧ w'.heap.size = w.heap.size + 1 := by
  have HB : Hid (Bytes w a len) := hB
  clear hB
  go_enter Try.func21, Try.ntmps21
  go_wp2
  go_loop [3, 4] (fun t3 t4 => ∃ (h : Int) (k : Nat), k ≤ len ∧ t3 = .int .i64 h ∧ t4 = .int .i64 k) (fun _ t4 => len - (intOf t4).toNat)
  case atStart => exact ⟨_, 0, Nat.zero_le _, rfl, rfl⟩
  case round =>
    obtain ⟨h, k, hk, rfl, rfl⟩ := hrel
    by_cases h1 : k < len
    · by_cases h2 : k < 4000
      · obtain ⟨p, o, v, rfl, hp, cv, v0, v9⟩ := HB.out k h1
        go_wp2
        go_round
        case rel => exact ⟨_, k + 1, by omega, rfl, by go_num⟩
        case measure => simp [intOf]; omega
      · go_wp2
        go_ret
        refine ⟨rfl, ⟨by simp [go_sem], ⟨0, Nat.zero_le _, by simp [go_sem]⟩, ⟨h, by simp [go_sem]⟩, by simp [go_sem], by simp [go_sem], fun j hj => ?_, hl⟩, (Below.refl _ w).alloc (Nat.le_refl _) _, by simp⟩
        obtain ⟨p, o, v, ha, hp, cv, v0, v9⟩ := HB.out j hj
        exact ⟨p, o, v, ha, hp, (((Below.refl _ w).alloc (Nat.le_refl _) _).cell hp).trans cv, v0, v9⟩
    · go_wp2
      go_ret
      refine ⟨rfl, ⟨by simp [go_sem], ⟨0, Nat.zero_le _, by simp [go_sem]⟩, ⟨h, by simp [go_sem]⟩, by simp [go_sem], by simp [go_sem], fun j hj => ?_, hl⟩, (Below.refl _ w).alloc (Nat.le_refl _) _, by simp⟩
      obtain ⟨p, o, v, ha, hp, cv, v0, v9⟩ := HB.out j hj
      exact ⟨p, o, v, ha, hp, (((Below.refl _ w).alloc (Nat.le_refl _) _).cell hp).trans cv, v0, v9⟩

end Go.Proofs.Ytlhddiikbfobjaa

/-
  The specification's l12Draw: some right group, in rows of its own of at most nine numbers each; nothing old turns.
-/
namespace Go.Proofs.Ytlhddiikbfobjaa
open Go.RowKit

theorem OwnG.kpGr {α : Type} {K : Kd α} {t : TypeId} {c : Nat} {w w' : World} {B : Nat} {v : Value} {ps : List α} (h : OwnG K t w B v ps) (k : Kp c w w') (hc : c < B) : OwnG K t w' B v ps := by
  refine ⟨h.1, ?_⟩
  rcases h.2 with h1 | ⟨g, cap, cur, hv, hg, hr, hr'⟩
  · exact Or.inl h1
  · refine Or.inr ⟨g, cap, cur, hv, hg, (k.blk g ?_ (by omega)).trans hr, hr'⟩
    rcases Nat.lt_or_ge g w.heap.size with hlt | hge
    · exact hlt
    · rw [Array.getElem?_eq_none hge] at hr; cases hr
theorem l12List_ok (z : Int) (h0 : 1 ≤ z) (h1 : z < 128) (w : World) :
    Calls Try.prog 85 #[.int .u8 z] w fun e w' => ∃ (a : Option Addr) (n c : Nat) (xs : List Int), e = .returned (.slice a n c) ∧ n = xs.length ∧ n ≤ 9 ∧ ((idsB 0 xs && decide (0 < xs.length)) = true ∧ xs = lsB 7 z.toNat 1) ∧ OwnG KI 3 w' w.heap.size (.slice a n c) xs ∧ Below w.heap.size w w' := by
  obtain ⟨k, rfl⟩ := Int.eq_ofNat_of_zero_le (show 0 ≤ z by omega)
  have hk : k < 256 := by omega
  have hi : (idsB 0 (lsB 7 k 1) && decide (0 < (lsB 7 k 1).length)) = true := (show ∀ z : Fin 128, 1 ≤ z.val → (idsB 0 (lsB 7 z.val 1) && decide (0 < (lsB 7 z.val 1).length)) = true from of_decide_eq_true (by kernel_rfl)) ⟨k, by omega⟩ (by show 1 ≤ k; omega)
  have hl : (lsB 7 k 1).length ≤ 8 := (show ∀ z : Fin 256, (lsB 7 z.val 1).length ≤ 8 from of_decide_eq_true (by kernel_rfl)) ⟨k, hk⟩
  exact (l12List_any k hk w).mono fun _ _ ⟨a, c, e1, o1, b1⟩ => ⟨a, _, c, _, e1, rfl, by omega, ⟨hi, rfl⟩, o1, b1⟩
/-- While a group is drawn: the result's box is w's first new block. -/
structure GdIr (w X : World) (c : Nat) (a : Option Addr) (len cap : Nat) : Prop where
  cur : Cur X c a len cap
  kp : Kp c w X
  hc : c < w.heap.size
  r0 : X.cell? ⟨w.heap.size, 0, none⟩ = some (.slice none 0 0)
  r1 : X.cell? ⟨w.heap.size, 1, none⟩ = some (.slice none 0 0)
  rF : ∀ o, X.frozen? ⟨w.heap.size, o, none⟩ = false
  lt : w.heap.size < X.heap.size
theorem GdIr.keep {w X Y : World} {c : Nat} {a : Option Addr} {len cap : Nat} (h : GdIr w X c a len cap) (hC : Cur Y c a len cap) (k : Kp c X Y) : GdIr w Y c a len cap := by
  have h1 := h.hc
  exact ⟨hC, h.kp.trans k, h.hc, (k.cel _ _ h.lt (by omega)).trans h.r0, (k.cel _ _ h.lt (by omega)).trans h.r1, fun o => (k.frz _ _ h.lt (by omega)).trans (h.rF o), Nat.lt_of_lt_of_le h.lt k.big⟩
theorem GdIr.below {w X Y : World} {c : Nat} {a : Option Addr} {len cap : Nat} (h : GdIr w X c a len cap) (k : Below X.heap.size X Y) : GdIr w Y c a len cap := h.keep (h.cur.grew k) (Kp.of_below (Nat.lt_trans h.hc h.lt) k)
theorem GdIr.set {w X : World} {c : Nat} {a : Option Addr} {len cap : Nat} (h : GdIr w X c a len cap) {e o : Nat} (he : w.heap.size < e) (v : Value) : GdIr w (X.setCell ⟨e, o, none⟩ v) c a len cap := by
  have h1 := h.hc
  exact ⟨h.cur.far (by omega) v, h.kp.setNew h.hc (Nat.le_of_lt he) v, h.hc, cell_set1 h.r0 (by omega), cell_set1 h.r1 (by omega), fun o => frz_set1 (h.rF o), by simpa using h.lt⟩
/-- And the group's own box is block e; its rows are the call's own. -/
structure GdBr (w X : World) (c : Nat) (a : Option Addr) (len cap e : Nat) (P Q : Value) (ps bs : List Int) : Prop where
  op : GdIr w X c a len cap
  he : w.heap.size < e
  hl : e < X.heap.size
  d0 : X.cell? ⟨e, 0, none⟩ = some P
  d1 : X.cell? ⟨e, 1, none⟩ = some Q
  dF : ∀ o, X.frozen? ⟨e, o, none⟩ = false
  own : OwnG KI 3 X (w.heap.size + 1) P ps
  onx : OwnG KI 3 X (w.heap.size + 1) Q bs
  ne : ∀ k, P.ownBlock = some k → k ≠ e
  nx : ∀ k, Q.ownBlock = some k → k ≠ e
theorem GdBr.keep {w X Y : World} {c : Nat} {a : Option Addr} {len cap e : Nat} {P Q : Value} {ps bs : List Int} (h : GdBr w X c a len cap e P Q ps bs) (hC : Cur Y c a len cap) (k : Kp c X Y) : GdBr w Y c a len cap e P Q ps bs := by
  have h1 := h.he; have h2 := h.hl; have h3 := h.op.hc
  exact ⟨h.op.keep hC k, h.he, Nat.lt_of_lt_of_le h.hl k.big, (k.cel _ _ h2 (by omega)).trans h.d0, (k.cel _ _ h2 (by omega)).trans h.d1, fun o => (k.frz _ _ h2 (by omega)).trans (h.dF o), h.own.kpGr k (by omega), h.onx.kpGr k (by omega), h.ne, h.nx⟩
theorem GdBr.below {w X Y : World} {c : Nat} {a : Option Addr} {len cap e : Nat} {P Q : Value} {ps bs : List Int} (h : GdBr w X c a len cap e P Q ps bs) (k : Below X.heap.size X Y) : GdBr w Y c a len cap e P Q ps bs :=
  h.keep (h.op.cur.grew k) (Kp.of_below (Nat.lt_trans h.op.hc h.op.lt) k)
theorem own_setGr {X : World} {B e o : Nat} {v : Value} {ps : List Int} (h : OwnG KI 3 X B v ps) (hne : ∀ k, v.ownBlock = some k → k ≠ e) (u : Value) : OwnG KI 3 (X.setCell ⟨e, o, none⟩ u) B v ps :=
  OwnG.grown h (grown_cellG _ _ _ _) (fun k hk he => hne k hk (Option.some.inj he).symm)
theorem GdBr.put1 {w X : World} {c : Nat} {a : Option Addr} {len cap e : Nat} {P Q Q' : Value} {ps bs bs' : List Int} (h : GdBr w X c a len cap e P Q ps bs) (ho : OwnG KI 3 X (w.heap.size + 1) Q' bs') (hn : ∀ k, Q'.ownBlock = some k → k ≠ e) : GdBr w (X.setCell ⟨e, 1, none⟩ Q') c a len cap e P Q' ps bs' :=
  ⟨h.op.set h.he _, h.he, by simpa using h.hl, by simp [go_sem, h.d0], by simp [go_sem, h.d1], fun o => frz_set1 (h.dF o), own_setGr h.own h.ne _, own_setGr ho hn _, h.ne, hn⟩
theorem GdBr.fin {w X : World} {c : Nat} {a : Option Addr} {len cap e : Nat} {P Q : Value} {ps bs : List Int} (h : GdBr w X c a len cap e P Q ps bs) (u v : Value) :
    OwnG KI 3 ((X.setCell ⟨w.heap.size, 0, none⟩ u).setCell ⟨w.heap.size, 1, none⟩ v) w.heap.size P ps ∧ OwnG KI 3 ((X.setCell ⟨w.heap.size, 0, none⟩ u).setCell ⟨w.heap.size, 1, none⟩ v) w.heap.size Q bs ∧ Cur ((X.setCell ⟨w.heap.size, 0, none⟩ u).setCell ⟨w.heap.size, 1, none⟩ v) c a len cap ∧ Kp c w ((X.setCell ⟨w.heap.size, 0, none⟩ u).setCell ⟨w.heap.size, 1, none⟩ v) := by
  have n1 : ∀ k, P.ownBlock = some k → k ≠ w.heap.size := fun k hk => by have := (OwnG.lt h.own k hk).1; omega
  have n2 : ∀ k, Q.ownBlock = some k → k ≠ w.heap.size := fun k hk => by have := (OwnG.lt h.onx k hk).1; omega
  exact ⟨OwnG.mono (own_setGr (own_setGr h.own n1 _) n1 _) (by omega), OwnG.mono (own_setGr (own_setGr h.onx n2 _) n2 _) (by omega), (h.op.cur.far h.op.hc _).far h.op.hc _, (h.op.kp.setNew h.op.hc (Nat.le_refl _) _).setNew h.op.hc (Nat.le_refl _) _⟩

theorem gr_of1 {ps : List Int} (h : (idsB 0 ps && decide (0 < ps.length)) = true) : grB ps [] = true := by
  rw [Bool.and_eq_true] at h
  unfold grB
  rw [h.1, h.2]
  rfl
theorem gr_of2 {ps bs : List Int} (h : (idsB 0 ps && decide (0 < ps.length)) = true) (h' : (idsB 0 bs && decide (0 < bs.length)) = true) : grB ps bs = true := by
  rw [Bool.and_eq_true] at h h'
  unfold grB
  rw [h.1, h.2, h'.1]
  rfl
theorem oct_two {u v : Int} (h : ((decide (0 ≤ u) && decide (u < 256)) && (decide (0 ≤ v) && decide (v < 256))) = true) : Oct [u, v] := by
  simp only [Bool.and_eq_true, decide_eq_true_eq] at h
  intro z hz
  simp only [List.mem_cons, List.not_mem_nil, or_false] at hz
  rcases hz with rfl | rfl <;> omega
/-- The two bytes of a drawn group. -/
def twB (x z : Nat) : Bool := gB [byI 0 (lsB 7 x 1), byI 0 (lsB 7 z 1)] && ((decide (0 ≤ byI 0 (lsB 7 x 1)) && decide (byI 0 (lsB 7 x 1) < 256)) && (decide (0 ≤ byI 0 (lsB 7 z 1)) && decide (byI 0 (lsB 7 z 1) < 256)))
theorem twB_all : ∀ (x : Fin 32) (z : Fin 64), 1 ≤ x.val → twB x.val z.val = true := of_decide_eq_true (by kernel_rfl)
theorem gb_of2 {x z : Int} {ps bs : List Int} (hx : 1 ≤ x) (hx' : x ≤ 31) (hz : 0 ≤ z) (hz' : z ≤ 63) (h : ps = lsB 7 x.toNat 1) (h' : bs = lsB 7 z.toNat 1) : gB [byI 0 ps, byI 0 bs] = true ∧ Oct [byI 0 ps, byI 0 bs] := by
  have t : twB x.toNat z.toNat = true := twB_all ⟨x.toNat, by omega⟩ ⟨z.toNat, by omega⟩ (by show 1 ≤ x.toNat; omega)
  unfold twB at t
  rw [Bool.and_eq_true] at t
  rw [h, h']
  exact ⟨t.1, oct_two t.2⟩
theorem gb_of1 {x : Int} {ps : List Int} (hx : 1 ≤ x) (hx' : x ≤ 31) (h : ps = lsB 7 x.toNat 1) : gB [byI 0 ps, byI 0 []] = true ∧ Oct [byI 0 ps, byI 0 []] :=
  gb_of2 (z := 0) hx hx' (by omega) (by omega) h rfl
def DrGr (w w' : World) (e : Ending) (L : Nat) : Prop := ∃ (a1 : Option Addr) (n1 c1 : Nat) (a2 : Option Addr) (n2 c2 : Nat) (ps bs : List Int), e = .returned (.agg #[.slice a1 n1 c1, .slice a2 n2 c2]) ∧ n1 = ps.length ∧ n2 = bs.length ∧ n1 ≤ L ∧ n2 ≤ L ∧ OwnG KI 3 w' w.heap.size (.slice a1 n1 c1) ps ∧ OwnG KI 3 w' w.heap.size (.slice a2 n2 c2) bs ∧ grB ps bs = true ∧ gB [byI 0 ps, byI 0 bs] = true ∧ Oct [byI 0 ps, byI 0 bs]

set_option maxRecDepth 10000 in
set_option maxHeartbeats 4000000 in
theorem l12Draw_ok (c : Nat) (a : Option Addr) (len cap : Nat) (w : World) (hC : Cur w c a len cap) :
    Calls Try.prog 56 #[.pointer (some ⟨c, 0, none⟩)] w fun e w' => DrGr w w' e 9 ∧ Cur w' c a len cap ∧ Kp c w w' := by
  have hc := hC.lt
  have H1 := hidP (show GdIr w (w.alloc (.cells #[.slice none 0 0, .slice none 0 0] 26)) c a len cap from ⟨hC.more _, (Kp.refl _ _).more hc _, hc, by simp [go_sem], by simp [go_sem], fun o => by simp [go_sem], by simp⟩)
  clear hC
  go_enter Try.func56, Try.ntmps56
  go_wp2_with fail
  generalize w.alloc (.cells #[.slice none 0 0, .slice none 0 0] 26) = W1 at *
  refine (l1Below_any c a len cap 31 _ H1.out.cur).mono ?_
  rintro e w2 ⟨⟨x, x0, x9, rfl⟩, hC2, hK2⟩
  have H2 := hidP (H1.out.keep hC2 hK2)
  have x8 := x9 (by omega)
  have e1 : IntKind.i64.wrap (1 + x) = 1 + x := by rw [IntKind.wrap_i64]; omega
  have e2 : IntKind.u8.wrap (1 + x) = 1 + x := by rw [IntKind.wrap_u8]; omega
  have HL1 := hidP (fun W => l12List_ok (1 + x) (by omega) (by omega) W)
  clear hC2 hK2 H1 x9
  go_wp2_with fail
  refine (HL1.out _).mono ?_
  rintro e w3 ⟨a1, n1, c1, ps, rfl, hn1, hl1, hi1, ho1, hb3⟩
  have H3 := hidP (H2.out.below hb3)
  have HO := hidP (OwnG.mono ho1 (show w.heap.size + 1 ≤ w2.heap.size from H2.out.lt))
  have HN1 := hidP hn1
  have HI1 := hidP hi1
  clear hb3 ho1 H2 HL1 hn1 hi1
  go_wp2_with fail
  have H4 := hidP (show GdBr w (w3.alloc (.cells #[.slice a1 n1 c1, .slice none 0 0] 26)) c a len cap w3.heap.size (.slice a1 n1 c1) (.slice none 0 0) ps [] from by
    have zb := alloc_below w3 (.cells #[.slice a1 n1 c1, .slice none 0 0] 26)
    exact ⟨H3.out.below zb, H3.out.lt, alloc_lt _ _, by simp [go_sem], by simp [go_sem], fun o => by simp [go_sem], HO.out.later zb, own_noneG KI _ _ _, fun k hk => Nat.ne_of_lt (OwnG.lt HO.out k hk).2, fun k hk => by cases hk⟩)
  have HL4 := hidP H3.out.lt
  generalize w3.alloc (.cells #[.slice a1 n1 c1, .slice none 0 0] 26) = W4 at *
  generalize w3.heap.size = E at *
  clear H3 HO
  refine (l1Once_any c a len cap 3 _ H4.out.op.cur).mono ?_
  rintro e w5 ⟨⟨B, rfl⟩, hC5, hK5⟩
  have H5 := hidP (H4.out.keep hC5 hK5)
  clear hC5 hK5 H4
  have hE := HL4.out
  have nA : ¬ (E = w.heap.size) := by omega
  have nB : ¬ (w.heap.size = E) := by omega
  cases B
  · have p0 := H5.out.d0
    have p1 := H5.out.d1
    have r0 := H5.out.op.r0
    have r1 := H5.out.op.r1
    have rF := H5.out.op.rF
    go_wp2_with fail
    have hF := H5.out.fin (.slice a1 n1 c1) (.slice none 0 0)
    refine bodyPost_ret (v := .agg #[.slice a1 n1 c1, .slice none 0 0]) (by simp [results, Try.results56, go_sem, r0, r1]) rfl ⟨⟨a1, n1, c1, none, 0, 0, ps, [], rfl, HN1.out, rfl, hl1, by omega, hF.1, hF.2.1, gr_of1 HI1.out.1, gb_of1 (by omega) (by omega) HI1.out.2⟩, hF.2.2⟩
  · go_wp2_with fail
    refine (l1Below_any c a len cap 63 _ H5.out.op.cur).mono ?_
    rintro e w6 ⟨⟨z, z0, z9, rfl⟩, hC6, hK6⟩
    have H6 := hidP (H5.out.keep hC6 hK6)
    have z8 := z9 (by omega)
    have e3 : IntKind.i64.wrap (1 + z) = 1 + z := by rw [IntKind.wrap_i64]; omega
    have e4 : IntKind.u8.wrap (1 + z) = 1 + z := by rw [IntKind.wrap_u8]; omega
    have HL2 := hidP (fun W => l12List_ok (1 + z) (by omega) (by omega) W)
    clear hC6 hK6 H5 z9
    go_wp2_with fail
    refine (HL2.out _).mono ?_
    rintro e w7 ⟨a2, n2, c2, bs, rfl, hn2, hl2, hi2, ho2, hb7⟩
    have H7 := hidP (H6.out.below hb7)
    have HO2 := hidP (OwnG.mono ho2 (show w.heap.size + 1 ≤ w6.heap.size from H6.out.op.lt))
    have HN2 := hidP hn2
    have HI2 := hidP hi2
    have HE2 : Hid (∀ k, (Value.slice a2 n2 c2).ownBlock = some k → k ≠ E) := hidP (fun k hk => by have h5 := (OwnG.lt ho2 k hk).1; have h6 := H6.out.hl; omega)
    clear hb7 ho2 H6 HL2 hn2 hi2
    have p0 := H7.out.d0
    have p1 := H7.out.d1
    have pF := H7.out.dF
    have r0 := H7.out.op.r0
    have r1 := H7.out.op.r1
    have rF := H7.out.op.rF
    go_wp2_with fail
    have hF := (H7.out.put1 HO2.out HE2.out).fin (.slice a1 n1 c1) (.slice a2 n2 c2)
    refine bodyPost_ret (v := .agg #[.slice a1 n1 c1, .slice a2 n2 c2]) (by simp [results, Try.results56, go_sem, r0, r1]) rfl ⟨⟨a1, n1, c1, a2, n2, c2, ps, bs, rfl, HN1.out, HN2.out, hl1, hl2, hF.1, hF.2.1, gr_of2 HI1.out.1 HI2.out.1, gb_of2 (by omega) (by omega) (by omega) (by omega) HI1.out.2 HI2.out.2⟩, hF.2.2⟩

end Go.Proofs.Ytlhddiikbfobjaa

/-
  An append of bytes, from wherever they come, to a row of bytes that the call itself has made: the new row and where it lies.
-/
namespace Go.Proofs.Ytlhddiikbfobjaa
open Go.RowKit

theorem map_len (zs : List Int) : (zs.map (Value.int .u8)).length = zs.length := List.length_map _

theorem app_run (w : World) (B g n cap : Nat) (zs ns : List Int) (tx ty : TypeId) (x : Value) (hn : n = zs.length) (hown : Own w B (.slice (some ⟨g, 0, none⟩) n cap) zs)
    (hs : Src Try.prog 1 tx x ns.length (ns.map (Value.int .u8)) w) (hl : n + ns.length ≤ 1000000000) (hB : B ≤ w.heap.size) :
    ∃ h c w', (Builtin.append_ #[22, tx] ty #[.slice (some ⟨g, 0, none⟩) n cap, x]).run Try.prog w = .ok (.slice (some ⟨h, 0, none⟩) (n + ns.length) c) w' ∧
      Own w' B (.slice (some ⟨h, 0, none⟩) (n + ns.length) c) (zs ++ ns) ∧ w.grownBy w' (some g) ∧ (h = g ∨ h = w.heap.size) := by
  obtain ⟨i, hi, hz0, hz1, hz2⟩ := info_parts Try.infoU8
  have ht := Try.underlying22
  subst hn
  have hs' : Src Try.prog i.size tx x ns.length (ns.map (Value.int .u8)) w := by rw [hz1]; exact hs
  have hlen : ((zs ++ ns).map (Value.int .u8)).length = zs.length + ns.length := by simp
  rcases hown.2 with ⟨hv, _⟩ | ⟨g', cap', cur, hv, hbg, hg, hnc, hcm, hcs, htake⟩
  · simp at hv
  simp at hv
  obtain ⟨rfl, rfl⟩ := hv
  rw [Nat.mul_one] at hcs htake
  by_cases hroom : zs.length + ns.length ≤ cap
  · have hst := run_storeCells_at Try.prog g zs.length 5 (ns.map (Value.int .u8)) 0 cur w hg (by simp; omega) hs.one
    simp only [Nat.add_zero] at hst
    have hr : (Builtin.append_ #[22, tx] ty #[.slice (some ⟨g, 0, none⟩) zs.length cap, x]).run Try.prog w = .ok (.slice (some ⟨g, 0, none⟩) (zs.length + ns.length) cap) (w.setRow g (cur.toList.take zs.length ++ ns.map (Value.int .u8) ++ cur.toList.drop (zs.length + (ns.map (Value.int .u8)).length)).toArray) := by
      rcases hs.kind with ⟨e', hk⟩ | hk <;> simp [Builtin.append_, run_underlying ht, run_underlying hk, sizeOf, typeInfo, hi, hz1, hs.len, hroom, hs.cells, Addr.add_lit, hst]
    refine ⟨g, cap, _, hr, ⟨by simp, .inr ⟨g, cap, _, by simp, hbg, setRow_heap w g cur _ 5 _ hg, by simpa using hroom, hcm, ?_, ?_⟩⟩, ⟨rfl, rfl, rfl, by simp, fun k _ hk => setRow_other w g k _ (fun e => hk (by rw [e]))⟩, Or.inl rfl⟩
    · simp only [List.size_toArray, List.length_append, List.length_take, List.length_drop, Array.length_toList, map_len]
      omega
    · rw [htake, List.map_append, Nat.mul_one, List.length_append, ← map_len zs, ← map_len ns, ← List.length_append]
      exact List.take_left
  · have holds := hown.cells (g := g) rfl
    have hold : (Builtin.firstCells i.size zs.length (.slice (some ⟨g, 0, none⟩) zs.length cap)).run Try.prog w.drew = .ok (zs.map (Value.int .u8)).toArray w.drew := by
      rw [hz1]; exact run_firstCells_some w.drew 1 zs.length ⟨g, 0, none⟩ zs.length cap _ (by simp) (by simpa using holds)
    have hr := run_append_grow_src (P := Try.prog) w 22 tx ty 5 i (.int .u8 0) ht hi hz0 (some ⟨g, 0, none⟩) zs.length cap _ hold x ns.length _ hs' (by omega) (by omega) (growslice_fits (by omega) (by rw [hz2]; omega))
    have hge := grownCap_ge w (zs.length + ns.length) cap 5
    have hcm' := grownCap_le_maxLen w (zs.length + ns.length) cap 5 (by unfold maxLen; omega)
    refine ⟨w.heap.size, _, _, hr, ⟨by simp, .inr ⟨w.heap.size, _, _, by simp, hB, heap_alloc_new w.drew _, by simpa using hge, hcm', ?_, ?_⟩⟩, ⟨rfl, rfl, rfl, by simp, fun k hk _ => Below.heap_alloc w.drew _ k hk⟩, Or.inr rfl⟩
    · simp [size_zeroCells, Value.cells]; omega
    · have e2 : zs.length + ns.length = (zs.map (Value.int .u8) ++ ns.map (Value.int .u8)).length := by simp
      rw [Array.toList_append, List.map_append, Nat.mul_one, List.length_append, e2]
      exact List.take_left

theorem wp_app {o : Oper} {a : Act} {K : Act → World → Prop} {Q : Exit → Act → World → Prop} (w : World) (s x : Operand) (tx : TypeId)
    (ho : o.op = .call { callee := .builtin .append, args := #[s, x], argTypes := #[22, tx] })
    (B g n cap : Nat) (zs ns : List Int) (v xv : Value) (hsv : a.eval s = v) (hv : v = .slice (some ⟨g, 0, none⟩) n cap) (hn : n = zs.length) (hown : Own w B (.slice (some ⟨g, 0, none⟩) n cap) zs)
    (hx : a.eval x = xv) (hs : Src Try.prog 1 tx xv ns.length (ns.map (Value.int .u8)) w) (hl : n + ns.length ≤ 1000000000) (hB : B ≤ w.heap.size)
    (h : ∀ h c w', Own w' B (.slice (some ⟨h, 0, none⟩) (n + ns.length) c) (zs ++ ns) → w.grownBy w' (some g) → (h = g ∨ h = w.heap.size) → K (a.put o.dst (.slice (some ⟨h, 0, none⟩) (n + ns.length) c)) w') : o.wp Try.prog a w K Q := by
  obtain ⟨b, c, w', hr, h2, h3, h4⟩ := app_run w B g n cap zs ns tx o.type xv hn hown hs hl hB
  subst hv
  unfold Oper.wp execOp
  simp only [ho, resolve, invoke, builtin, Sem.run_bind, Sem.run_pure, Result.andThen_ok, List.map_toArray, List.map_cons, List.map_nil, hsv, hx, hr]
  exact h b c w' h2 h3 h4

theorem wpList_app {ops : Array Oper} {rest : List Oper} {o : Oper} {a : Act} {Q : Exit → Act → World → Prop} (w : World) (hgd : o.guard = none) (s x : Operand) (tx : TypeId)
    (ho : o.op = .call { callee := .builtin .append, args := #[s, x], argTypes := #[22, tx] })
    (B g n cap : Nat) (zs ns : List Int) (v xv : Value) (hsv : a.eval s = v) (hv : v = .slice (some ⟨g, 0, none⟩) n cap) (hn : n = zs.length) (hown : Own w B (.slice (some ⟨g, 0, none⟩) n cap) zs)
    (hx : a.eval x = xv) (hs : Src Try.prog 1 tx xv ns.length (ns.map (Value.int .u8)) w) (hl : n + ns.length ≤ 1000000000) (hB : B ≤ w.heap.size)
    (h : ∀ h c w', Own w' B (.slice (some ⟨h, 0, none⟩) (n + ns.length) c) (zs ++ ns) → w.grownBy w' (some g) → (h = g ∨ h = w.heap.size) → wpList Try.prog ops Q rest (a.put o.dst (.slice (some ⟨h, 0, none⟩) (n + ns.length) c)) w') : wpList Try.prog ops Q (o :: rest) a w :=
  wpList_plain hgd fun _ hK => wp_app w s x tx ho B g n cap zs ns v xv hsv hv hn hown hx hs hl hB fun b c w' h2 h3 h4 => hK _ _ (h b c w' h2 h3 h4)

/-- Bytes that lie in memory as a source. -/
theorem src_byt {w : World} {a : Option Addr} {zs : List Int} (c : Nat) (h : Byt w a zs) (hc : a = none → c = 0) : Src Try.prog 1 22 (.slice a zs.length c) zs.length (zs.map (Value.int .u8)) w := by
  cases a with
  | none =>
    have : zs = [] := by
      cases zs with
      | nil => rfl
      | cons z t => obtain ⟨p, o, z', e, _⟩ := h 0 (by simp); cases e
    subst this
    rw [hc rfl]
    exact Src.ofNil (P := Try.prog) w Try.underlying22 0
  | some ad =>
    refine Src.ofSlice (P := Try.prog) w Try.underlying22 ad zs.length c _ (by simp) (fun j u hu => ?_) (ints_oneCell _ _)
    rw [List.getElem?_map] at hu
    obtain ⟨z, hz, rfl⟩ := Option.map_eq_some_iff.1 hu
    have hj : j < zs.length := by rcases Nat.lt_or_ge j zs.length with h1 | h1; exact h1; rw [List.getElem?_eq_none h1] at hz; cases hz
    obtain ⟨p, o, z', e, hp, hc', hz'⟩ := h j hj
    cases e
    rw [hz] at hz'
    cases hz'
    have ea : (⟨p, o, none⟩ : Addr).add j = ⟨p, o + j, none⟩ := by unfold Addr.add; split <;> simp_all
    rw [ea]; exact hc'

end Go.Proofs.Ytlhddiikbfobjaa

/-
  The bytes of a word, the highest first: the program's wordBytes and the specification's l3Great, each by that; the row that is handed back is new, nothing old turns.
-/
namespace Go.Proofs.Ytlhddiikbfobjaa
open Go.RowKit

/-- The byte i of a word, from the lowest. -/
def byteAt (n : Int) (i : Nat) : Int := n / 2 ^ (8 * i) % 256
def big (n : Int) (c : Nat) : List Int := (List.range c).map fun (j : Nat) => byteAt n (c - 1 - j)
/-- Those that are written already, from the end on. -/
def part (n : Int) (c i : Nat) : List Int := (List.range c).map fun (j : Nat) => if c - i ≤ j then byteAt n (c - 1 - j) else 0

end Go.Proofs.Ytlhddiikbfobjaa

/-
  The library's Grow of no row, and its Concat of rows of bytes: one new row that has all of them; nothing old turns.
-/
namespace Go.Proofs.Ytlhddiikbfobjaa
open Go.RowKit

/-- The rows zss lie one behind the other in the block q. -/
def Rws (w : World) (q : Nat) (zss : List (List Int)) : Prop := ∀ j, j < zss.length → ∃ a c zs, zss[j]? = some zs ∧ w.cell? ⟨q, j, none⟩ = some (.slice a zs.length c) ∧ Byt w a zs ∧ (a = none → c = 0)
theorem Rws.later {w w' : World} {q : Nat} {zss : List (List Int)} (h : Rws w q zss) (hq : q < w.heap.size) (hb : Below w.heap.size w w') : Rws w' q zss := fun j hj => by
  obtain ⟨a, c, zs, h1, h2, h3, h4⟩ := h j hj
  exact ⟨a, c, zs, h1, (hb.cell (p := ⟨q, j, none⟩) hq).trans h2, h3.later hb, h4⟩

end Go.Proofs.Ytlhddiikbfobjaa

/-
  Both PutAddr: a mark and the words' bytes; an address that is not right has none. The row that is handed back is new, nothing old turns.
-/
namespace Go.Proofs.Ytlhddiikbfobjaa
open Go.RowKit

theorem own_lit (w : World) (B : Nat) (z : Int) (h : B ≤ w.heap.size) : Own (w.alloc (.cells #[.int .u8 z] 5)) B (.slice (some ⟨w.heap.size, 0, none⟩) 1 1) [z] :=
  World.ownsRow_lit w #[.int .u8 z] 1 h (by unfold maxLen; omega) (by simp)
theorem own_nil (w : World) (B : Nat) (h : B ≤ w.heap.size) : Own (w.alloc (.cells #[] 5)) B (.slice (some ⟨w.heap.size, 0, none⟩) 0 0) [] :=
  World.ownsRow_lit w #[] 0 h (by unfold maxLen; omega) (by simp)

end Go.Proofs.Ytlhddiikbfobjaa

/-
  Rows of bytes: what an append beside them leaves as it was, what a region's order leaves as it was.
-/
namespace Go.Proofs.Ytlhddiikbfobjaa
open Go.RowKit

theorem Own.caps {w : World} {B n c : Nat} {a : Option Addr} {zs : List Int} (h : Own w B (.slice a n c) zs) : zs.length ≤ c ∧ c ≤ 9223372036854775807 := by
  rcases h.2 with ⟨hv, h0⟩ | ⟨g, cap, cur, hv, hb, hg, h1, h2, h3, h4⟩
  · simp at hv
    exact ⟨by omega, by omega⟩
  · simp at hv
    unfold maxLen at h2
    obtain ⟨_, _, rfl⟩ := hv
    exact ⟨by omega, by omega⟩

theorem Byt.far {w w' : World} {g o k : Nat} {zs : List Int} (h : Byt w (some ⟨g, o, none⟩) zs) (hg : w.grownBy w' (some k)) (hne : g ≠ k) : Byt w' (some ⟨g, o, none⟩) zs := fun j hj => by
  obtain ⟨p, o', z, ha, hp, hc, hz⟩ := h j hj
  cases ha
  exact ⟨g, o, z, rfl, Nat.lt_of_lt_of_le hp hg.size, (hg.cell_far ⟨g, o + j, none⟩ hp (by simpa using hne)).trans hc, hz⟩
theorem Byt.more {w : World} {a : Option Addr} {zs : List Int} (h : Byt w a zs) (x : Obj) : Byt (w.alloc x) a zs := h.later ((Below.refl _ w).alloc (Nat.le_refl _) x)
theorem oct_app {xs ys : List Int} (h : Oct xs) (k : Oct ys) : Oct (xs ++ ys) := fun z hz => (List.mem_append.1 hz).elim (h z) (k z)
theorem oct_one {z : Int} (h : 0 ≤ z ∧ z ≤ 255) : Oct [z] := fun x hx => by rw [List.mem_singleton] at hx; subst hx; exact h

end Go.Proofs.Ytlhddiikbfobjaa

/-
  The specification's l1Bytes, l1Size and DrawFrame: some bytes, in a row of the call's own; the cursor lies on, nothing else turns.
-/
namespace Go.Proofs.Ytlhddiikbfobjaa
open Go.RowKit

theorem oct_nil : Oct [] := fun _ hz => absurd hz List.not_mem_nil
theorem Own.kp {c : Nat} {w w' : World} {B : Nat} {v : Value} {zs : List Int} (h : Own w B v zs) (k : Kp c w w') (hc : c < B) : Own w' B v zs := by
  refine ⟨h.1, ?_⟩
  rcases h.2 with h1 | ⟨g, cap, cur, hv, hg, hr, hr'⟩
  · exact Or.inl h1
  · refine Or.inr ⟨g, cap, cur, hv, hg, (k.blk g ?_ (by omega)).trans hr, hr'⟩
    rcases Nat.lt_or_ge g w.heap.size with hlt | hge
    · exact hlt
    · rw [Array.getElem?_eq_none hge] at hr; cases hr
theorem Kp.grown {c g : Nat} {w w1 w2 : World} (h : Kp c w w1) (r : w1.grownBy w2 (some g)) (hg : w.heap.size ≤ g) (hc : c < w.heap.size) : Kp c w w2 :=
  ⟨h.low.grown r (by have := h.big; omega) (fun k hk => by cases hk; omega), Nat.le_trans h.big r.size,
    fun b o hb hne => (r.cell_far ⟨b, o, none⟩ (Nat.lt_of_lt_of_le hb h.big) (by show some b ≠ some g; simp; omega)).trans (h.cel b o hb hne),
    fun b o hb hne => (r.frozen_far ⟨b, o, none⟩ (Nat.lt_of_lt_of_le hb h.big) (by show some b ≠ some g; simp; omega)).trans (h.frz b o hb hne),
    fun b hb hne => (r.block b (Nat.lt_of_lt_of_le hb h.big) (by show some b ≠ some g; simp; omega)).trans (h.blk b hb hne)⟩
theorem Cur.grown {W X : World} {c g : Nat} {a : Option Addr} {len cap : Nat} (h : Cur W c a len cap) (r : W.grownBy X (some g)) (hg : c < g) : Cur X c a len cap :=
  h.keep ((Below.refl _ W).grown r (by have := h.lt; omega) (fun k hk => by cases hk; omega))

set_option maxHeartbeats 2000000 in
theorem l1Bytes_any (c : Nat) (a : Option Addr) (len cap : Nat) (n : Nat) (hn : n ≤ 1000) (w : World) (hC : Cur w c a len cap) :
    Calls Try.prog 59 #[.pointer (some ⟨c, 0, none⟩), .int .i64 n] w fun e w' => (∃ g cp zs, zs.length = n ∧ Oct zs ∧ e = .returned (.slice (some ⟨g, 0, none⟩) n cp) ∧ Own w' w.heap.size (.slice (some ⟨g, 0, none⟩) n cp) zs) ∧ Cur w' c a len cap ∧ Kp c w w' := by
  have HC := hid' hC
  have hlt := hC.lt
  clear hC
  have HO := hid' (own_nil w w.heap.size (Nat.le_refl _))
  go_enter Try.func59, Try.ntmps59
  go_wp2
  go_loopw [5, 6] (fun t5 t6 wr => ∃ (g cp k : Nat) (zs : List Int), zs.length = k ∧ k ≤ n ∧ Oct zs ∧ t5 = .slice (some ⟨g, 0, none⟩) k cp ∧ t6 = .int .i64 k ∧ Own wr w.heap.size (.slice (some ⟨g, 0, none⟩) k cp) zs ∧ Cur wr c a len cap ∧ Kp c w wr) (fun _ t6 _ => n - (intOf t6).toNat)
  case atStart => exact ⟨w.heap.size, 0, 0, [], rfl, Nat.zero_le _, oct_nil, rfl, rfl, HO.out, HC.out.more _, Kp.more (Kp.refl _ _) hlt _⟩
  case round =>
    obtain ⟨g, cp, k, zs, hk, hkn, hoc, rfl, rfl, hown, hcur, hkp⟩ := hrel
    have HK := hid' (And.intro hk hoc)
    have HOw := hid' hown
    have HCr := hid' hcur
    have HKp := hid' hkp
    have hz := hkp.big
    clear hk hoc hown hcur hkp HO
    by_cases h : k < n
    · go_wp2_with fail
      refine (l1Byte_any c a len cap _ HCr.out).mono ?_
      rintro e w1 ⟨⟨x, x0, x9, rfl⟩, hC1, hK1⟩
      have HO1 := hid' (HOw.out.kp hK1 hlt)
      have HC1 := hid' hC1
      have HK1 := hid' (HKp.out.trans hK1)
      have hz1 := HK1.out.big
      have ex : x % 256 = x := by omega
      have HG := hid' (Own.lt HO1.out g rfl)
      clear hC1 hK1
      go_wp2_with (at_builtin; refine wpList_app _ rfl (.tmp 13) (.tmp 17) 22 rfl w.heap.size g k cp zs [x] _ _ rfl rfl HK.out.1.symm (HO1.out.alloc _) rfl (src_byt (zs := [x]) 1 (own_lit w1 w.heap.size x hz1).bytA (by simp)) (by show k + 1 ≤ _; omega) (by simp; omega) ?_; intro g2 c2 w2 o2 r2 t2)
      have HO2 := hid' o2
      have HC2 := hid' ((HC1.out.more _).grown r2 (by have := HG.out.1; omega))
      have HK2 := hid' ((HK1.out.more hlt _).grown r2 HG.out.1 hlt)
      clear o2 r2 t2
      go_wp2
      go_roundw
      case rel => exact ⟨g2, c2, k + 1, zs ++ [x], by rw [List.length_append, HK.out.1]; rfl, by omega, oct_app HK.out.2 (oct_one (by omega)), rfl, by go_num, HO2.out, HC2.out, HK2.out⟩
      case measure => simp [intOf]; omega
    · have e : k = n := by omega
      subst e
      go_wp2
      go_ret
      exact ⟨⟨g, cp, zs, HK.out.1, HK.out.2, rfl, HOw.out⟩, HCr.out, HKp.out⟩

end Go.Proofs.Ytlhddiikbfobjaa
