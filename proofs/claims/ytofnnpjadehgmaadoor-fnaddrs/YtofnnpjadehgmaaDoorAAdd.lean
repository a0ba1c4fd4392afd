/-
  The program's AddTo and the library's adding with carry, by their plain twins; nothing old in memory turns.
-/
import Derived.Test.YtofnnpjadehgmaaDoorANrm
import Derived.Laws.Externs
namespace Go.Proofs.YtofnnpjadehgmaaDoor
open Go.RowKit

def addS (x y c : Int) : Int := (x + y + c) % 18446744073709551616
def addC (x y c : Int) : Int := (x + y + c) / 18446744073709551616
/-- A word of 64 bits without a sign; a carry. -/
def Word (x : Int) : Prop := 0 ≤ x ∧ x < 18446744073709551616
def Bit (x : Int) : Prop := 0 ≤ x ∧ x ≤ 1

theorem Bit0 : Bit 0 := by unfold Bit; omega
theorem Word0 : Word 0 := by unfold Word; omega
theorem Word_u (x : Int) : Word (IntKind.u64.wrap x) := by unfold Word; rw [IntKind.wrap_u64]; omega
theorem addC_bit {x y c : Int} (hx : Word x) (hy : Word y) (hc : Bit c) : Bit (addC x y c) := by unfold Word Bit at *; unfold addC; omega
theorem addS_word (x y c : Int) : Word (addS x y c) := by unfold Word addS; omega

theorem add64 (x y c : Int) (hx : Word x) (hy : Word y) (hc : Bit c) (w : World) :
    (callFunc 32 #[.int .u64 x, .int .u64 y, .int .u64 c]).run Tryd.prog w = .ok (.value (.tuple #[.int .u64 (addS x y c), .int .u64 (addC x y c)])) w := by
  rw [run_callFunc_extern Tryd.func32 (by kernel_rfl) (by kernel_rfl) (by kernel_rfl) (e := add64Entry) (by kernel_rfl), run_add64 x y c hx.1 hy.1 hc.1 hc.2]
  simp only [Result.andThen, addS, addC]

set_option maxHeartbeats 400000 in
theorem iAddTo_neg (s : Bool) (h l n : Int) (hn : n < 0) (w : World) :
    Calls Tryd.prog 12 #[.agg #[.bool s, .int .i64 h, .int .i64 l], .int .i64 n] w fun e w' => e = .returned (.tuple #[.agg #[.bool false, .int .i64 0, .int .i64 0], .bool false]) ∧ Below w.heap.size w w' := by
  go_enter Tryd.func12, Tryd.ntmps12
  go_wp2_with fail
  refine bodyPost_ret (v := .tuple #[.agg #[.bool false, .int .i64 0, .int .i64 0], .bool false]) (by simp [results, Tryd.results12, go_sem]) rfl ⟨rfl, ?_⟩
  exact ((Below.refl _ w).alloc (Nat.le_refl _) _).alloc (by simp) _

set_option maxHeartbeats 1000000 in
theorem iAddTo_past (s : Bool) (h l n : Int) (S : Bool) (H L lo c hi p : Int) (hz : Nrm s h l S H L) (hn : 0 ≤ n)
    (a1 : Hid (∀ wx, (callFunc 32 #[.int .u64 (IntKind.u64.wrap L), .int .u64 (IntKind.u64.wrap n), .int .u64 0]).run Tryd.prog wx = .ok (.value (.tuple #[.int .u64 lo, .int .u64 c])) wx))
    (a2 : Hid (∀ wx, (callFunc 32 #[.int .u64 (IntKind.u64.wrap H), .int .u64 0, .int .u64 c]).run Tryd.prog wx = .ok (.value (.tuple #[.int .u64 hi, .int .u64 p])) wx))
    (hp : (p != 0) = true) (w : World) :
    Calls Tryd.prog 12 #[.agg #[.bool s, .int .i64 h, .int .i64 l], .int .i64 n] w fun e w' => e = .returned (.tuple #[.agg #[.bool false, .int .i64 0, .int .i64 0], .bool false]) ∧ Below w.heap.size w w' := by
  go_enter Tryd.func12, Tryd.ntmps12
  go_wp2_with fail
  refine (addrOrZero_any _ _ _ _ _ _ hz _).mono ?_
  rintro e w1 ⟨rfl, hb⟩
  obtain ⟨hc, hf⟩ := olds (n := w.heap.size + 2) (hb.mono (by simp))
  have hz1 : w.heap.size + 1 < w1.heap.size := by have := hb.size; simp at this; omega
  have hz0 : w.heap.size < w1.heap.size := by omega
  have b1 : Below w.heap.size w w1 := (((Below.refl _ w).alloc (Nat.le_refl _) _).alloc (by simp) _).trans (hb.mono (by simp; omega))
  go_wp2_with (first | simp only [a1.out] | simp only [a2.out])
  refine bodyPost_ret (v := .tuple #[.agg #[.bool false, .int .i64 0, .int .i64 0], .bool false]) (by simp [results, Tryd.results12, go_sem, hc, hz1]) rfl ⟨rfl, ?_⟩
  repeat (first | with_reducible exact b1 | (with_reducible refine Below.setCell ?_ (by first | omega | (simp; done) | (simp; omega)) _) | (with_reducible refine Below.alloc ?_ (by first | omega | (simp; done) | (simp; omega)) _))

set_option maxHeartbeats 1000000 in
theorem iAddTo_bad (s : Bool) (h l n : Int) (S : Bool) (H L lo c hi p : Int) (hz : Nrm s h l S H L) (hn : 0 ≤ n)
    (a1 : Hid (∀ wx, (callFunc 32 #[.int .u64 (IntKind.u64.wrap L), .int .u64 (IntKind.u64.wrap n), .int .u64 0]).run Tryd.prog wx = .ok (.value (.tuple #[.int .u64 lo, .int .u64 c])) wx))
    (a2 : Hid (∀ wx, (callFunc 32 #[.int .u64 (IntKind.u64.wrap H), .int .u64 0, .int .u64 c]).run Tryd.prog wx = .ok (.value (.tuple #[.int .u64 hi, .int .u64 p])) wx))
    (hp : (p != 0) = false) (hk : Hid (okB S (wrap64 hi) (wrap64 lo) = false)) (w : World) :
    Calls Tryd.prog 12 #[.agg #[.bool s, .int .i64 h, .int .i64 l], .int .i64 n] w fun e w' => e = .returned (.tuple #[.agg #[.bool false, .int .i64 0, .int .i64 0], .bool false]) ∧ Below w.heap.size w w' := by
  go_enter Tryd.func12, Tryd.ntmps12
  go_wp2_with fail
  refine (addrOrZero_any _ _ _ _ _ _ hz _).mono ?_
  rintro e w1 ⟨rfl, hb⟩
  obtain ⟨hc, hf⟩ := olds (n := w.heap.size + 2) (hb.mono (by simp))
  have hz1 : w.heap.size + 1 < w1.heap.size := by have := hb.size; simp at this; omega
  have hz0 : w.heap.size < w1.heap.size := by omega
  have b1 : Below w.heap.size w w1 := (((Below.refl _ w).alloc (Nat.le_refl _) _).alloc (by simp) _).trans (hb.mono (by simp; omega))
  go_wp2_with (first | simp only [a1.out] | simp only [a2.out])
  refine (iAddrOk_any _ _ _ _).mono ?_
  rw [hk.out]
  rintro e w2 ⟨rfl, hb2⟩
  obtain ⟨hc2, hf2⟩ := olds (n := w1.heap.size + 1) (hb2.mono (by simp))
  have y0 : w.heap.size < w1.heap.size + 1 := by omega
  have y1 : w.heap.size + 1 < w1.heap.size + 1 := by omega
  have hz2 : w1.heap.size < w2.heap.size := by have := hb2.size; simp at this; omega
  have b2 : Below w.heap.size w w2 := by
    refine Below.trans ?_ (hb2.mono (by simp; omega))
    repeat (first | with_reducible exact b1 | (with_reducible refine Below.setCell ?_ (by first | omega | (simp; done) | (simp; omega)) _) | (with_reducible refine Below.alloc ?_ (by first | omega | (simp; done) | (simp; omega)) _))
  go_wp2_with fail
  refine bodyPost_ret (v := .tuple #[.agg #[.bool false, .int .i64 0, .int .i64 0], .bool false]) (by simp [results, Tryd.results12, go_sem, hc2, hc, hz1, y1]) rfl ⟨rfl, ?_⟩
  repeat (first | with_reducible exact b2 | (with_reducible refine Below.setCell ?_ (by first | omega | (simp; done) | (simp; omega)) _) | (with_reducible refine Below.alloc ?_ (by first | omega | (simp; done) | (simp; omega)) _))

set_option maxHeartbeats 1000000 in
theorem iAddTo_ok (s : Bool) (h l n : Int) (S : Bool) (H L lo c hi p : Int) (hz : Nrm s h l S H L) (hn : 0 ≤ n)
    (a1 : Hid (∀ wx, (callFunc 32 #[.int .u64 (IntKind.u64.wrap L), .int .u64 (IntKind.u64.wrap n), .int .u64 0]).run Tryd.prog wx = .ok (.value (.tuple #[.int .u64 lo, .int .u64 c])) wx))
    (a2 : Hid (∀ wx, (callFunc 32 #[.int .u64 (IntKind.u64.wrap H), .int .u64 0, .int .u64 c]).run Tryd.prog wx = .ok (.value (.tuple #[.int .u64 hi, .int .u64 p])) wx))
    (hp : (p != 0) = false) (hk : Hid (okB S (wrap64 hi) (wrap64 lo) = true)) (w : World) :
    Calls Tryd.prog 12 #[.agg #[.bool s, .int .i64 h, .int .i64 l], .int .i64 n] w fun e w' => e = .returned (.tuple #[.agg #[.bool S, .int .i64 (wrap64 hi), .int .i64 (wrap64 lo)], .bool true]) ∧ Below w.heap.size w w' := by
  go_enter Tryd.func12, Tryd.ntmps12
  go_wp2_with fail
  refine (addrOrZero_any _ _ _ _ _ _ hz _).mono ?_
  rintro e w1 ⟨rfl, hb⟩
  obtain ⟨hc, hf⟩ := olds (n := w.heap.size + 2) (hb.mono (by simp))
  have hz1 : w.heap.size + 1 < w1.heap.size := by have := hb.size; simp at this; omega
  have hz0 : w.heap.size < w1.heap.size := by omega
  have b1 : Below w.heap.size w w1 := (((Below.refl _ w).alloc (Nat.le_refl _) _).alloc (by simp) _).trans (hb.mono (by simp; omega))
  go_wp2_with (first | simp only [a1.out] | simp only [a2.out])
  refine (iAddrOk_any _ _ _ _).mono ?_
  rw [hk.out]
  rintro e w2 ⟨rfl, hb2⟩
  obtain ⟨hc2, hf2⟩ := olds (n := w1.heap.size + 1) (hb2.mono (by simp))
  have y0 : w.heap.size < w1.heap.size + 1 := by omega
  have y1 : w.heap.size + 1 < w1.heap.size + 1 := by omega
  have hz2 : w1.heap.size < w2.heap.size := by have := hb2.size; simp at this; omega
  have b2 : Below w.heap.size w w2 := by
    refine Below.trans ?_ (hb2.mono (by simp; omega))
    repeat (first | with_reducible exact b1 | (with_reducible refine Below.setCell ?_ (by first | omega | (simp; done) | (simp; omega)) _) | (with_reducible refine Below.alloc ?_ (by first | omega | (simp; done) | (simp; omega)) _))
  go_wp2_with fail
  refine bodyPost_ret (v := .tuple #[.agg #[.bool S, .int .i64 (wrap64 hi), .int .i64 (wrap64 lo)], .bool true]) (by simp [results, Tryd.results12, go_sem, hc2, hc, hz1, y1]) rfl ⟨rfl, ?_⟩
  repeat (first | with_reducible exact b2 | (with_reducible refine Below.setCell ?_ (by first | omega | (simp; done) | (simp; omega)) _) | (with_reducible refine Below.alloc ?_ (by first | omega | (simp; done) | (simp; omega)) _))

end Go.Proofs.YtofnnpjadehgmaaDoor
