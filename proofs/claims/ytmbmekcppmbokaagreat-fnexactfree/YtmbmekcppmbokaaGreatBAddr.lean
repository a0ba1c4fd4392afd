/-
  The program's small functions on an address's bits (width, lastBits, cleared, filled), each by its plain twin; nothing old in memory turns.
-/
import Derived.Test.YtmbmekcppmbokaaGreatAOk
import Derived.Test.YtmbmekcppmbokaaGreatBPlain
namespace Go.Proofs.YtmbmekcppmbokaaGreat
open Go.RowKit

def wd (s : Bool) : Nat := if s then 128 else 32

set_option maxHeartbeats 400000 in
theorem width_any (s : Bool) (h l : Int) (w : World) :
    Calls Tryz.prog 85 #[.agg #[.bool s, .int .i64 h, .int .i64 l]] w fun e w' => e = .returned (.int .i64 (wd s)) ∧ Below w.heap.size w w' := by
  cases s <;>
  · go_enter Tryz.func85, Tryz.ntmps85
    go_wp2
    go_ret
    exact ⟨rfl, (Below.refl _ _).alloc (Nat.le_refl _) _⟩

theorem loX (n : Nat) (h : n ≤ 128) : wrap64 (IntKind.u64.wrap (IntKind.u64.wrap (2 ^ min n 64) - 1)) = (ml n).toInt := by
  have : ∀ k : Fin 129, IntKind.i64.wrap (IntKind.u64.wrap (IntKind.u64.wrap (2 ^ min k.val 64) - 1)) = (ml k.val).toInt := by decide
  rw [w64]
  exact this ⟨n, by omega⟩
theorem hiX (n : Nat) (h : n ≤ 128) (h0 : 0 ≤ (n : Int) - 64) : wrap64 (IntKind.u64.wrap (IntKind.u64.wrap (2 ^ ((n : Int) - 64).toNat) - 1)) = (mh n).toInt := by
  have : ∀ k : Fin 129, IntKind.i64.wrap (IntKind.u64.wrap (IntKind.u64.wrap (2 ^ ((k.val : Int) - 64).toNat) - 1)) = (mh k.val).toInt := by decide
  rw [w64]
  exact this ⟨n, by omega⟩
theorem hiY (n : Nat) (h0 : (n : Int) - 64 < 0) : wrap64 (IntKind.u64.wrap (IntKind.u64.wrap 1 - 1)) = (mh n).toInt := by
  have : ∀ k : Fin 64, IntKind.i64.wrap (IntKind.u64.wrap (IntKind.u64.wrap 1 - 1)) = (mh k.val).toInt := by decide
  rw [w64]
  exact this ⟨n, by omega⟩

set_option maxHeartbeats 400000 in
theorem lastBits_any (n : Nat) (hn : n ≤ 128) (w : World) :
    Calls Tryz.prog 109 #[.int .i64 n] w fun e w' => e = .returned (.tuple #[.int .i64 (mh n).toInt, .int .i64 (ml n).toInt]) ∧ Below w.heap.size w w' := by
  go_enter Tryz.func109, Tryz.ntmps109
  go_wp2
  · exact bodyPost_ret (v := .tuple #[.int .i64 (mh n).toInt, .int .i64 (ml n).toInt]) (by simp [results, Tryz.results109, go_sem, loX n hn, hiY n (by assumption)]) rfl ⟨rfl, Below.refl _ _⟩
  · exact bodyPost_ret (v := .tuple #[.int .i64 (mh n).toInt, .int .i64 (ml n).toInt]) (by simp [results, Tryz.results109, go_sem, loX n hn, hiX n hn (by assumption)]) rfl ⟨rfl, Below.refl _ _⟩

set_option maxHeartbeats 400000 in
theorem cleared_any (s : Bool) (H L : BitVec 64) (n : Nat) (hn : n ≤ 128) (w : World) :
    Calls Tryz.prog 98 #[.agg #[.bool s, .int .i64 H.toInt, .int .i64 L.toInt], .int .i64 n] w fun e w' => e = .returned (.agg #[.bool s, .int .i64 (cH n H).toInt, .int .i64 (cL n L).toInt]) ∧ Below w.heap.size w w' := by
  go_enter Tryz.func98, Tryz.ntmps98
  go_wp2_with fail
  refine (lastBits_any n hn _).mono ?_
  rintro e w1 ⟨rfl, hb⟩
  obtain ⟨hc, hf⟩ := olds (n := w.heap.size + 2) (hb.mono (by simp))
  have hz1 : w.heap.size + 1 < w1.heap.size := by have := hb.size; simp at this; omega
  have hz0 : w.heap.size < w1.heap.size := by omega
  have b1 : Below w.heap.size w w1 := (((Below.refl _ w).alloc (Nat.le_refl _) _).alloc (by simp) _).trans (hb.mono (by simp; omega))
  go_wp2
  refine bodyPost_ret (v := .agg #[.bool s, .int .i64 (cH n H).toInt, .int .i64 (cL n L).toInt]) (by simp [results, Tryz.results98, go_sem, hc, bAN, cH, cL]) rfl ⟨rfl, ?_⟩
  repeat (first | with_reducible exact b1 | (with_reducible refine Below.setCell ?_ (by first | omega | (simp; done) | (simp; omega)) _) | (with_reducible refine Below.alloc ?_ (by first | omega | (simp; done) | (simp; omega)) _))

end Go.Proofs.YtmbmekcppmbokaaGreat
