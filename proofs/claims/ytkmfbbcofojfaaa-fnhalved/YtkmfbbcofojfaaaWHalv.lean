/-
  The specification's DrawHalves: some prefix of words of 64 bits; nothing old turns.
-/
import Derived.Test.YtkmfbbcofojfaaaWDraw3
import Derived.Test.YtkmfbbcofojfaaaWNew
namespace Go.Proofs.Ytkmfbbcofojfaaa
open Go.RowKit

set_option maxHeartbeats 1000000 in
theorem drawHalves_any (a : Option Addr) (len cap : Nat) (w : World) (hB : Bytes w a len) (hl : len ≤ 1048576) :
    Calls Try.prog 8 #[.slice a len cap] w fun e w' => (∃ (S : Bool) (X Y Z : Int), (I64 X ∧ I64 Y ∧ I64 Z) ∧ e = .returned (.agg #[.bool S, .int .i64 X, .int .i64 Y, .int .i64 Z])) ∧ Below w.heap.size w w' := by
  have HB : Hid (Bytes (w.alloc (.cells #[.bool false, .int .i64 0, .int .i64 0, .int .i64 0] 27)) a len) := fun j hj => by
    obtain ⟨p, o, v, ha, hp, cv, v0, v9⟩ := hB j hj
    exact ⟨p, o, v, ha, by simp; omega, (((Below.refl _ w).alloc (Nat.le_refl _) _).cell hp).trans cv, v0, v9⟩
  clear hB
  go_enter Try.func8, Try.ntmps8
  go_wp2_with fail
  refine (l1New_any a len cap _ HB.out hl).mono ?_
  rintro e w1 ⟨rfl, hC1, hb1, hs1⟩
  have hC1' : Cur w1 (w.heap.size + 1) a len cap := by simpa using hC1
  have HC1 : Hid (Cur w1 (w.heap.size + 1) a len cap) := hC1'
  have hs : w1.heap.size = w.heap.size + 2 := by simpa using hs1
  obtain ⟨hc1, hf1⟩ := olds (n := w.heap.size + 1) (hb1.mono (by simp))
  have b1 : Below w.heap.size w w1 := ((Below.refl _ w).alloc (Nat.le_refl _) _).trans (hb1.mono (by simp))
  clear hC1 hC1' hs1 hb1
  go_wp2_with fail
  refine (l2DrawAny_any (w.heap.size + 1) a len cap _ HC1.out).mono ?_
  rintro e w2 ⟨⟨S, X, Y, Z, bb, rfl⟩, _, hK2⟩
  have HB2 : Hid (I64 X ∧ I64 Y ∧ I64 Z) := bb
  have d2 := fun o => hK2.cel w.heap.size o (by omega) (by omega)
  have g2 := fun o => hK2.frz w.heap.size o (by omega) (by omega)
  have b2 : Below w.heap.size w w2 := b1.trans (hK2.low.mono (by omega))
  have z2 : w.heap.size < w2.heap.size := by have := hK2.big; omega
  clear hK2 bb
  go_wp2_with fail
  refine bodyPost_ret (v := .agg #[.bool S, .int .i64 X, .int .i64 Y, .int .i64 Z]) (by simp [results, Try.results8, go_sem, d2, hc1]) rfl ⟨⟨S, X, Y, Z, HB2.out, rfl⟩, ?_⟩
  repeat (first | with_reducible exact b2 | (with_reducible refine Below.setCell ?_ (by first | omega | (simp; done) | (simp; omega)) _))

end Go.Proofs.Ytkmfbbcofojfaaa
