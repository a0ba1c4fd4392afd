/-
  The specification's DrawPutNum and DrawPutAddr: some number, some address of words of 64 bits; nothing old turns.
-/
import Derived.Test.YtdcbmeiopfdkeaaWDrawA
import Derived.Test.YtdcbmeiopfdkeaaWNew
namespace Go.Proofs.Ytdcbmeiopfdkeaa
open Go.RowKit

set_option maxHeartbeats 1000000 in
theorem drawPutNum_any (a : Option Addr) (len cap : Nat) (w : World) (hB : Bytes w a len) (hl : len ≤ 1048576) :
    Calls Try.prog 10 #[.slice a len cap] w fun e w' => (∃ x : Int, I64 x ∧ e = .returned (.int .i64 x)) ∧ Below w.heap.size w w' := by
  have HB : Hid (Bytes w a len) := hB
  clear hB
  go_enter Try.func10, Try.ntmps10
  go_wp2_with fail
  refine (l1New_any a len cap _ HB.out hl).mono ?_
  rintro e w1 ⟨rfl, hC1, hb1, hs1⟩
  have HC1 : Hid (Cur w1 w.heap.size a len cap) := hC1
  clear hC1 hs1
  go_wp2_with fail
  refine (l1Once_any w.heap.size a len cap 2 _ HC1.out).mono ?_
  rintro e w2 ⟨⟨B, rfl⟩, hC2, hK2⟩
  have HC2 : Hid (Cur w2 w.heap.size a len cap) := hC2
  have b2 : Below w.heap.size w w2 := hb1.trans hK2.low
  clear hC2 hK2
  cases B
  · go_wp2_with fail
    refine (l1Below_any w.heap.size a len cap 16000000 _ HC2.out).mono ?_
    rintro e w3 ⟨⟨x, x0, x9, rfl⟩, hC3, hK3⟩
    have HC3 : Hid (Cur w3 w.heap.size a len cap) := hC3
    have b3 : Below w.heap.size w w3 := b2.trans hK3.low
    have x8 := x9 (by omega)
    clear hC3 hK3 x9
    go_wp2_with fail
    refine (l1Below_any w.heap.size a len cap 24 _ HC3.out).mono ?_
    rintro e w4 ⟨⟨y, y0, y9, rfl⟩, _, hK4⟩
    have b4 : Below w.heap.size w w4 := b3.trans hK4.low
    have y8 := y9 (by omega)
    clear hK4 y9
    go_wp2_with fail
    go_ret
    have q0 : 0 ≤ x / 2 ^ y.toNat := Int.ediv_nonneg x0 (Int.le_of_lt (Int.pow_pos (by decide)))
    have q1 : x / 2 ^ y.toNat ≤ x := Int.ediv_le_self _ x0
    exact ⟨⟨x / 2 ^ y.toNat, by unfold I64; omega, rfl⟩, b4⟩
  · go_wp2_with fail
    refine (l1Odd_any w.heap.size a len cap _ HC2.out).mono ?_
    rintro e w3 ⟨⟨x, xb, rfl⟩, _, hK3⟩
    have HX : Hid (I64 x) := xb
    have b3 : Below w.heap.size w w3 := b2.trans hK3.low
    clear xb hK3
    go_wp2_with fail
    go_ret
    exact ⟨⟨x, HX.out, rfl⟩, b3⟩

set_option maxHeartbeats 1000000 in
theorem drawPutAddr_any (a : Option Addr) (len cap : Nat) (w : World) (hB : Bytes w a len) (hl : len ≤ 1048576) :
    Calls Try.prog 23 #[.slice a len cap] w fun e w' => (∃ (S : Bool) (X Y : Int), (I64 X ∧ I64 Y) ∧ e = .returned (.agg #[.bool S, .int .i64 X, .int .i64 Y])) ∧ Below w.heap.size w w' := by
  have HB : Hid (Bytes (w.alloc (.cells #[.bool false, .int .i64 0, .int .i64 0] 38)) a len) := fun j hj => by
    obtain ⟨p, o, v, ha, hp, cv, v0, v9⟩ := hB j hj
    exact ⟨p, o, v, ha, by simp; omega, (((Below.refl _ w).alloc (Nat.le_refl _) _).cell hp).trans cv, v0, v9⟩
  clear hB
  go_enter Try.func23, Try.ntmps23
  go_wp2_with fail
  refine (l1New_any a len cap _ HB.out hl).mono ?_
  rintro e w1 ⟨rfl, hC1, hb1, hs1⟩
  have hC1' : Cur w1 (w.heap.size + 1) a len cap := by simpa using hC1
  have HC1 : Hid (Cur w1 (w.heap.size + 1) a len cap) := hC1'
  have hs : w1.heap.size = w.heap.size + 2 := by simpa using hs1
  obtain ⟨hc1, hf1⟩ := olds (n := w.heap.size + 1) (hb1.mono (by simp))
  have b1 : Below w.heap.size w w1 := ((Below.refl _ w).alloc (Nat.le_refl _) _).trans (hb1.mono (by simp))
  clear hC1 hC1' hs1 hb1
  go_wp2_with fail
  refine (l1DrawAny_any (w.heap.size + 1) a len cap _ HC1.out).mono ?_
  rintro e w2 ⟨⟨S, X, Y, bb, rfl⟩, _, hK2⟩
  have HB2 : Hid (I64 X ∧ I64 Y) := bb
  have d2 := fun o => hK2.cel w.heap.size o (by omega) (by omega)
  have g2 := fun o => hK2.frz w.heap.size o (by omega) (by omega)
  have b2 : Below w.heap.size w w2 := b1.trans (hK2.low.mono (by omega))
  have z2 : w.heap.size < w2.heap.size := by have := hK2.big; omega
  clear hK2 bb
  go_wp2_with fail
  refine bodyPost_ret (v := .agg #[.bool S, .int .i64 X, .int .i64 Y]) (by simp [results, Try.results23, go_sem, d2, hc1]) rfl ⟨⟨S, X, Y, HB2.out, rfl⟩, ?_⟩
  repeat (first | with_reducible exact b2 | (with_reducible refine Below.setCell ?_ (by first | omega | (simp; done) | (simp; omega)) _))

end Go.Proofs.Ytdcbmeiopfdkeaa
