/-
  The draw of an address and a number to be added: some words of 64 bits; nothing old in memory turns.
-/
import Derived.Test.YtofnnpjadehgmaaDoorWDrawA
import Derived.Test.YtofnnpjadehgmaaDoorWNew
import Derived.Test.YtofnnpjadehgmaaDoorPRow
import Derived.Deep.RegionWith
namespace Go.Proofs.YtofnnpjadehgmaaDoor
open Go.RowKit

theorem seven {W : World} {q : Nat} {z0 z1 z2 z3 z4 z5 z6 : Int} (c0 : W.cell? ⟨q, 0, none⟩ = some (.int .i64 z0)) (c1 : W.cell? ⟨q, 1, none⟩ = some (.int .i64 z1)) (c2 : W.cell? ⟨q, 2, none⟩ = some (.int .i64 z2)) (c3 : W.cell? ⟨q, 3, none⟩ = some (.int .i64 z3)) (c4 : W.cell? ⟨q, 4, none⟩ = some (.int .i64 z4)) (c5 : W.cell? ⟨q, 5, none⟩ = some (.int .i64 z5)) (c6 : W.cell? ⟨q, 6, none⟩ = some (.int .i64 z6))
    (i0 : I64 z0) (i1 : I64 z1) (i2 : I64 z2) (i3 : I64 z3) (i4 : I64 z4) (i5 : I64 z5) (i6 : I64 z6) (j : Nat) (hj : j < 7) : ∃ z, I64 z ∧ W.cell? ⟨q, j, none⟩ = some (.int .i64 z) := by
  have : j = 0 ∨ j = 1 ∨ j = 2 ∨ j = 3 ∨ j = 4 ∨ j = 5 ∨ j = 6 := by omega
  rcases this with rfl | rfl | rfl | rfl | rfl | rfl | rfl
  · exact ⟨_, i0, c0⟩
  · exact ⟨_, i1, c1⟩
  · exact ⟨_, i2, c2⟩
  · exact ⟨_, i3, c3⟩
  · exact ⟨_, i4, c4⟩
  · exact ⟨_, i5, c5⟩
  · exact ⟨_, i6, c6⟩

set_option maxRecDepth 10000 in
set_option maxHeartbeats 4000000 in
theorem drawAddTo_any (a : Option Addr) (len cap : Nat) (w : World) (hB : Bytes w a len) (hl : len ≤ 1048576) :
    Calls Tryd.prog 7 #[.slice a len cap] w fun e w' => (∃ (S : Bool) (X Y N : Int), (I64 X ∧ I64 Y ∧ I64 N) ∧ e = .returned (.tuple #[.agg #[.bool S, .int .i64 X, .int .i64 Y], .int .i64 N])) ∧ Below w.heap.size w w' := by
  have HB : Hid (Bytes (w.alloc (.cells #[.bool false, .int .i64 0, .int .i64 0] 25)) a len) := fun j hj => by
    obtain ⟨p, o, v, ha, hp, cv, v0, v9⟩ := hB j hj
    exact ⟨p, o, v, ha, by simp; omega, (((Below.refl _ w).alloc (Nat.le_refl _) _).cell hp).trans cv, v0, v9⟩
  clear hB
  go_enter Tryd.func7, Tryd.ntmps7
  go_wp2_with fail
  refine (l1New_any a len cap _ HB.out hl).mono ?_
  rintro e w1 ⟨rfl, hC1, hb1, hs1⟩
  have hC1' : Cur w1 (w.heap.size + 1) a len cap := by simpa using hC1
  have HC1 : Hid (Cur w1 (w.heap.size + 1) a len cap) := hC1'
  have hs : w1.heap.size = w.heap.size + 2 := by simpa using hs1
  obtain ⟨hc1, hf1⟩ := olds (n := w.heap.size + 1) (hb1.mono (by simp))
  have b1 : Below w.heap.size w w1 := ((Below.refl _ w).alloc (Nat.le_refl _) _).trans (hb1.mono (by simp))
  clear hC1 hC1' hs1 hb1
  go_wp2_with fail
  refine (l1DrawAny_any (w.heap.size + 1) a len cap _ HC1.out).mono ?_
  rintro e w2 ⟨⟨S, X, Y, bb, rfl⟩, hC2, hK2⟩
  have HI2 : Hid (I64 X ∧ I64 Y) := bb
  have HC2 : Hid (Cur w2 (w.heap.size + 1) a len cap) := hC2
  have r0 : w2.cell? ⟨w.heap.size, 0, none⟩ = some (.bool false) := (hK2.cel w.heap.size 0 (by omega) (by omega)).trans (by rw [hc1 _ _ (by omega)]; simp [go_sem])
  have r1 : w2.cell? ⟨w.heap.size, 1, none⟩ = some (.int .i64 0) := (hK2.cel w.heap.size 1 (by omega) (by omega)).trans (by rw [hc1 _ _ (by omega)]; simp [go_sem])
  have r2 : w2.cell? ⟨w.heap.size, 2, none⟩ = some (.int .i64 0) := (hK2.cel w.heap.size 2 (by omega) (by omega)).trans (by rw [hc1 _ _ (by omega)]; simp [go_sem])
  have rf : ∀ o, w2.frozen? ⟨w.heap.size, o, none⟩ = false := fun o => (hK2.frz w.heap.size o (by omega) (by omega)).trans (by rw [hf1 _ _ (by omega)]; simp [go_sem])
  have HB2 : Hid (Below w.heap.size w w2) := hidP (b1.trans (hK2.low.mono (by omega)))
  have z2 : w.heap.size + 2 ≤ w2.heap.size := by have := hK2.big; omega
  have z3 : w.heap.size < w2.heap.size := by omega
  clear hK2 bb hC2 hc1 hf1 b1 HC1 hs HB
  go_wp2_with fail
  go_region_with (first | (go_at_call 24; refine (l1Below_any (w.heap.size + 1) a len cap 1000 _ (by repeat (first | with_reducible exact HC2.out | (with_reducible refine Cur.more ?_ _) | (with_reducible refine Cur.drew ?_)))).mono ?_; rintro e w3 ⟨⟨x3, x30, x31, rfl⟩, hC3, hK3⟩; have hC3' := hidP hC3; have hK3' := hidP hK3; have b30 : w3.cell? ⟨w2.heap.size, 0, none⟩ = some (.bool S) := (hK3.cel w2.heap.size 0 (by simp) (by omega)).trans (by simp [go_sem]); have b31 : w3.cell? ⟨w2.heap.size, 1, none⟩ = some (.int .i64 X) := (hK3.cel w2.heap.size 1 (by simp) (by omega)).trans (by simp [go_sem]); have b32 : w3.cell? ⟨w2.heap.size, 2, none⟩ = some (.int .i64 Y) := (hK3.cel w2.heap.size 2 (by simp) (by omega)).trans (by simp [go_sem]); have k30 : w3.cell? ⟨w.heap.size, 0, none⟩ = some (.bool false) := (hK3.cel w.heap.size 0 (by simp; omega) (by omega)).trans (by simp [go_sem, r0, z3]); have k31 : w3.cell? ⟨w.heap.size, 1, none⟩ = some (.int .i64 0) := (hK3.cel w.heap.size 1 (by simp; omega) (by omega)).trans (by simp [go_sem, r1, z3]); have k32 : w3.cell? ⟨w.heap.size, 2, none⟩ = some (.int .i64 0) := (hK3.cel w.heap.size 2 (by simp; omega) (by omega)).trans (by simp [go_sem, r2, z3]); have k3f : ∀ o, w3.frozen? ⟨w.heap.size, o, none⟩ = false := (fun o => (hK3.frz w.heap.size o (by simp; omega) (by omega)).trans (by simp [go_sem, rf, z3])); have y3 := hK3.big; simp at y3; have l3 : w.heap.size < w3.heap.size := (by omega); have l3b : w2.heap.size < w3.heap.size := (by omega); have x32 := x31 (by omega); clear hC3 hK3 x31) | (go_at_call 23; refine (l1Int_any I64 (w.heap.size + 1) a len cap w3.heap.size 7 _ (by repeat (first | with_reducible exact hC3'.out | (with_reducible refine Cur.more ?_ _) | (with_reducible refine Cur.drew ?_))) (by omega) (by omega) (by simp) (by omega) (fun j hj => seven (z0 := 0) (z1 := 1) (z2 := 20) (z3 := 4294967295) (z4 := 9223372036854775807) (z5 := -1) (z6 := x3) (by simp [go_sem]) (by simp [go_sem]) (by simp [go_sem]) (by simp [go_sem]) (by simp [go_sem]) (by simp [go_sem]) (by simp [go_sem]) (by unfold I64; omega) (by unfold I64; omega) (by unfold I64; omega) (by unfold I64; omega) (by unfold I64; omega) (by unfold I64; omega) (by unfold I64; omega) j hj)).mono ?_; rintro e w4 ⟨⟨x4, x40, rfl⟩, hC4, hK4⟩; have HX4 := hidP x40; have hK4' := hidP hK4; have b40 : w4.cell? ⟨w2.heap.size, 0, none⟩ = some (.bool S) := (hK4.cel w2.heap.size 0 (by simp; omega) (by omega)).trans (by simp [go_sem, b30, l3b]); have b41 : w4.cell? ⟨w2.heap.size, 1, none⟩ = some (.int .i64 X) := (hK4.cel w2.heap.size 1 (by simp; omega) (by omega)).trans (by simp [go_sem, b31, l3b]); have b42 : w4.cell? ⟨w2.heap.size, 2, none⟩ = some (.int .i64 Y) := (hK4.cel w2.heap.size 2 (by simp; omega) (by omega)).trans (by simp [go_sem, b32, l3b]); have k40 : w4.cell? ⟨w.heap.size, 0, none⟩ = some (.bool false) := (hK4.cel w.heap.size 0 (by simp; omega) (by omega)).trans (by simp [go_sem, k30, l3]); have k41 : w4.cell? ⟨w.heap.size, 1, none⟩ = some (.int .i64 0) := (hK4.cel w.heap.size 1 (by simp; omega) (by omega)).trans (by simp [go_sem, k31, l3]); have k42 : w4.cell? ⟨w.heap.size, 2, none⟩ = some (.int .i64 0) := (hK4.cel w.heap.size 2 (by simp; omega) (by omega)).trans (by simp [go_sem, k32, l3]); have k4f : ∀ o, w4.frozen? ⟨w.heap.size, o, none⟩ = false := (fun o => (hK4.frz w.heap.size o (by simp; omega) (by omega)).trans (by simp [go_sem, k3f, l3])); have v3 := hK4.big; simp at v3; have l4 : w.heap.size < w4.heap.size := (by omega); clear hC4 hK4 x40))
  all_goals
    go_wp2_with fail
    refine bodyPost_ret (v := .tuple #[.agg #[.bool S, .int .i64 X, .int .i64 Y], .int .i64 x4]) (by simp [results, Tryd.results7, go_sem, k40, k41, k42]) rfl ⟨⟨S, X, Y, x4, ⟨HI2.out.1, HI2.out.2, HX4.out⟩, rfl⟩, ?_⟩
    repeat (first | (with_reducible refine Below.setCell ?_ (by first | omega | (simp; done) | (simp; omega)) _) | (with_reducible refine Below.drew ?_) | (with_reducible refine Below.alloc ?_ (by first | omega | (simp; done) | (simp; omega)) _) | with_reducible exact HB2.out | (with_reducible refine Below.trans ?_ (hK4'.out.low.mono (by omega))) | (with_reducible refine Below.trans ?_ (hK3'.out.low.mono (by omega))))

end Go.Proofs.YtofnnpjadehgmaaDoor
