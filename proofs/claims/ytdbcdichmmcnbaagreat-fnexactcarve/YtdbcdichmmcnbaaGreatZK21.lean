/-
  Both pool tests: the program's poolOk and the specification's.
-/
import Derived.Test.YtdbcdichmmcnbaaGreatZK19
import Derived.Test.YtdbcdichmmcnbaaGreatZK20
import Derived.Test.YtdbcdichmmcnbaaGreatZK6
import Derived.Test.YtdbcdichmmcnbaaGreatZK3
import Derived.Test.YtdbcdichmmcnbaaGreatZK5
import Derived.Deep.RegionWith
import Derived.Deep.RegionHeld3
import Derived.Test.YtdbcdichmmcnbaaGreatZK1
namespace Go.Proofs.YtdbcdichmmcnbaaGreat
open Go.RowKit

theorem box4 {p : Pf} (w : World) (t : TypeId) : (w.alloc (.cells #[.bool p.s, .int .i64 p.H.toInt, .int .i64 p.L.toInt, .int .i64 p.b] t)).cell? ⟨w.heap.size, 0, none⟩ = some (.bool p.s) ∧ (w.alloc (.cells #[.bool p.s, .int .i64 p.H.toInt, .int .i64 p.L.toInt, .int .i64 p.b] t)).cell? ⟨w.heap.size, 1, none⟩ = some (.int .i64 p.H.toInt) ∧ (w.alloc (.cells #[.bool p.s, .int .i64 p.H.toInt, .int .i64 p.L.toInt, .int .i64 p.b] t)).cell? ⟨w.heap.size, 2, none⟩ = some (.int .i64 p.L.toInt) ∧ (w.alloc (.cells #[.bool p.s, .int .i64 p.H.toInt, .int .i64 p.L.toInt, .int .i64 p.b] t)).cell? ⟨w.heap.size, 3, none⟩ = some (.int .i64 p.b) := by
  have h := own_one w 0 t p (Nat.zero_le _)
  exact ⟨World.ownsRow.cellAt h 0 (by show 0 < 1 * 4; omega), World.ownsRow.cellAt h 1 (by show 1 < 1 * 4; omega), World.ownsRow.cellAt h 2 (by show 2 < 1 * 4; omega), World.ownsRow.cellAt h 3 (by show 3 < 1 * 4; omega)⟩
theorem boxPl {q : Pl} (w : World) (t : TypeId) : (w.alloc (.cells #[.bool q.p.s, .int .i64 q.p.H.toInt, .int .i64 q.p.L.toInt, .int .i64 q.p.b, .int .i64 q.n] t)).cell? ⟨w.heap.size, 0, none⟩ = some (.bool q.p.s) ∧ (w.alloc (.cells #[.bool q.p.s, .int .i64 q.p.H.toInt, .int .i64 q.p.L.toInt, .int .i64 q.p.b, .int .i64 q.n] t)).cell? ⟨w.heap.size, 1, none⟩ = some (.int .i64 q.p.H.toInt) ∧ (w.alloc (.cells #[.bool q.p.s, .int .i64 q.p.H.toInt, .int .i64 q.p.L.toInt, .int .i64 q.p.b, .int .i64 q.n] t)).cell? ⟨w.heap.size, 2, none⟩ = some (.int .i64 q.p.L.toInt) ∧ (w.alloc (.cells #[.bool q.p.s, .int .i64 q.p.H.toInt, .int .i64 q.p.L.toInt, .int .i64 q.p.b, .int .i64 q.n] t)).cell? ⟨w.heap.size, 3, none⟩ = some (.int .i64 q.p.b) ∧ (w.alloc (.cells #[.bool q.p.s, .int .i64 q.p.H.toInt, .int .i64 q.p.L.toInt, .int .i64 q.p.b, .int .i64 q.n] t)).cell? ⟨w.heap.size, 4, none⟩ = some (.int .i64 q.n) := by
  have h := own_oneG KPl w 0 t q (Nat.zero_le _)
  exact ⟨World.ownsRow.cellAt h 0 (by show 0 < 1 * 5; omega), World.ownsRow.cellAt h 1 (by show 1 < 1 * 5; omega), World.ownsRow.cellAt h 2 (by show 2 < 1 * 5; omega), World.ownsRow.cellAt h 3 (by show 3 < 1 * 5; omega), World.ownsRow.cellAt h 4 (by show 4 < 1 * 5; omega)⟩
theorem boxBk {q : Bk} (w : World) (t : TypeId) : (w.alloc (.cells #[.bool q.p.s, .int .i64 q.p.H.toInt, .int .i64 q.p.L.toInt, .int .i64 q.p.b, .string q.t] t)).cell? ⟨w.heap.size, 0, none⟩ = some (.bool q.p.s) ∧ (w.alloc (.cells #[.bool q.p.s, .int .i64 q.p.H.toInt, .int .i64 q.p.L.toInt, .int .i64 q.p.b, .string q.t] t)).cell? ⟨w.heap.size, 1, none⟩ = some (.int .i64 q.p.H.toInt) ∧ (w.alloc (.cells #[.bool q.p.s, .int .i64 q.p.H.toInt, .int .i64 q.p.L.toInt, .int .i64 q.p.b, .string q.t] t)).cell? ⟨w.heap.size, 2, none⟩ = some (.int .i64 q.p.L.toInt) ∧ (w.alloc (.cells #[.bool q.p.s, .int .i64 q.p.H.toInt, .int .i64 q.p.L.toInt, .int .i64 q.p.b, .string q.t] t)).cell? ⟨w.heap.size, 3, none⟩ = some (.int .i64 q.p.b) ∧ (w.alloc (.cells #[.bool q.p.s, .int .i64 q.p.H.toInt, .int .i64 q.p.L.toInt, .int .i64 q.p.b, .string q.t] t)).cell? ⟨w.heap.size, 4, none⟩ = some (.string q.t) := by
  have h := own_oneG KBk w 0 t q (Nat.zero_le _)
  exact ⟨World.ownsRow.cellAt h 0 (by show 0 < 1 * 5; omega), World.ownsRow.cellAt h 1 (by show 1 < 1 * 5; omega), World.ownsRow.cellAt h 2 (by show 2 < 1 * 5; omega), World.ownsRow.cellAt h 3 (by show 3 < 1 * 5; omega), World.ownsRow.cellAt h 4 (by show 4 < 1 * 5; omega)⟩
theorem alloc_below (w : World) (o : Obj) : Below w.heap.size w (w.alloc o) := (Below.refl _ _).alloc (Nat.le_refl _) o
theorem alloc_lt (w : World) (o : Obj) : w.heap.size < (w.alloc o).heap.size := by simp
set_option maxRecDepth 10000 in
set_option maxHeartbeats 400000 in
theorem iPoolOk_a (q : Pl) (w : World) (hpk : pokB q.p.s q.p.H q.p.L q.p.b = false) :
    Calls Tryz.prog 56 #[.agg #[.bool q.p.s, .int .i64 q.p.H.toInt, .int .i64 q.p.L.toInt, .int .i64 q.p.b, .int .i64 q.n]] w fun e w' => e = .returned (.bool false) ∧ Below w.heap.size w w' := by
  have HP := hidP (iPrefixOk_any q.p.s q.p.H q.p.L q.p.b)
  have HWd := hidP (width_any q.p.s q.p.H.toInt q.p.L.toInt)
  rw [hpk] at HP
  go_enter Tryz.func56, Tryz.ntmps56
  go_wp2_with fail
  obtain ⟨x0, x1, x2, x3, x4⟩ := boxPl (q := q) w 46
  have xB := alloc_below w (.cells #[.bool q.p.s, .int .i64 q.p.H.toInt, .int .i64 q.p.L.toInt, .int .i64 q.p.b, .int .i64 q.n] 46)
  have xL := alloc_lt w (.cells #[.bool q.p.s, .int .i64 q.p.H.toInt, .int .i64 q.p.L.toInt, .int .i64 q.p.b, .int .i64 q.n] 46)
  have xS : (w.alloc (.cells #[.bool q.p.s, .int .i64 q.p.H.toInt, .int .i64 q.p.L.toInt, .int .i64 q.p.b, .int .i64 q.n] 46)).heap.size = w.heap.size + 1 := by simp
  generalize w.alloc (.cells #[.bool q.p.s, .int .i64 q.p.H.toInt, .int .i64 q.p.L.toInt, .int .i64 q.p.b, .int .i64 q.n] 46) = W1 at *
  obtain ⟨y0, y1, y2, y3⟩ := box4 (p := q.p) W1 31
  have yB := alloc_below W1 (.cells #[.bool q.p.s, .int .i64 q.p.H.toInt, .int .i64 q.p.L.toInt, .int .i64 q.p.b] 31)
  have yL := alloc_lt W1 (.cells #[.bool q.p.s, .int .i64 q.p.H.toInt, .int .i64 q.p.L.toInt, .int .i64 q.p.b] 31)
  have yS : (W1.alloc (.cells #[.bool q.p.s, .int .i64 q.p.H.toInt, .int .i64 q.p.L.toInt, .int .i64 q.p.b] 31)).heap.size = W1.heap.size + 1 := by simp
  generalize W1.alloc (.cells #[.bool q.p.s, .int .i64 q.p.H.toInt, .int .i64 q.p.L.toInt, .int .i64 q.p.b] 31) = W2 at *
  rw [xS] at y0 y1 y2 y3 yL yS
  have z0 := (yB.cell xL).trans x0
  have z1 := (yB.cell xL).trans x1
  have z2 := (yB.cell xL).trans x2
  have z3 := (yB.cell xL).trans x3
  have z4 := (yB.cell xL).trans x4
  have zL : w.heap.size < W2.heap.size := by omega
  have HXB := hidP (xB.trans (yB.mono xB.size))
  clear x0 x1 x2 x3 x4 xB yB xS yS xL
  have HSx : Hid (∀ x, Below W2.heap.size W2 x → (x.cell? ⟨w.heap.size, 0, none⟩ = some (.bool q.p.s) ∧ x.cell? ⟨w.heap.size, 1, none⟩ = some (.int .i64 q.p.H.toInt) ∧ x.cell? ⟨w.heap.size, 2, none⟩ = some (.int .i64 q.p.L.toInt) ∧ x.cell? ⟨w.heap.size, 3, none⟩ = some (.int .i64 q.p.b) ∧ x.cell? ⟨w.heap.size, 4, none⟩ = some (.int .i64 q.n) ∧ x.cell? ⟨w.heap.size + 1, 0, none⟩ = some (.bool q.p.s) ∧ x.cell? ⟨w.heap.size + 1, 1, none⟩ = some (.int .i64 q.p.H.toInt) ∧ x.cell? ⟨w.heap.size + 1, 2, none⟩ = some (.int .i64 q.p.L.toInt) ∧ x.cell? ⟨w.heap.size + 1, 3, none⟩ = some (.int .i64 q.p.b) ∧ Below W2.heap.size W2 x)) := hidP fun x h =>
    ⟨(h.cell zL).trans z0, (h.cell zL).trans z1, (h.cell zL).trans z2, (h.cell zL).trans z3, (h.cell zL).trans z4, (h.cell yL).trans y0, (h.cell yL).trans y1, (h.cell yL).trans y2, (h.cell yL).trans y3, h⟩
  refine wp_region_held_drew (S := (fun x => x.cell? ⟨w.heap.size, 0, none⟩ = some (.bool q.p.s) ∧ x.cell? ⟨w.heap.size, 1, none⟩ = some (.int .i64 q.p.H.toInt) ∧ x.cell? ⟨w.heap.size, 2, none⟩ = some (.int .i64 q.p.L.toInt) ∧ x.cell? ⟨w.heap.size, 3, none⟩ = some (.int .i64 q.p.b) ∧ x.cell? ⟨w.heap.size, 4, none⟩ = some (.int .i64 q.n) ∧ x.cell? ⟨w.heap.size + 1, 0, none⟩ = some (.bool q.p.s) ∧ x.cell? ⟨w.heap.size + 1, 1, none⟩ = some (.int .i64 q.p.H.toInt) ∧ x.cell? ⟨w.heap.size + 1, 2, none⟩ = some (.int .i64 q.p.L.toInt) ∧ x.cell? ⟨w.heap.size + 1, 3, none⟩ = some (.int .i64 q.p.b) ∧ Below W2.heap.size W2 x)) (by kernel_rfl) ?_ (fun hHeld => ?_)
  · try dsimp only
    exact HSx.out _ ((Below.refl _ _).drew)
  refine tk 0 6 rfl ?_
  simp only [pa]
  refine wpAnyH_ready (rs := [1]) (by kernel_rfl) (by simp) ?_
  refine AllReadyH.cons rfl (fun K hK => ?_) AllReadyH.nil
  go_simp
  go_wp2_with (first | (go_at_call 33; refine (HP.out _).mono ?_; rintro e w2 ⟨rfl, hb2⟩; have b2 := (hHeld.2.2.2.2.2.2.2.2.2).trans (hb2.mono (hHeld.2.2.2.2.2.2.2.2.2).size)))
  refine hK.out _ _ ?_ (fun hHeld => ?_)
  · try dsimp only
    exact HSx.out _ b2
  clear hK K
  refine tk 2 8 rfl ?_
  simp only [pa]
  refine sk 3 9 rfl ?_
  simp only [pa]
  refine sk 4 10 rfl ?_
  simp only [pa]
  refine sk 5 11 rfl ?_
  simp only [pa]
  refine sk 6 12 rfl ?_
  simp only [pa]
  refine sk 7 13 rfl ?_
  simp only [pa]
  refine tk 8 14 rfl ?_
  simp only [pa]
  refine tk 9 15 rfl ?_
  simp only [pa]
  refine sk 10 16 rfl ?_
  simp only [pa]
  refine sk 11 17 rfl ?_
  simp only [pa]
  refine sk 12 18 rfl ?_
  simp only [pa]
  refine sk 13 19 rfl ?_
  simp only [pa]
  refine sk 14 20 rfl ?_
  simp only [pa]
  refine sk 15 21 rfl ?_
  simp only [pa]
  refine sk 16 22 rfl ?_
  simp only [pa]
  refine sk 17 23 rfl ?_
  simp only [pa]
  refine sk 18 24 rfl ?_
  simp only [pa]
  refine sk 19 25 rfl ?_
  simp only [pa]
  refine tk 20 26 rfl ?_
  simp only [pa]
  refine tk 21 2 rfl ?_
  simp only [pa]
  have HE := hidP (hHeld.2.2.2.2.2.2.2.2.2)
  refine wpAnyH_done (by kernel_rfl) ?_ _
  clear hHeld
  go_wp2_with fail
  go_ret
  exact ⟨rfl, HXB.out.trans (HE.out.mono HXB.out.size)⟩

set_option maxRecDepth 10000 in
set_option maxHeartbeats 400000 in
theorem iPoolOk_b (q : Pl) (w : World) (hpk : pokB q.p.s q.p.H q.p.L q.p.b = true) (h1 : decide (q.p.b ≤ q.n) = false) :
    Calls Tryz.prog 56 #[.agg #[.bool q.p.s, .int .i64 q.p.H.toInt, .int .i64 q.p.L.toInt, .int .i64 q.p.b, .int .i64 q.n]] w fun e w' => e = .returned (.bool false) ∧ Below w.heap.size w w' := by
  have HP := hidP (iPrefixOk_any q.p.s q.p.H q.p.L q.p.b)
  have HWd := hidP (width_any q.p.s q.p.H.toInt q.p.L.toInt)
  rw [hpk] at HP
  go_enter Tryz.func56, Tryz.ntmps56
  go_wp2_with fail
  obtain ⟨x0, x1, x2, x3, x4⟩ := boxPl (q := q) w 46
  have xB := alloc_below w (.cells #[.bool q.p.s, .int .i64 q.p.H.toInt, .int .i64 q.p.L.toInt, .int .i64 q.p.b, .int .i64 q.n] 46)
  have xL := alloc_lt w (.cells #[.bool q.p.s, .int .i64 q.p.H.toInt, .int .i64 q.p.L.toInt, .int .i64 q.p.b, .int .i64 q.n] 46)
  have xS : (w.alloc (.cells #[.bool q.p.s, .int .i64 q.p.H.toInt, .int .i64 q.p.L.toInt, .int .i64 q.p.b, .int .i64 q.n] 46)).heap.size = w.heap.size + 1 := by simp
  generalize w.alloc (.cells #[.bool q.p.s, .int .i64 q.p.H.toInt, .int .i64 q.p.L.toInt, .int .i64 q.p.b, .int .i64 q.n] 46) = W1 at *
  obtain ⟨y0, y1, y2, y3⟩ := box4 (p := q.p) W1 31
  have yB := alloc_below W1 (.cells #[.bool q.p.s, .int .i64 q.p.H.toInt, .int .i64 q.p.L.toInt, .int .i64 q.p.b] 31)
  have yL := alloc_lt W1 (.cells #[.bool q.p.s, .int .i64 q.p.H.toInt, .int .i64 q.p.L.toInt, .int .i64 q.p.b] 31)
  have yS : (W1.alloc (.cells #[.bool q.p.s, .int .i64 q.p.H.toInt, .int .i64 q.p.L.toInt, .int .i64 q.p.b] 31)).heap.size = W1.heap.size + 1 := by simp
  generalize W1.alloc (.cells #[.bool q.p.s, .int .i64 q.p.H.toInt, .int .i64 q.p.L.toInt, .int .i64 q.p.b] 31) = W2 at *
  rw [xS] at y0 y1 y2 y3 yL yS
  have z0 := (yB.cell xL).trans x0
  have z1 := (yB.cell xL).trans x1
  have z2 := (yB.cell xL).trans x2
  have z3 := (yB.cell xL).trans x3
  have z4 := (yB.cell xL).trans x4
  have zL : w.heap.size < W2.heap.size := by omega
  have HXB := hidP (xB.trans (yB.mono xB.size))
  clear x0 x1 x2 x3 x4 xB yB xS yS xL
  have HSx : Hid (∀ x, Below W2.heap.size W2 x → (x.cell? ⟨w.heap.size, 0, none⟩ = some (.bool q.p.s) ∧ x.cell? ⟨w.heap.size, 1, none⟩ = some (.int .i64 q.p.H.toInt) ∧ x.cell? ⟨w.heap.size, 2, none⟩ = some (.int .i64 q.p.L.toInt) ∧ x.cell? ⟨w.heap.size, 3, none⟩ = some (.int .i64 q.p.b) ∧ x.cell? ⟨w.heap.size, 4, none⟩ = some (.int .i64 q.n) ∧ x.cell? ⟨w.heap.size + 1, 0, none⟩ = some (.bool q.p.s) ∧ x.cell? ⟨w.heap.size + 1, 1, none⟩ = some (.int .i64 q.p.H.toInt) ∧ x.cell? ⟨w.heap.size + 1, 2, none⟩ = some (.int .i64 q.p.L.toInt) ∧ x.cell? ⟨w.heap.size + 1, 3, none⟩ = some (.int .i64 q.p.b) ∧ Below W2.heap.size W2 x)) := hidP fun x h =>
    ⟨(h.cell zL).trans z0, (h.cell zL).trans z1, (h.cell zL).trans z2, (h.cell zL).trans z3, (h.cell zL).trans z4, (h.cell yL).trans y0, (h.cell yL).trans y1, (h.cell yL).trans y2, (h.cell yL).trans y3, h⟩
  refine wp_region_held_drew (S := (fun x => x.cell? ⟨w.heap.size, 0, none⟩ = some (.bool q.p.s) ∧ x.cell? ⟨w.heap.size, 1, none⟩ = some (.int .i64 q.p.H.toInt) ∧ x.cell? ⟨w.heap.size, 2, none⟩ = some (.int .i64 q.p.L.toInt) ∧ x.cell? ⟨w.heap.size, 3, none⟩ = some (.int .i64 q.p.b) ∧ x.cell? ⟨w.heap.size, 4, none⟩ = some (.int .i64 q.n) ∧ x.cell? ⟨w.heap.size + 1, 0, none⟩ = some (.bool q.p.s) ∧ x.cell? ⟨w.heap.size + 1, 1, none⟩ = some (.int .i64 q.p.H.toInt) ∧ x.cell? ⟨w.heap.size + 1, 2, none⟩ = some (.int .i64 q.p.L.toInt) ∧ x.cell? ⟨w.heap.size + 1, 3, none⟩ = some (.int .i64 q.p.b) ∧ Below W2.heap.size W2 x)) (by kernel_rfl) ?_ (fun hHeld => ?_)
  · try dsimp only
    exact HSx.out _ ((Below.refl _ _).drew)
  refine tk 0 6 rfl ?_
  simp only [pa]
  refine wpAnyH_ready (rs := [1]) (by kernel_rfl) (by simp) ?_
  refine AllReadyH.cons rfl (fun K hK => ?_) AllReadyH.nil
  go_simp
  go_wp2_with (first | (go_at_call 33; refine (HP.out _).mono ?_; rintro e w2 ⟨rfl, hb2⟩; have b2 := (hHeld.2.2.2.2.2.2.2.2.2).trans (hb2.mono (hHeld.2.2.2.2.2.2.2.2.2).size)))
  refine hK.out _ _ ?_ (fun hHeld => ?_)
  · try dsimp only
    exact HSx.out _ b2
  clear hK K
  refine tk 2 8 rfl ?_
  simp only [pa]
  refine tk 3 9 rfl ?_
  simp only [pa]
  refine tk 4 10 rfl ?_
  simp only [pa]
  refine tk 5 11 rfl ?_
  simp only [pa]
  refine tk 6 12 rfl ?_
  simp only [pa]
  refine tk 7 13 rfl ?_
  simp only [pa]
  refine tk 8 14 rfl ?_
  simp only [pa]
  refine tk 9 15 rfl ?_
  simp only [pa]
  refine sk 10 16 rfl ?_
  simp only [pa]
  refine sk 11 17 rfl ?_
  simp only [pa]
  refine sk 12 18 rfl ?_
  simp only [pa]
  refine sk 13 19 rfl ?_
  simp only [pa]
  refine sk 14 20 rfl ?_
  simp only [pa]
  refine sk 15 21 rfl ?_
  simp only [pa]
  refine sk 16 22 rfl ?_
  simp only [pa]
  refine sk 17 23 rfl ?_
  simp only [pa]
  refine sk 18 24 rfl ?_
  simp only [pa]
  refine sk 19 25 rfl ?_
  simp only [pa]
  refine tk 20 26 rfl ?_
  simp only [pa]
  refine tk 21 2 rfl ?_
  simp only [pa]
  have HE := hidP (hHeld.2.2.2.2.2.2.2.2.2)
  refine wpAnyH_done (by kernel_rfl) ?_ _
  clear hHeld
  go_wp2_with fail
  go_ret
  exact ⟨rfl, HXB.out.trans (HE.out.mono HXB.out.size)⟩

set_option maxRecDepth 10000 in
set_option maxHeartbeats 400000 in
theorem iPoolOk_c (q : Pl) (w : World) (hpk : pokB q.p.s q.p.H q.p.L q.p.b = true) (h1 : decide (q.p.b ≤ q.n) = true) (hw : IntKind.i64.wrap (q.p.b + 20) = q.p.b + 20) (hm : q.p.b + 20 < (wd q.p.s : Int)) :
    Calls Tryz.prog 56 #[.agg #[.bool q.p.s, .int .i64 q.p.H.toInt, .int .i64 q.p.L.toInt, .int .i64 q.p.b, .int .i64 q.n]] w fun e w' => e = .returned (.bool (decide (q.n ≤ q.p.b + 20))) ∧ Below w.heap.size w w' := by
  have HP := hidP (iPrefixOk_any q.p.s q.p.H q.p.L q.p.b)
  have HWd := hidP (width_any q.p.s q.p.H.toInt q.p.L.toInt)
  rw [hpk] at HP
  go_enter Tryz.func56, Tryz.ntmps56
  go_wp2_with fail
  obtain ⟨x0, x1, x2, x3, x4⟩ := boxPl (q := q) w 46
  have xB := alloc_below w (.cells #[.bool q.p.s, .int .i64 q.p.H.toInt, .int .i64 q.p.L.toInt, .int .i64 q.p.b, .int .i64 q.n] 46)
  have xL := alloc_lt w (.cells #[.bool q.p.s, .int .i64 q.p.H.toInt, .int .i64 q.p.L.toInt, .int .i64 q.p.b, .int .i64 q.n] 46)
  have xS : (w.alloc (.cells #[.bool q.p.s, .int .i64 q.p.H.toInt, .int .i64 q.p.L.toInt, .int .i64 q.p.b, .int .i64 q.n] 46)).heap.size = w.heap.size + 1 := by simp
  generalize w.alloc (.cells #[.bool q.p.s, .int .i64 q.p.H.toInt, .int .i64 q.p.L.toInt, .int .i64 q.p.b, .int .i64 q.n] 46) = W1 at *
  obtain ⟨y0, y1, y2, y3⟩ := box4 (p := q.p) W1 31
  have yB := alloc_below W1 (.cells #[.bool q.p.s, .int .i64 q.p.H.toInt, .int .i64 q.p.L.toInt, .int .i64 q.p.b] 31)
  have yL := alloc_lt W1 (.cells #[.bool q.p.s, .int .i64 q.p.H.toInt, .int .i64 q.p.L.toInt, .int .i64 q.p.b] 31)
  have yS : (W1.alloc (.cells #[.bool q.p.s, .int .i64 q.p.H.toInt, .int .i64 q.p.L.toInt, .int .i64 q.p.b] 31)).heap.size = W1.heap.size + 1 := by simp
  generalize W1.alloc (.cells #[.bool q.p.s, .int .i64 q.p.H.toInt, .int .i64 q.p.L.toInt, .int .i64 q.p.b] 31) = W2 at *
  rw [xS] at y0 y1 y2 y3 yL yS
  have z0 := (yB.cell xL).trans x0
  have z1 := (yB.cell xL).trans x1
  have z2 := (yB.cell xL).trans x2
  have z3 := (yB.cell xL).trans x3
  have z4 := (yB.cell xL).trans x4
  have zL : w.heap.size < W2.heap.size := by omega
  have HXB := hidP (xB.trans (yB.mono xB.size))
  clear x0 x1 x2 x3 x4 xB yB xS yS xL
  have HSx : Hid (∀ x, Below W2.heap.size W2 x → (x.cell? ⟨w.heap.size, 0, none⟩ = some (.bool q.p.s) ∧ x.cell? ⟨w.heap.size, 1, none⟩ = some (.int .i64 q.p.H.toInt) ∧ x.cell? ⟨w.heap.size, 2, none⟩ = some (.int .i64 q.p.L.toInt) ∧ x.cell? ⟨w.heap.size, 3, none⟩ = some (.int .i64 q.p.b) ∧ x.cell? ⟨w.heap.size, 4, none⟩ = some (.int .i64 q.n) ∧ x.cell? ⟨w.heap.size + 1, 0, none⟩ = some (.bool q.p.s) ∧ x.cell? ⟨w.heap.size + 1, 1, none⟩ = some (.int .i64 q.p.H.toInt) ∧ x.cell? ⟨w.heap.size + 1, 2, none⟩ = some (.int .i64 q.p.L.toInt) ∧ x.cell? ⟨w.heap.size + 1, 3, none⟩ = some (.int .i64 q.p.b) ∧ Below W2.heap.size W2 x)) := hidP fun x h =>
    ⟨(h.cell zL).trans z0, (h.cell zL).trans z1, (h.cell zL).trans z2, (h.cell zL).trans z3, (h.cell zL).trans z4, (h.cell yL).trans y0, (h.cell yL).trans y1, (h.cell yL).trans y2, (h.cell yL).trans y3, h⟩
  refine wp_region_held_drew (S := (fun x => x.cell? ⟨w.heap.size, 0, none⟩ = some (.bool q.p.s) ∧ x.cell? ⟨w.heap.size, 1, none⟩ = some (.int .i64 q.p.H.toInt) ∧ x.cell? ⟨w.heap.size, 2, none⟩ = some (.int .i64 q.p.L.toInt) ∧ x.cell? ⟨w.heap.size, 3, none⟩ = some (.int .i64 q.p.b) ∧ x.cell? ⟨w.heap.size, 4, none⟩ = some (.int .i64 q.n) ∧ x.cell? ⟨w.heap.size + 1, 0, none⟩ = some (.bool q.p.s) ∧ x.cell? ⟨w.heap.size + 1, 1, none⟩ = some (.int .i64 q.p.H.toInt) ∧ x.cell? ⟨w.heap.size + 1, 2, none⟩ = some (.int .i64 q.p.L.toInt) ∧ x.cell? ⟨w.heap.size + 1, 3, none⟩ = some (.int .i64 q.p.b) ∧ Below W2.heap.size W2 x)) (by kernel_rfl) ?_ (fun hHeld => ?_)
  · try dsimp only
    exact HSx.out _ ((Below.refl _ _).drew)
  refine tk 0 6 rfl ?_
  simp only [pa]
  refine wpAnyH_ready (rs := [1]) (by kernel_rfl) (by simp) ?_
  refine AllReadyH.cons rfl (fun K hK => ?_) AllReadyH.nil
  go_simp
  go_wp2_with (first | (go_at_call 33; refine (HP.out _).mono ?_; rintro e w2 ⟨rfl, hb2⟩; have b2 := (hHeld.2.2.2.2.2.2.2.2.2).trans (hb2.mono (hHeld.2.2.2.2.2.2.2.2.2).size)))
  refine hK.out _ _ ?_ (fun hHeld => ?_)
  · try dsimp only
    exact HSx.out _ b2
  clear hK K
  refine tk 2 8 rfl ?_
  simp only [pa]
  refine tk 3 9 rfl ?_
  simp only [pa]
  refine tk 4 10 rfl ?_
  simp only [pa]
  refine tk 5 11 rfl ?_
  simp only [pa]
  refine tk 6 12 rfl ?_
  simp only [pa]
  refine tk 7 13 rfl ?_
  simp only [pa]
  refine tk 8 14 rfl ?_
  simp only [pa]
  refine tk 9 15 rfl ?_
  simp only [pa]
  refine tk 10 16 rfl ?_
  simp only [pa]
  refine tk 11 17 rfl ?_
  simp only [pa]
  refine tk 12 18 rfl ?_
  simp only [pa]
  refine tk 13 19 rfl ?_
  simp only [pa]
  refine tk 15 21 rfl ?_
  simp only [pa]
  refine tk 16 22 rfl ?_
  simp only [pa]
  refine tk 17 23 rfl ?_
  simp only [pa]
  refine wpAnyH_ready (rs := [14]) (by kernel_rfl) (by simp) ?_
  refine AllReadyH.cons rfl (fun K hK => ?_) AllReadyH.nil
  go_simp
  go_wp2_with (first | (go_at_call 103; refine (HWd.out _).mono ?_; rintro e w3 ⟨rfl, hb3⟩; have b3 := (hHeld.2.2.2.2.2.2.2.2.2).trans (hb3.mono (hHeld.2.2.2.2.2.2.2.2.2).size)))
  refine hK.out _ _ ?_ (fun hHeld => ?_)
  · try dsimp only
    exact HSx.out _ b3
  clear hK K
  refine tk 18 24 rfl ?_
  simp only [pa]
  refine tk 19 25 rfl ?_
  simp only [pa]
  refine tk 20 26 rfl ?_
  simp only [pa]
  refine tk 21 2 rfl ?_
  simp only [pa]
  have HE := hidP (hHeld.2.2.2.2.2.2.2.2.2)
  refine wpAnyH_done (by kernel_rfl) ?_ _
  clear hHeld
  go_wp2_with fail
  go_ret
  exact ⟨rfl, HXB.out.trans (HE.out.mono HXB.out.size)⟩

set_option maxRecDepth 10000 in
set_option maxHeartbeats 400000 in
theorem iPoolOk_d (q : Pl) (w : World) (hpk : pokB q.p.s q.p.H q.p.L q.p.b = true) (h1 : decide (q.p.b ≤ q.n) = true) (hw : IntKind.i64.wrap (q.p.b + 20) = q.p.b + 20) (hm : ¬ q.p.b + 20 < (wd q.p.s : Int)) :
    Calls Tryz.prog 56 #[.agg #[.bool q.p.s, .int .i64 q.p.H.toInt, .int .i64 q.p.L.toInt, .int .i64 q.p.b, .int .i64 q.n]] w fun e w' => e = .returned (.bool (decide (q.n ≤ (wd q.p.s : Int)))) ∧ Below w.heap.size w w' := by
  have HP := hidP (iPrefixOk_any q.p.s q.p.H q.p.L q.p.b)
  have HWd := hidP (width_any q.p.s q.p.H.toInt q.p.L.toInt)
  rw [hpk] at HP
  go_enter Tryz.func56, Tryz.ntmps56
  go_wp2_with fail
  obtain ⟨x0, x1, x2, x3, x4⟩ := boxPl (q := q) w 46
  have xB := alloc_below w (.cells #[.bool q.p.s, .int .i64 q.p.H.toInt, .int .i64 q.p.L.toInt, .int .i64 q.p.b, .int .i64 q.n] 46)
  have xL := alloc_lt w (.cells #[.bool q.p.s, .int .i64 q.p.H.toInt, .int .i64 q.p.L.toInt, .int .i64 q.p.b, .int .i64 q.n] 46)
  have xS : (w.alloc (.cells #[.bool q.p.s, .int .i64 q.p.H.toInt, .int .i64 q.p.L.toInt, .int .i64 q.p.b, .int .i64 q.n] 46)).heap.size = w.heap.size + 1 := by simp
  generalize w.alloc (.cells #[.bool q.p.s, .int .i64 q.p.H.toInt, .int .i64 q.p.L.toInt, .int .i64 q.p.b, .int .i64 q.n] 46) = W1 at *
  obtain ⟨y0, y1, y2, y3⟩ := box4 (p := q.p) W1 31
  have yB := alloc_below W1 (.cells #[.bool q.p.s, .int .i64 q.p.H.toInt, .int .i64 q.p.L.toInt, .int .i64 q.p.b] 31)
  have yL := alloc_lt W1 (.cells #[.bool q.p.s, .int .i64 q.p.H.toInt, .int .i64 q.p.L.toInt, .int .i64 q.p.b] 31)
  have yS : (W1.alloc (.cells #[.bool q.p.s, .int .i64 q.p.H.toInt, .int .i64 q.p.L.toInt, .int .i64 q.p.b] 31)).heap.size = W1.heap.size + 1 := by simp
  generalize W1.alloc (.cells #[.bool q.p.s, .int .i64 q.p.H.toInt, .int .i64 q.p.L.toInt, .int .i64 q.p.b] 31) = W2 at *
  rw [xS] at y0 y1 y2 y3 yL yS
  have z0 := (yB.cell xL).trans x0
  have z1 := (yB.cell xL).trans x1
  have z2 := (yB.cell xL).trans x2
  have z3 := (yB.cell xL).trans x3
  have z4 := (yB.cell xL).trans x4
  have zL : w.heap.size < W2.heap.size := by omega
  have HXB := hidP (xB.trans (yB.mono xB.size))
  clear x0 x1 x2 x3 x4 xB yB xS yS xL
  have HSx : Hid (∀ x, Below W2.heap.size W2 x → (x.cell? ⟨w.heap.size, 0, none⟩ = some (.bool q.p.s) ∧ x.cell? ⟨w.heap.size, 1, none⟩ = some (.int .i64 q.p.H.toInt) ∧ x.cell? ⟨w.heap.size, 2, none⟩ = some (.int .i64 q.p.L.toInt) ∧ x.cell? ⟨w.heap.size, 3, none⟩ = some (.int .i64 q.p.b) ∧ x.cell? ⟨w.heap.size, 4, none⟩ = some (.int .i64 q.n) ∧ x.cell? ⟨w.heap.size + 1, 0, none⟩ = some (.bool q.p.s) ∧ x.cell? ⟨w.heap.size + 1, 1, none⟩ = some (.int .i64 q.p.H.toInt) ∧ x.cell? ⟨w.heap.size + 1, 2, none⟩ = some (.int .i64 q.p.L.toInt) ∧ x.cell? ⟨w.heap.size + 1, 3, none⟩ = some (.int .i64 q.p.b) ∧ Below W2.heap.size W2 x)) := hidP fun x h =>
    ⟨(h.cell zL).trans z0, (h.cell zL).trans z1, (h.cell zL).trans z2, (h.cell zL).trans z3, (h.cell zL).trans z4, (h.cell yL).trans y0, (h.cell yL).trans y1, (h.cell yL).trans y2, (h.cell yL).trans y3, h⟩
  refine wp_region_held_drew (S := (fun x => x.cell? ⟨w.heap.size, 0, none⟩ = some (.bool q.p.s) ∧ x.cell? ⟨w.heap.size, 1, none⟩ = some (.int .i64 q.p.H.toInt) ∧ x.cell? ⟨w.heap.size, 2, none⟩ = some (.int .i64 q.p.L.toInt) ∧ x.cell? ⟨w.heap.size, 3, none⟩ = some (.int .i64 q.p.b) ∧ x.cell? ⟨w.heap.size, 4, none⟩ = some (.int .i64 q.n) ∧ x.cell? ⟨w.heap.size + 1, 0, none⟩ = some (.bool q.p.s) ∧ x.cell? ⟨w.heap.size + 1, 1, none⟩ = some (.int .i64 q.p.H.toInt) ∧ x.cell? ⟨w.heap.size + 1, 2, none⟩ = some (.int .i64 q.p.L.toInt) ∧ x.cell? ⟨w.heap.size + 1, 3, none⟩ = some (.int .i64 q.p.b) ∧ Below W2.heap.size W2 x)) (by kernel_rfl) ?_ (fun hHeld => ?_)
  · try dsimp only
    exact HSx.out _ ((Below.refl _ _).drew)
  refine tk 0 6 rfl ?_
  simp only [pa]
  refine wpAnyH_ready (rs := [1]) (by kernel_rfl) (by simp) ?_
  refine AllReadyH.cons rfl (fun K hK => ?_) AllReadyH.nil
  go_simp
  go_wp2_with (first | (go_at_call 33; refine (HP.out _).mono ?_; rintro e w2 ⟨rfl, hb2⟩; have b2 := (hHeld.2.2.2.2.2.2.2.2.2).trans (hb2.mono (hHeld.2.2.2.2.2.2.2.2.2).size)))
  refine hK.out _ _ ?_ (fun hHeld => ?_)
  · try dsimp only
    exact HSx.out _ b2
  clear hK K
  refine tk 2 8 rfl ?_
  simp only [pa]
  refine tk 3 9 rfl ?_
  simp only [pa]
  refine tk 4 10 rfl ?_
  simp only [pa]
  refine tk 5 11 rfl ?_
  simp only [pa]
  refine tk 6 12 rfl ?_
  simp only [pa]
  refine tk 7 13 rfl ?_
  simp only [pa]
  refine tk 8 14 rfl ?_
  simp only [pa]
  refine tk 9 15 rfl ?_
  simp only [pa]
  refine tk 10 16 rfl ?_
  simp only [pa]
  refine tk 11 17 rfl ?_
  simp only [pa]
  refine tk 12 18 rfl ?_
  simp only [pa]
  refine tk 13 19 rfl ?_
  simp only [pa]
  refine tk 15 21 rfl ?_
  simp only [pa]
  refine tk 16 22 rfl ?_
  simp only [pa]
  refine tk 17 23 rfl ?_
  simp only [pa]
  refine wpAnyH_ready (rs := [14]) (by kernel_rfl) (by simp) ?_
  refine AllReadyH.cons rfl (fun K hK => ?_) AllReadyH.nil
  go_simp
  go_wp2_with (first | (go_at_call 103; refine (HWd.out _).mono ?_; rintro e w3 ⟨rfl, hb3⟩; have b3 := (hHeld.2.2.2.2.2.2.2.2.2).trans (hb3.mono (hHeld.2.2.2.2.2.2.2.2.2).size)))
  refine hK.out _ _ ?_ (fun hHeld => ?_)
  · try dsimp only
    exact HSx.out _ b3
  clear hK K
  refine tk 18 24 rfl ?_
  simp only [pa]
  refine tk 19 25 rfl ?_
  simp only [pa]
  refine tk 20 26 rfl ?_
  simp only [pa]
  refine tk 21 2 rfl ?_
  simp only [pa]
  have HE := hidP (hHeld.2.2.2.2.2.2.2.2.2)
  refine wpAnyH_done (by kernel_rfl) ?_ _
  clear hHeld
  go_wp2_with fail
  go_ret
  exact ⟨rfl, HXB.out.trans (HE.out.mono HXB.out.size)⟩

theorem iPoolOk_any (q : Pl) (w : World) :
    Calls Tryz.prog 56 #[.agg #[.bool q.p.s, .int .i64 q.p.H.toInt, .int .i64 q.p.L.toInt, .int .i64 q.p.b, .int .i64 q.n]] w fun e w' => e = .returned (.bool (okPl q)) ∧ Below w.heap.size w w' := by
  unfold okPl Pf.pk
  cases hpk : pokB q.p.s q.p.H q.p.L q.p.b
  · exact iPoolOk_a q w hpk
  · cases h1 : decide (q.p.b ≤ q.n)
    · exact iPoolOk_b q w hpk h1
    · have hb := (pokB_parts hpk).2.1
      have hwd := wd_le' q.p.s
      have hw : IntKind.i64.wrap (q.p.b + 20) = q.p.b + 20 := by rw [IntKind.wrap_i64]; omega
      by_cases hm : q.p.b + 20 < (wd q.p.s : Int)
      · have := iPoolOk_c q w hpk h1 hw hm
        rw [show (true && (true && (decide (q.n ≤ (wd q.p.s : Int)) && decide (q.n ≤ q.p.b + 20)))) = decide (q.n ≤ q.p.b + 20) by
          rw [Bool.true_and, Bool.true_and, Bool.eq_iff_iff, Bool.and_eq_true, decide_eq_true_eq, decide_eq_true_eq]; omega]
        exact this
      · have := iPoolOk_d q w hpk h1 hw hm
        rw [show (true && (true && (decide (q.n ≤ (wd q.p.s : Int)) && decide (q.n ≤ q.p.b + 20)))) = decide (q.n ≤ (wd q.p.s : Int)) by
          rw [Bool.true_and, Bool.true_and, Bool.eq_iff_iff, Bool.and_eq_true, decide_eq_true_eq, decide_eq_true_eq]; omega]
        exact this

set_option maxRecDepth 10000 in
set_option maxHeartbeats 400000 in
theorem sPoolOk_a (q : Pl) (w : World) (hpk : pokB q.p.s q.p.H q.p.L q.p.b = false) :
    Calls Tryz.prog 62 #[.agg #[.bool q.p.s, .int .i64 q.p.H.toInt, .int .i64 q.p.L.toInt, .int .i64 q.p.b, .int .i64 q.n]] w fun e w' => e = .returned (.bool false) ∧ Below w.heap.size w w' := by
  have HP := hidP (sPrefixOk_any q.p.s q.p.H q.p.L q.p.b)
  have HWd := hidP (l2Width_any q.p.s q.p.H.toInt q.p.L.toInt)
  have HIn := hidP (l1In_any q.n q.p.b (wd q.p.s))
  rw [hpk] at HP
  go_enter Tryz.func62, Tryz.ntmps62
  go_wp2_with fail
  obtain ⟨x0, x1, x2, x3, x4⟩ := boxPl (q := q) w 46
  have xB := alloc_below w (.cells #[.bool q.p.s, .int .i64 q.p.H.toInt, .int .i64 q.p.L.toInt, .int .i64 q.p.b, .int .i64 q.n] 46)
  have xL := alloc_lt w (.cells #[.bool q.p.s, .int .i64 q.p.H.toInt, .int .i64 q.p.L.toInt, .int .i64 q.p.b, .int .i64 q.n] 46)
  have xS : (w.alloc (.cells #[.bool q.p.s, .int .i64 q.p.H.toInt, .int .i64 q.p.L.toInt, .int .i64 q.p.b, .int .i64 q.n] 46)).heap.size = w.heap.size + 1 := by simp
  generalize w.alloc (.cells #[.bool q.p.s, .int .i64 q.p.H.toInt, .int .i64 q.p.L.toInt, .int .i64 q.p.b, .int .i64 q.n] 46) = W1 at *
  have HXB := hidP xB
  clear xB xS
  have HSx : Hid (∀ x, Below W1.heap.size W1 x → (x.cell? ⟨w.heap.size, 0, none⟩ = some (.bool q.p.s) ∧ x.cell? ⟨w.heap.size, 1, none⟩ = some (.int .i64 q.p.H.toInt) ∧ x.cell? ⟨w.heap.size, 2, none⟩ = some (.int .i64 q.p.L.toInt) ∧ x.cell? ⟨w.heap.size, 3, none⟩ = some (.int .i64 q.p.b) ∧ x.cell? ⟨w.heap.size, 4, none⟩ = some (.int .i64 q.n) ∧ Below W1.heap.size W1 x)) := hidP fun x h =>
    ⟨(h.cell xL).trans x0, (h.cell xL).trans x1, (h.cell xL).trans x2, (h.cell xL).trans x3, (h.cell xL).trans x4, h⟩
  refine wp_region_held_drew (S := (fun x => x.cell? ⟨w.heap.size, 0, none⟩ = some (.bool q.p.s) ∧ x.cell? ⟨w.heap.size, 1, none⟩ = some (.int .i64 q.p.H.toInt) ∧ x.cell? ⟨w.heap.size, 2, none⟩ = some (.int .i64 q.p.L.toInt) ∧ x.cell? ⟨w.heap.size, 3, none⟩ = some (.int .i64 q.p.b) ∧ x.cell? ⟨w.heap.size, 4, none⟩ = some (.int .i64 q.n) ∧ Below W1.heap.size W1 x)) (by kernel_rfl) ?_ (fun hHeld => ?_)
  · try dsimp only
    exact HSx.out _ ((Below.refl _ _).drew)
  refine tk 0 3 rfl ?_
  simp only [pa]
  refine tk 1 4 rfl ?_
  simp only [pa]
  refine wpAnyH_ready (rs := [2]) (by kernel_rfl) (by simp) ?_
  refine AllReadyH.cons rfl (fun K hK => ?_) AllReadyH.nil
  go_simp
  go_wp2_with (first | (go_at_call 42; refine (HP.out _).mono ?_; rintro e w2 ⟨rfl, hb2⟩; have b2 := (hHeld.2.2.2.2.2).trans (hb2.mono (hHeld.2.2.2.2.2).size)))
  refine hK.out _ _ ?_ (fun hHeld => ?_)
  · try dsimp only
    exact HSx.out _ b2
  clear hK K
  refine tk 3 6 rfl ?_
  simp only [pa]
  refine sk 4 7 rfl ?_
  simp only [pa]
  refine sk 5 8 rfl ?_
  simp only [pa]
  refine sk 6 9 rfl ?_
  simp only [pa]
  refine sk 7 10 rfl ?_
  simp only [pa]
  refine sk 8 11 rfl ?_
  simp only [pa]
  refine sk 9 12 rfl ?_
  simp only [pa]
  refine sk 10 13 rfl ?_
  simp only [pa]
  refine sk 11 14 rfl ?_
  simp only [pa]
  refine sk 12 15 rfl ?_
  simp only [pa]
  refine sk 13 16 rfl ?_
  simp only [pa]
  refine tk 14 17 rfl ?_
  simp only [pa]
  refine tk 15 18 rfl ?_
  simp only [pa]
  refine sk 16 19 rfl ?_
  simp only [pa]
  refine sk 17 20 rfl ?_
  simp only [pa]
  refine sk 18 21 rfl ?_
  simp only [pa]
  refine sk 19 22 rfl ?_
  simp only [pa]
  refine sk 20 23 rfl ?_
  simp only [pa]
  refine sk 21 24 rfl ?_
  simp only [pa]
  refine sk 22 25 rfl ?_
  simp only [pa]
  refine tk 23 26 rfl ?_
  simp only [pa]
  refine tk 24 2 rfl ?_
  simp only [pa]
  have HE := hidP (hHeld.2.2.2.2.2)
  refine wpAnyH_done (by kernel_rfl) ?_ _
  clear hHeld
  go_wp2_with fail
  go_ret
  exact ⟨rfl, HXB.out.trans (HE.out.mono HXB.out.size)⟩

set_option maxRecDepth 10000 in
set_option maxHeartbeats 400000 in
theorem sPoolOk_b (q : Pl) (w : World) (hpk : pokB q.p.s q.p.H q.p.L q.p.b = true) (h1 : decide (q.p.b ≤ q.n ∧ q.n ≤ (wd q.p.s : Int)) = false) :
    Calls Tryz.prog 62 #[.agg #[.bool q.p.s, .int .i64 q.p.H.toInt, .int .i64 q.p.L.toInt, .int .i64 q.p.b, .int .i64 q.n]] w fun e w' => e = .returned (.bool false) ∧ Below w.heap.size w w' := by
  have HP := hidP (sPrefixOk_any q.p.s q.p.H q.p.L q.p.b)
  have HWd := hidP (l2Width_any q.p.s q.p.H.toInt q.p.L.toInt)
  have HIn := hidP (l1In_any q.n q.p.b (wd q.p.s))
  rw [hpk] at HP
  rw [h1] at HIn
  go_enter Tryz.func62, Tryz.ntmps62
  go_wp2_with fail
  obtain ⟨x0, x1, x2, x3, x4⟩ := boxPl (q := q) w 46
  have xB := alloc_below w (.cells #[.bool q.p.s, .int .i64 q.p.H.toInt, .int .i64 q.p.L.toInt, .int .i64 q.p.b, .int .i64 q.n] 46)
  have xL := alloc_lt w (.cells #[.bool q.p.s, .int .i64 q.p.H.toInt, .int .i64 q.p.L.toInt, .int .i64 q.p.b, .int .i64 q.n] 46)
  have xS : (w.alloc (.cells #[.bool q.p.s, .int .i64 q.p.H.toInt, .int .i64 q.p.L.toInt, .int .i64 q.p.b, .int .i64 q.n] 46)).heap.size = w.heap.size + 1 := by simp
  generalize w.alloc (.cells #[.bool q.p.s, .int .i64 q.p.H.toInt, .int .i64 q.p.L.toInt, .int .i64 q.p.b, .int .i64 q.n] 46) = W1 at *
  have HXB := hidP xB
  clear xB xS
  have HSx : Hid (∀ x, Below W1.heap.size W1 x → (x.cell? ⟨w.heap.size, 0, none⟩ = some (.bool q.p.s) ∧ x.cell? ⟨w.heap.size, 1, none⟩ = some (.int .i64 q.p.H.toInt) ∧ x.cell? ⟨w.heap.size, 2, none⟩ = some (.int .i64 q.p.L.toInt) ∧ x.cell? ⟨w.heap.size, 3, none⟩ = some (.int .i64 q.p.b) ∧ x.cell? ⟨w.heap.size, 4, none⟩ = some (.int .i64 q.n) ∧ Below W1.heap.size W1 x)) := hidP fun x h =>
    ⟨(h.cell xL).trans x0, (h.cell xL).trans x1, (h.cell xL).trans x2, (h.cell xL).trans x3, (h.cell xL).trans x4, h⟩
  refine wp_region_held_drew (S := (fun x => x.cell? ⟨w.heap.size, 0, none⟩ = some (.bool q.p.s) ∧ x.cell? ⟨w.heap.size, 1, none⟩ = some (.int .i64 q.p.H.toInt) ∧ x.cell? ⟨w.heap.size, 2, none⟩ = some (.int .i64 q.p.L.toInt) ∧ x.cell? ⟨w.heap.size, 3, none⟩ = some (.int .i64 q.p.b) ∧ x.cell? ⟨w.heap.size, 4, none⟩ = some (.int .i64 q.n) ∧ Below W1.heap.size W1 x)) (by kernel_rfl) ?_ (fun hHeld => ?_)
  · try dsimp only
    exact HSx.out _ ((Below.refl _ _).drew)
  refine tk 0 3 rfl ?_
  simp only [pa]
  refine tk 1 4 rfl ?_
  simp only [pa]
  refine wpAnyH_ready (rs := [2]) (by kernel_rfl) (by simp) ?_
  refine AllReadyH.cons rfl (fun K hK => ?_) AllReadyH.nil
  go_simp
  go_wp2_with (first | (go_at_call 42; refine (HP.out _).mono ?_; rintro e w2 ⟨rfl, hb2⟩; have b2 := (hHeld.2.2.2.2.2).trans (hb2.mono (hHeld.2.2.2.2.2).size)))
  refine hK.out _ _ ?_ (fun hHeld => ?_)
  · try dsimp only
    exact HSx.out _ b2
  clear hK K
  refine tk 3 6 rfl ?_
  simp only [pa]
  refine tk 4 7 rfl ?_
  simp only [pa]
  refine tk 5 8 rfl ?_
  simp only [pa]
  refine tk 6 9 rfl ?_
  simp only [pa]
  refine tk 7 10 rfl ?_
  simp only [pa]
  refine tk 8 11 rfl ?_
  simp only [pa]
  refine tk 9 12 rfl ?_
  simp only [pa]
  refine tk 10 13 rfl ?_
  simp only [pa]
  refine tk 11 14 rfl ?_
  simp only [pa]
  refine wpAnyH_ready (rs := [12]) (by kernel_rfl) (by simp) ?_
  refine AllReadyH.cons rfl (fun K hK => ?_) AllReadyH.nil
  go_simp
  go_wp2_with (first | (go_at_call 93; refine (HWd.out _).mono ?_; rintro e w3 ⟨rfl, hb3⟩; have b3 := (hHeld.2.2.2.2.2).trans (hb3.mono (hHeld.2.2.2.2.2).size)))
  refine hK.out _ _ ?_ (fun hHeld => ?_)
  · try dsimp only
    exact HSx.out _ b3
  clear hK K
  refine wpAnyH_ready (rs := [13]) (by kernel_rfl) (by simp) ?_
  refine AllReadyH.cons rfl (fun K hK => ?_) AllReadyH.nil
  go_simp
  go_wp2_with (first | (go_at_call 92; refine (HIn.out _).mono ?_; rintro e w' ⟨rfl, rfl⟩))
  refine hK.out _ _ ?_ (fun hHeld => ?_)
  · try dsimp only
    exact HSx.out _ (hHeld.2.2.2.2.2)
  clear hK K
  refine tk 14 17 rfl ?_
  simp only [pa]
  refine tk 15 18 rfl ?_
  simp only [pa]
  refine sk 16 19 rfl ?_
  simp only [pa]
  refine sk 17 20 rfl ?_
  simp only [pa]
  refine sk 18 21 rfl ?_
  simp only [pa]
  refine sk 19 22 rfl ?_
  simp only [pa]
  refine sk 20 23 rfl ?_
  simp only [pa]
  refine sk 21 24 rfl ?_
  simp only [pa]
  refine sk 22 25 rfl ?_
  simp only [pa]
  refine tk 23 26 rfl ?_
  simp only [pa]
  refine tk 24 2 rfl ?_
  simp only [pa]
  have HE := hidP (hHeld.2.2.2.2.2)
  refine wpAnyH_done (by kernel_rfl) ?_ _
  clear hHeld
  go_wp2_with fail
  go_ret
  exact ⟨rfl, HXB.out.trans (HE.out.mono HXB.out.size)⟩

set_option maxRecDepth 10000 in
set_option maxHeartbeats 400000 in
theorem sPoolOk_c (q : Pl) (w : World) (hpk : pokB q.p.s q.p.H q.p.L q.p.b = true) (hw : IntKind.i64.wrap (q.p.b + 20) = q.p.b + 20) (h1 : decide (q.p.b ≤ q.n ∧ q.n ≤ (wd q.p.s : Int)) = true) :
    Calls Tryz.prog 62 #[.agg #[.bool q.p.s, .int .i64 q.p.H.toInt, .int .i64 q.p.L.toInt, .int .i64 q.p.b, .int .i64 q.n]] w fun e w' => e = .returned (.bool (decide (q.n ≤ q.p.b + 20))) ∧ Below w.heap.size w w' := by
  have HP := hidP (sPrefixOk_any q.p.s q.p.H q.p.L q.p.b)
  have HWd := hidP (l2Width_any q.p.s q.p.H.toInt q.p.L.toInt)
  have HIn := hidP (l1In_any q.n q.p.b (wd q.p.s))
  rw [hpk] at HP
  rw [h1] at HIn
  go_enter Tryz.func62, Tryz.ntmps62
  go_wp2_with fail
  obtain ⟨x0, x1, x2, x3, x4⟩ := boxPl (q := q) w 46
  have xB := alloc_below w (.cells #[.bool q.p.s, .int .i64 q.p.H.toInt, .int .i64 q.p.L.toInt, .int .i64 q.p.b, .int .i64 q.n] 46)
  have xL := alloc_lt w (.cells #[.bool q.p.s, .int .i64 q.p.H.toInt, .int .i64 q.p.L.toInt, .int .i64 q.p.b, .int .i64 q.n] 46)
  have xS : (w.alloc (.cells #[.bool q.p.s, .int .i64 q.p.H.toInt, .int .i64 q.p.L.toInt, .int .i64 q.p.b, .int .i64 q.n] 46)).heap.size = w.heap.size + 1 := by simp
  generalize w.alloc (.cells #[.bool q.p.s, .int .i64 q.p.H.toInt, .int .i64 q.p.L.toInt, .int .i64 q.p.b, .int .i64 q.n] 46) = W1 at *
  have HXB := hidP xB
  clear xB xS
  have HSx : Hid (∀ x, Below W1.heap.size W1 x → (x.cell? ⟨w.heap.size, 0, none⟩ = some (.bool q.p.s) ∧ x.cell? ⟨w.heap.size, 1, none⟩ = some (.int .i64 q.p.H.toInt) ∧ x.cell? ⟨w.heap.size, 2, none⟩ = some (.int .i64 q.p.L.toInt) ∧ x.cell? ⟨w.heap.size, 3, none⟩ = some (.int .i64 q.p.b) ∧ x.cell? ⟨w.heap.size, 4, none⟩ = some (.int .i64 q.n) ∧ Below W1.heap.size W1 x)) := hidP fun x h =>
    ⟨(h.cell xL).trans x0, (h.cell xL).trans x1, (h.cell xL).trans x2, (h.cell xL).trans x3, (h.cell xL).trans x4, h⟩
  refine wp_region_held_drew (S := (fun x => x.cell? ⟨w.heap.size, 0, none⟩ = some (.bool q.p.s) ∧ x.cell? ⟨w.heap.size, 1, none⟩ = some (.int .i64 q.p.H.toInt) ∧ x.cell? ⟨w.heap.size, 2, none⟩ = some (.int .i64 q.p.L.toInt) ∧ x.cell? ⟨w.heap.size, 3, none⟩ = some (.int .i64 q.p.b) ∧ x.cell? ⟨w.heap.size, 4, none⟩ = some (.int .i64 q.n) ∧ Below W1.heap.size W1 x)) (by kernel_rfl) ?_ (fun hHeld => ?_)
  · try dsimp only
    exact HSx.out _ ((Below.refl _ _).drew)
  refine tk 0 3 rfl ?_
  simp only [pa]
  refine tk 1 4 rfl ?_
  simp only [pa]
  refine wpAnyH_ready (rs := [2]) (by kernel_rfl) (by simp) ?_
  refine AllReadyH.cons rfl (fun K hK => ?_) AllReadyH.nil
  go_simp
  go_wp2_with (first | (go_at_call 42; refine (HP.out _).mono ?_; rintro e w2 ⟨rfl, hb2⟩; have b2 := (hHeld.2.2.2.2.2).trans (hb2.mono (hHeld.2.2.2.2.2).size)))
  refine hK.out _ _ ?_ (fun hHeld => ?_)
  · try dsimp only
    exact HSx.out _ b2
  clear hK K
  refine tk 3 6 rfl ?_
  simp only [pa]
  refine tk 4 7 rfl ?_
  simp only [pa]
  refine tk 5 8 rfl ?_
  simp only [pa]
  refine tk 6 9 rfl ?_
  simp only [pa]
  refine tk 7 10 rfl ?_
  simp only [pa]
  refine tk 8 11 rfl ?_
  simp only [pa]
  refine tk 9 12 rfl ?_
  simp only [pa]
  refine tk 10 13 rfl ?_
  simp only [pa]
  refine tk 11 14 rfl ?_
  simp only [pa]
  refine wpAnyH_ready (rs := [12]) (by kernel_rfl) (by simp) ?_
  refine AllReadyH.cons rfl (fun K hK => ?_) AllReadyH.nil
  go_simp
  go_wp2_with (first | (go_at_call 93; refine (HWd.out _).mono ?_; rintro e w3 ⟨rfl, hb3⟩; have b3 := (hHeld.2.2.2.2.2).trans (hb3.mono (hHeld.2.2.2.2.2).size)))
  refine hK.out _ _ ?_ (fun hHeld => ?_)
  · try dsimp only
    exact HSx.out _ b3
  clear hK K
  refine wpAnyH_ready (rs := [13]) (by kernel_rfl) (by simp) ?_
  refine AllReadyH.cons rfl (fun K hK => ?_) AllReadyH.nil
  go_simp
  go_wp2_with (first | (go_at_call 92; refine (HIn.out _).mono ?_; rintro e w' ⟨rfl, rfl⟩))
  refine hK.out _ _ ?_ (fun hHeld => ?_)
  · try dsimp only
    exact HSx.out _ (hHeld.2.2.2.2.2)
  clear hK K
  refine tk 14 17 rfl ?_
  simp only [pa]
  refine tk 15 18 rfl ?_
  simp only [pa]
  refine tk 16 19 rfl ?_
  simp only [pa]
  refine tk 17 20 rfl ?_
  simp only [pa]
  refine tk 18 21 rfl ?_
  simp only [pa]
  refine tk 19 22 rfl ?_
  simp only [pa]
  refine tk 20 23 rfl ?_
  simp only [pa]
  refine tk 21 24 rfl ?_
  simp only [pa]
  refine tk 22 25 rfl ?_
  simp only [pa]
  refine tk 23 26 rfl ?_
  simp only [pa]
  refine tk 24 2 rfl ?_
  simp only [pa]
  have HE := hidP (hHeld.2.2.2.2.2)
  refine wpAnyH_done (by kernel_rfl) ?_ _
  clear hHeld
  go_wp2_with fail
  go_ret
  exact ⟨rfl, HXB.out.trans (HE.out.mono HXB.out.size)⟩

theorem sPoolOk_any (q : Pl) (w : World) :
    Calls Tryz.prog 62 #[.agg #[.bool q.p.s, .int .i64 q.p.H.toInt, .int .i64 q.p.L.toInt, .int .i64 q.p.b, .int .i64 q.n]] w fun e w' => e = .returned (.bool (okPl q)) ∧ Below w.heap.size w w' := by
  unfold okPl Pf.pk
  cases hpk : pokB q.p.s q.p.H q.p.L q.p.b
  · exact sPoolOk_a q w hpk
  · have hb := (pokB_parts hpk).2.1
    have hwd := wd_le' q.p.s
    have hw : IntKind.i64.wrap (q.p.b + 20) = q.p.b + 20 := by rw [IntKind.wrap_i64]; omega
    have he : (decide (q.p.b ≤ q.n) && (decide (q.n ≤ (wd q.p.s : Int)) && decide (q.n ≤ q.p.b + 20))) = (decide (q.p.b ≤ q.n ∧ q.n ≤ (wd q.p.s : Int)) && decide (q.n ≤ q.p.b + 20)) := by
      rw [Bool.decide_and, Bool.and_assoc]
    rw [Bool.true_and, he]
    cases h1 : decide (q.p.b ≤ q.n ∧ q.n ≤ (wd q.p.s : Int))
    · exact sPoolOk_b q w hpk h1
    · exact sPoolOk_c q w hpk hw h1

end Go.Proofs.YtdbcdichmmcnbaaGreat
