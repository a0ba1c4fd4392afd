/-
  The walk of the exact law of FreeCount.
-/
import Derived.Test.YtamocbkamjnonaaLWout
import Derived.Test.YtamocbkamjnonaaBEqP
import Derived.Test.YtamocbkamjnonaaBTo
namespace Go.Proofs.Ytamocbkamjnonaa
open Go.RowKit

set_option maxRecDepth 10000 in
set_option maxHeartbeats 8000000 in
theorem lawFreeCount_core (p : Pf) (a : Option Addr) (n cap : Nat) (ps : List Pf) (bits : Int) (w : World) (hB : Row w a ps) (hn : n = ps.length) (hl : n ≤ 1048576) (r : Int)
    (hS : ∀ (g : Nat) (wx : World), Row wx (some ⟨g, 0, none⟩) ps → Calls Try.prog 22 #[.agg #[.bool p.s, .int .i64 p.H.toInt, .int .i64 p.L.toInt, .int .i64 p.b], .slice (some ⟨g, 0, none⟩) n n, .int .i64 bits] wx fun e w' => e = .returned (.int .i64 r) ∧ Below wx.heap.size wx w')
    (hI : ∀ (g : Nat) (wx : World), Row wx (some ⟨g, 0, none⟩) ps → Calls Try.prog 23 #[.agg #[.bool p.s, .int .i64 p.H.toInt, .int .i64 p.L.toInt, .int .i64 p.b], .slice (some ⟨g, 0, none⟩) n n, .int .i64 bits] wx fun e w' => e = .returned (.int .i64 r) ∧ Below wx.heap.size wx w') :
    Calls Try.prog 6 #[.agg #[.bool p.s, .int .i64 p.H.toInt, .int .i64 p.L.toInt, .int .i64 p.b], .slice a n cap, .int .i64 bits] w fun e w' => e = .returned (.bool true) ∧ Below w.heap.size w w' := by
  have HN := hidP hn
  have HS := hidP hS
  have HI := hidP hI
  have d1 : decide (1048576 - (n : Int) < 0) = false := decide_eq_false (by omega)
  have HW0 := hidP ((Below.refl _ w).alloc (Nat.le_refl _) (.cells #[.bool p.s, .int .i64 p.H.toInt, .int .i64 p.L.toInt, .int .i64 p.b] 33))
  have HRW := hidP (hB.later HW0.out)
  obtain ⟨b0, b1, b2, b3⟩ := box_cells w 33 p
  have hsW := heap_size_alloc' w (.cells #[.bool p.s, .int .i64 p.H.toInt, .int .i64 p.L.toInt, .int .i64 p.b] 33)
  clear hB hn hS hI
  go_enter Try.func6, Try.ntmps6
  go_wp2_with fail
  refine (szPrefixS_any a n cap hl _).mono ?_
  rintro e w1 ⟨rfl, rfl⟩
  generalize w.alloc (.cells #[.bool p.s, .int .i64 p.H.toInt, .int .i64 p.L.toInt, .int .i64 p.b] 33) = W at *
  have hgW : w.heap.size < W.heap.size := by omega
  have HC := hidP (And.intro b0 (And.intro b1 (And.intro b2 b3)))
  clear b0 b1 b2 b3
  have acc0 := hidP (Below.refl W.heap.size W)
  have z0 := (acc0.out.cell hgW).trans HC.out.1
  have z1 := (acc0.out.cell hgW).trans HC.out.2.1
  have z2 := (acc0.out.cell hgW).trans HC.out.2.2.1
  have z3 := (acc0.out.cell hgW).trans HC.out.2.2.2
  go_wp2_with fail
  refine (toPrefix_any p.s p.H.toInt p.L.toInt p.b _).mono ?_
  rintro e w1 ⟨rfl, b1'⟩
  clear z0 z1 z2 z3
  have acc1 := hidP (acc0.out.trans (b1'.mono acc0.out.size))
  clear b1'
  go_wp2_with fail
  refine (toS a n cap ps w1 HN.out (HRW.out.later acc1.out) hl).mono ?_
  rintro e w2 ⟨gt, rfl, ot, b2'⟩
  have acc2 := hidP (acc1.out.trans (b2'.mono acc1.out.size))
  have t_2 := hidP ot
  clear b2' ot
  go_wp2_with fail
  refine (HS.out gt w2 (OwnR.row t_2.out)).mono ?_
  rintro e w3 ⟨rfl, b3'⟩
  have acc3 := hidP (acc2.out.trans (b3'.mono acc2.out.size))
  have t_3 := hidP (OwnR.later t_2.out b3')
  clear b3'
  go_wp2_with fail
  refine (toS a n cap ps w3 HN.out (HRW.out.later acc3.out) hl).mono ?_
  rintro e w4 ⟨gx, rfl, ox, b4'⟩
  have acc4 := hidP (acc3.out.trans (b4'.mono acc3.out.size))
  have t_4 := hidP (OwnR.later t_3.out b4')
  have x_4 := hidP ox
  clear b4' ox
  have z0 := (acc4.out.cell hgW).trans HC.out.1
  have z1 := (acc4.out.cell hgW).trans HC.out.2.1
  have z2 := (acc4.out.cell hgW).trans HC.out.2.2.1
  have z3 := (acc4.out.cell hgW).trans HC.out.2.2.2
  go_wp2_with fail
  refine (toPrefix_any p.s p.H.toInt p.L.toInt p.b _).mono ?_
  rintro e w5 ⟨rfl, b5'⟩
  clear z0 z1 z2 z3
  have acc5 := hidP (acc4.out.trans (b5'.mono acc4.out.size))
  have t_5 := hidP (OwnR.later t_4.out b5')
  have x_5 := hidP (OwnR.later x_4.out b5')
  clear b5'
  go_wp2_with fail
  refine (HI.out gx w5 (OwnR.row x_5.out)).mono ?_
  rintro e w6 ⟨rfl, b6'⟩
  have acc6 := hidP (acc5.out.trans (b6'.mono acc5.out.size))
  have t_6 := hidP (OwnR.later t_5.out b6')
  have x_6 := hidP (OwnR.later x_5.out b6')
  clear b6'
  go_wp2_with fail
  refine (toS a n cap ps w6 HN.out (HRW.out.later acc6.out) hl).mono ?_
  rintro e w7 ⟨gk, rfl, ok, b7'⟩
  have acc7 := hidP (acc6.out.trans (b7'.mono acc6.out.size))
  have t_7 := hidP (OwnR.later t_6.out b7')
  have x_7 := hidP (OwnR.later x_6.out b7')
  have k_7 := hidP ok
  clear b7' ok
  go_wp2_with fail
  refine (eqS _ _ n _ _ ps w7 HN.out (OwnR.row x_7.out) (OwnR.row k_7.out) (by omega)).mono ?_
  rintro e w8 ⟨rfl, b8'⟩
  have acc8 := hidP (acc7.out.trans (b8'.mono acc7.out.size))
  have t_8 := hidP (OwnR.later t_7.out b8')
  have x_8 := hidP (OwnR.later x_7.out b8')
  have k_8 := hidP (OwnR.later k_7.out b8')
  clear b8'
  go_wp2_with fail
  go_ret
  exact ⟨rfl, HW0.out.trans (acc8.out.mono (by omega))⟩

end Go.Proofs.Ytamocbkamjnonaa
