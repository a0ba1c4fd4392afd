/-
  The walk of the exact law of FirstAddr.
-/
import Derived.Test.YtamocbkamjnonaaQRow
import Derived.Test.YtamocbkamjnonaaQDef
import Derived.Test.YtamocbkamjnonaaBEqA
import Derived.Test.YtamocbkamjnonaaBTo
import Derived.Test.YtamocbkamjnonaaPSLeft
namespace Go.Proofs.Ytamocbkamjnonaa
open Go.RowKit

theorem toSA (a : Option Addr) (n cap : Nat) (us : List Ad) (w : World) (hn : n = us.length) (hB : RowA w a us) (hl : n ≤ 1048576) :
    Calls Try.prog 26 #[.slice a n cap] w fun e w' => ∃ g, e = .returned (.slice (some ⟨g, 0, none⟩) n n) ∧ OwnA 35 w' w.heap.size (.slice (some ⟨g, 0, none⟩) n n) us ∧ Below w.heap.size w w' := by
  subst hn; exact toAddrS_any a cap us w hB hl
theorem eqSA (a b : Option Addr) (n c d : Nat) (us : List Ad) (w : World) (hn : n = us.length) (ha : RowA w a us) (hb : RowA w b us) (hl : n ≤ 9000000000) :
    Calls Try.prog 29 #[.slice a n c, .slice b n d] w fun e w' => e = .returned (.bool true) ∧ Below w.heap.size w w' := by
  subst hn; exact eqAddrS_same a b c d us w ha hb hl

set_option maxRecDepth 10000 in
set_option maxHeartbeats 8000000 in
theorem lawFirstAddr_core (p : Pf) (a : Option Addr) (n cap : Nat) (us : List Ad) (w : World) (hB : RowA w a us) (hn : n = us.length) (hl : n ≤ 1048576) (q : Ad) (ok : Bool)
    (hS : ∀ (g : Nat) (wx : World), RowA wx (some ⟨g, 0, none⟩) us → Calls Try.prog 25 #[.agg #[.bool p.s, .int .i64 p.H.toInt, .int .i64 p.L.toInt, .int .i64 p.b], .slice (some ⟨g, 0, none⟩) n n] wx fun e w' => e = .returned (.tuple #[.agg #[.bool q.s, .int .i64 q.H.toInt, .int .i64 q.L.toInt], .bool ok]) ∧ Below wx.heap.size wx w')
    (hI : ∀ (g : Nat) (wx : World), RowA wx (some ⟨g, 0, none⟩) us → Calls Try.prog 27 #[.agg #[.bool p.s, .int .i64 p.H.toInt, .int .i64 p.L.toInt, .int .i64 p.b], .slice (some ⟨g, 0, none⟩) n n] wx fun e w' => e = .returned (.tuple #[.agg #[.bool q.s, .int .i64 q.H.toInt, .int .i64 q.L.toInt], .bool ok]) ∧ Below wx.heap.size wx w') :
    Calls Try.prog 7 #[.agg #[.bool p.s, .int .i64 p.H.toInt, .int .i64 p.L.toInt, .int .i64 p.b], .slice a n cap] w fun e w' => e = .returned (.bool true) ∧ Below w.heap.size w w' := by
  have HN := hidP hn
  have HS := hidP hS
  have HI := hidP hI
  have d1 : decide (1048576 - (n : Int) < 0) = false := decide_eq_false (by omega)
  have HW0 := hidP ((Below.refl _ w).alloc (Nat.le_refl _) (.cells #[.bool p.s, .int .i64 p.H.toInt, .int .i64 p.L.toInt, .int .i64 p.b] 33))
  have HRW := hidP (hB.later HW0.out)
  obtain ⟨b0, b1, b2, b3⟩ := box_cells w 33 p
  have hsW := heap_size_alloc' w (.cells #[.bool p.s, .int .i64 p.H.toInt, .int .i64 p.L.toInt, .int .i64 p.b] 33)
  clear hB hn hS hI
  go_enter Try.func7, Try.ntmps7
  go_wp2_with fail
  refine (szAddrS_any a n cap hl _).mono ?_
  rintro e w1 ⟨rfl, rfl⟩
  generalize w.alloc (.cells #[.bool p.s, .int .i64 p.H.toInt, .int .i64 p.L.toInt, .int .i64 p.b] 33) = W at *
  have hgW : w.heap.size < W.heap.size := by omega
  have HC := hidP (And.intro b0 (And.intro b1 (And.intro b2 b3)))
  clear b0 b1 b2 b3
  have acc0 := hidP (Below.refl W.heap.size W)
  have z0 := (acc0.out.cell hgW).trans HC.out.1
  have z1 := (acc0.out.cell hgW).trans HC.out.2.1
  have z2 := (acc0.out.cell hgW).trans HC.out.2.2.1
  have z3 := (acc0.out.cell hgW).trans HC.out.2.2.2
  go_wp2_with fail
  refine (toPrefix_any p.s p.H.toInt p.L.toInt p.b _).mono ?_
  rintro e w1 ⟨rfl, b1'⟩
  clear z0 z1 z2 z3
  have acc1 := hidP (acc0.out.trans (b1'.mono acc0.out.size))
  clear b1'
  go_wp2_with fail
  refine (toSA a n cap us w1 HN.out (HRW.out.later acc1.out) hl).mono ?_
  rintro e w2 ⟨gt, rfl, ot, b2'⟩
  have acc2 := hidP (acc1.out.trans (b2'.mono acc1.out.size))
  have t_2 := hidP ot
  clear b2' ot
  go_wp2_with fail
  refine (HS.out gt w2 (OwnA.row t_2.out)).mono ?_
  rintro e w3 ⟨rfl, b3'⟩
  have acc3 := hidP (acc2.out.trans (b3'.mono acc2.out.size))
  have t_3 := hidP (OwnA.later t_2.out b3')
  clear b3'
  go_wp2_with fail
  have uc := hidP (boxA3 w3 35 q)
  have ub : Below w3.heap.size w3 (w3.alloc (.cells #[.bool q.s, .int .i64 q.H.toInt, .int .i64 q.L.toInt] 35)) := (Below.refl _ _).alloc (Nat.le_refl _) _
  have ul : w3.heap.size < (w3.alloc (.cells #[.bool q.s, .int .i64 q.H.toInt, .int .i64 q.L.toInt] 35)).heap.size := by simp
  generalize w3.alloc (.cells #[.bool q.s, .int .i64 q.H.toInt, .int .i64 q.L.toInt] 35) = w4 at *
  obtain ⟨un, ue⟩ : ∃ m, m = w3.heap.size := ⟨_, rfl⟩
  have acc4 := hidP (acc3.out.trans (ub.mono acc3.out.size))
  have t_4 := hidP (OwnA.later t_3.out ub)
  rw [← ue] at uc ul ⊢
  clear ub ue
  have ua4 := hidP (Below.refl w4.heap.size w4)
  refine (toSA a n cap us w4 HN.out (HRW.out.later acc4.out) hl).mono ?_
  rintro e w5 ⟨gx, rfl, ox, b5'⟩
  have acc5 := hidP (acc4.out.trans (b5'.mono acc4.out.size))
  have ua5 := hidP (ua4.out.trans (b5'.mono ua4.out.size))
  have t_5 := hidP (OwnA.later t_4.out b5')
  have x_5 := hidP ox
  clear b5' ox
  have z0 := (acc5.out.cell hgW).trans HC.out.1
  have z1 := (acc5.out.cell hgW).trans HC.out.2.1
  have z2 := (acc5.out.cell hgW).trans HC.out.2.2.1
  have z3 := (acc5.out.cell hgW).trans HC.out.2.2.2
  go_wp2_with fail
  refine (toPrefix_any p.s p.H.toInt p.L.toInt p.b _).mono ?_
  rintro e w6 ⟨rfl, b6'⟩
  clear z0 z1 z2 z3
  have acc6 := hidP (acc5.out.trans (b6'.mono acc5.out.size))
  have ua6 := hidP (ua5.out.trans (b6'.mono ua5.out.size))
  have t_6 := hidP (OwnA.later t_5.out b6')
  have x_6 := hidP (OwnA.later x_5.out b6')
  clear b6'
  go_wp2_with fail
  refine (HI.out gx w6 (OwnA.row x_6.out)).mono ?_
  rintro e w7 ⟨rfl, b7'⟩
  have acc7 := hidP (acc6.out.trans (b7'.mono acc6.out.size))
  have ua7 := hidP (ua6.out.trans (b7'.mono ua6.out.size))
  have t_7 := hidP (OwnA.later t_6.out b7')
  have x_7 := hidP (OwnA.later x_6.out b7')
  clear b7'
  have zu0 := (ua7.out.cell ul).trans uc.out.1
  have zu1 := (ua7.out.cell ul).trans uc.out.2.1
  have zu2 := (ua7.out.cell ul).trans uc.out.2.2
  have zu4 : un < w7.heap.size := Nat.lt_of_lt_of_le ul ua7.out.size
  go_wp2_with fail
  clear zu0 zu1 zu2 zu4
  have vc := hidP (boxA3 w7 35 q)
  have vb : Below w7.heap.size w7 (w7.alloc (.cells #[.bool q.s, .int .i64 q.H.toInt, .int .i64 q.L.toInt] 35)) := (Below.refl _ _).alloc (Nat.le_refl _) _
  have vl : w7.heap.size < (w7.alloc (.cells #[.bool q.s, .int .i64 q.H.toInt, .int .i64 q.L.toInt] 35)).heap.size := by simp
  generalize w7.alloc (.cells #[.bool q.s, .int .i64 q.H.toInt, .int .i64 q.L.toInt] 35) = w8 at *
  obtain ⟨vn, ve⟩ : ∃ m, m = w7.heap.size := ⟨_, rfl⟩
  have acc8 := hidP (acc7.out.trans (vb.mono acc7.out.size))
  have ua8 := hidP (ua7.out.trans (vb.mono ua7.out.size))
  have t_8 := hidP (OwnA.later t_7.out vb)
  have x_8 := hidP (OwnA.later x_7.out vb)
  rw [← ve] at vc vl ⊢
  clear vb ve
  have va8 := hidP (Below.refl w8.heap.size w8)
  refine (eqA_same q.s q.H.toInt q.L.toInt _).mono ?_
  rintro e w9 ⟨rfl, b9'⟩
  have acc9 := hidP (acc8.out.trans (b9'.mono acc8.out.size))
  have ua9 := hidP (ua8.out.trans (b9'.mono ua8.out.size))
  have va9 := hidP (va8.out.trans (b9'.mono va8.out.size))
  have t_9 := hidP (OwnA.later t_8.out b9')
  have x_9 := hidP (OwnA.later x_8.out b9')
  clear b9'
  go_wp2_with fail
  refine (toSA a n cap us w9 HN.out (HRW.out.later acc9.out) hl).mono ?_
  rintro e w10 ⟨gk, rfl, ok, b10'⟩
  have acc10 := hidP (acc9.out.trans (b10'.mono acc9.out.size))
  have ua10 := hidP (ua9.out.trans (b10'.mono ua9.out.size))
  have va10 := hidP (va9.out.trans (b10'.mono va9.out.size))
  have t_10 := hidP (OwnA.later t_9.out b10')
  have x_10 := hidP (OwnA.later x_9.out b10')
  have k_10 := hidP ok
  clear b10' ok
  go_wp2_with fail
  refine (eqSA _ _ n _ _ us w10 HN.out (OwnA.row x_10.out) (OwnA.row k_10.out) (by omega)).mono ?_
  rintro e w11 ⟨rfl, b11'⟩
  have acc11 := hidP (acc10.out.trans (b11'.mono acc10.out.size))
  have ua11 := hidP (ua10.out.trans (b11'.mono ua10.out.size))
  have va11 := hidP (va10.out.trans (b11'.mono va10.out.size))
  have t_11 := hidP (OwnA.later t_10.out b11')
  have x_11 := hidP (OwnA.later x_10.out b11')
  have k_11 := hidP (OwnA.later k_10.out b11')
  clear b11'
  go_wp2_with fail
  go_ret
  exact ⟨rfl, HW0.out.trans (acc11.out.mono (by omega))⟩

end Go.Proofs.Ytamocbkamjnonaa
