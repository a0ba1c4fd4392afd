/-
  The program's follows and isCarved.
-/
import Derived.Test.YtmbmekcppmbokaaGreatVIdx
import Derived.Test.YtmbmekcppmbokaaGreatBIOver
import Derived.Test.YtmbmekcppmbokaaGreatBIWith
namespace Go.Proofs.YtmbmekcppmbokaaGreat
open Go.RowKit

set_option maxHeartbeats 1000000 in
theorem follows_any (p q : Pf) (hp : p.pk = true) (hq : q.pk = true) (w : World) :
    Calls Tryz.prog 82 #[.agg #[.bool p.s, .int .i64 p.H.toInt, .int .i64 p.L.toInt, .int .i64 p.b], .agg #[.bool q.s, .int .i64 q.H.toInt, .int .i64 q.L.toInt, .int .i64 q.b]] w fun e w' => e = .returned (.bool (folB p q)) ∧ Below w.heap.size w w' := by
  have HC := hidP (iCmpP p q hp hq)
  have HO := hidP (iOverlaps_any p.s p.H p.L p.b q.s q.H q.L q.b)
  change Hid (∀ w, Calls Tryz.prog 95 _ w fun e w' => e = .returned (.bool (ovP p q)) ∧ Below w.heap.size w w') at HO
  unfold folB
  cases h1 : decide (cmpP p q < 0)
  · go_enter Tryz.func82, Tryz.ntmps82
    go_wp2_with fail
    refine (HC.out _).mono ?_
    rintro e w1 ⟨rfl, hb1⟩
    have hz1 := hb1.size
    try simp at hz1
    have f10 : w.heap.size < w1.heap.size := by omega
    have f11 : w.heap.size + 1 < w1.heap.size := by omega
    refine olds_k (w.heap.size + 2) hb1 ?_ ?_
    · first | omega | (simp; omega) | (simp; done)
    intro hc1 hf1
    go_wp2_with fail
    go_ret
    refine ⟨rfl, ?_⟩
    repeat (first | with_reducible exact Below.refl _ _ | (with_reducible refine Below.drew ?_) | (with_reducible refine Below.alloc ?_ ?_ _; rotate_left; (focus (first | omega | (simp; omega) | (simp; done)))) | (with_reducible refine Below.setCell ?_ ?_ _; rotate_left; (focus (first | omega | (simp; omega) | (simp; done)))) | (with_reducible refine Below.trans ?_ (hb1.mono ?_); rotate_left; (focus (first | omega | (simp; omega) | (simp; done)))))
  · generalize ovP p q = r at *
    go_enter Tryz.func82, Tryz.ntmps82
    go_wp2_with fail
    refine (HC.out _).mono ?_
    rintro e w1 ⟨rfl, hb1⟩
    have hz1 := hb1.size
    try simp at hz1
    have f10 : w.heap.size < w1.heap.size := by omega
    have f11 : w.heap.size + 1 < w1.heap.size := by omega
    refine olds_k (w.heap.size + 2) hb1 ?_ ?_
    · first | omega | (simp; omega) | (simp; done)
    intro hc1 hf1
    go_wp2_with fail
    refine (HO.out _).mono ?_
    rintro e w2 ⟨rfl, hb2⟩
    have hz2 := hb2.size
    try simp at hz2
    go_wp2_with fail
    go_ret
    refine ⟨by cases r <;> rfl, ?_⟩
    repeat (first | with_reducible exact Below.refl _ _ | (with_reducible refine Below.drew ?_) | (with_reducible refine Below.alloc ?_ ?_ _; rotate_left; (focus (first | omega | (simp; omega) | (simp; done)))) | (with_reducible refine Below.setCell ?_ ?_ _; rotate_left; (focus (first | omega | (simp; omega) | (simp; done)))) | (with_reducible refine Below.trans ?_ (hb2.mono ?_); rotate_left; (focus (first | omega | (simp; omega) | (simp; done)))) | (with_reducible refine Below.trans ?_ (hb1.mono ?_); rotate_left; (focus (first | omega | (simp; omega) | (simp; done)))))

set_option maxHeartbeats 1000000 in
theorem carved1_any (p : Pf) (q : Pl) (cb : Nat) (w : World) (hcb : cb < w.heap.size) (x0 : w.cell? ⟨cb, 0, none⟩ = some (.bool p.s)) (x1 : w.cell? ⟨cb, 1, none⟩ = some (.int .i64 p.H.toInt)) (x2 : w.cell? ⟨cb, 2, none⟩ = some (.int .i64 p.L.toInt)) (x3 : w.cell? ⟨cb, 3, none⟩ = some (.int .i64 p.b)) :
    Calls Tryz.prog 97 #[.agg #[.bool q.p.s, .int .i64 q.p.H.toInt, .int .i64 q.p.L.toInt, .int .i64 q.p.b, .int .i64 q.n], .pointer (some ⟨cb, 0, none⟩)] w fun e w' => e = .returned (.bool ((p.b == q.n) && winP p q.p)) ∧ Below w.heap.size w w' := by
  have HW := hidP (iWithin_any p.s p.H p.L p.b q.p.s q.p.H q.p.L q.p.b)
  change Hid (∀ w, Calls Tryz.prog 68 _ w fun e w' => e = .returned (.bool (winP p q.p)) ∧ Below w.heap.size w w') at HW
  have hne : cb ≠ w.heap.size := by omega
  cases h1 : (p.b == q.n)
  · go_enter Tryz.func97, Tryz.ntmps97
    go_wp2_with fail
    go_ret
    exact ⟨rfl, (Below.refl _ _).alloc (Nat.le_refl _) _⟩
  · generalize winP p q.p = r at *
    go_enter Tryz.func97, Tryz.ntmps97
    go_wp2_with fail
    refine (HW.out _).mono ?_
    rintro e w1 ⟨rfl, hb1⟩
    go_wp2_with fail
    go_ret
    refine ⟨by cases r <;> rfl, ?_⟩
    repeat (first | with_reducible exact Below.refl _ _ | (with_reducible refine Below.drew ?_) | (with_reducible refine Below.alloc ?_ ?_ _; rotate_left; (focus (first | omega | (simp; omega) | (simp; done)))) | (with_reducible refine Below.setCell ?_ ?_ _; rotate_left; (focus (first | omega | (simp; omega) | (simp; done)))) | (with_reducible refine Below.trans ?_ (hb1.mono ?_); rotate_left; (focus (first | omega | (simp; omega) | (simp; done)))))

set_option maxHeartbeats 1000000 in
theorem isCarved_any (p : Pf) (a : Option Addr) (n cap : Nat) (ps : List Pl) (w : World) (hn : n = ps.length) (hB : RowG KPl w a ps) (hl : n ≤ 9000000000) :
    Calls Tryz.prog 83 #[.slice a n cap, .agg #[.bool p.s, .int .i64 p.H.toInt, .int .i64 p.L.toInt, .int .i64 p.b]] w fun e w' => e = .returned (.bool (carB ps p)) ∧ Below w.heap.size w w' := by
  have HB := hidP hB
  have HN := hidP hn
  clear hB hn
  go_enter Tryz.func83, Tryz.ntmps83
  go_wp2_with fail
  obtain ⟨x0, x1, x2, x3⟩ := box4 (p := p) w 37
  have xB := alloc_below w (.cells #[.bool p.s, .int .i64 p.H.toInt, .int .i64 p.L.toInt, .int .i64 p.b] 37)
  have xL := alloc_lt w (.cells #[.bool p.s, .int .i64 p.H.toInt, .int .i64 p.L.toInt, .int .i64 p.b] 37)
  have xS : (w.alloc (.cells #[.bool p.s, .int .i64 p.H.toInt, .int .i64 p.L.toInt, .int .i64 p.b] 37)).heap.size = w.heap.size + 1 := by simp
  generalize w.alloc (.cells #[.bool p.s, .int .i64 p.H.toInt, .int .i64 p.L.toInt, .int .i64 p.b] 37) = W1 at *
  have HC := hidP (cont_carved (fun q => (p.b == q.n) && winP p q.p) w.heap.size a n cap ps W1 HN.out (HB.out.later xB) hl (fun q W hW => carved1_any p q w.heap.size W (Nat.lt_of_lt_of_le xL hW.size) ((hW.cell xL).trans x0) ((hW.cell xL).trans x1) ((hW.cell xL).trans x2) ((hW.cell xL).trans x3)))
  have HX := hidP xB
  clear xB xS x0 x1 x2 x3
  refine (HC.out).mono ?_
  rintro e w1 ⟨rfl, hb1⟩
  go_wp2_with fail
  go_ret
  exact ⟨rfl, HX.out.trans (hb1.mono HX.out.size)⟩

end Go.Proofs.YtmbmekcppmbokaaGreat
