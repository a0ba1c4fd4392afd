/-
  The place of a pool: the program's placeOfPool and the specification's l5Exact.
-/
import Derived.Test.YtdbcdichmmcnbaaGreatZK35
import Derived.Test.YtdbcdichmmcnbaaGreatZK1
namespace Go.Proofs.YtdbcdichmmcnbaaGreat
open Go.RowKit

/-- The place of the pool p. -/
def plc (p : Pf) (ps : List Pl) : Int := ixF (fun q => peqB q.p p) 0 ps

set_option maxHeartbeats 1000000 in
theorem place1_any (p : Pf) (q : Pl) (cb : Nat) (w : World) (hcb : cb < w.heap.size) (x0 : w.cell? ⟨cb, 0, none⟩ = some (.bool p.s)) (x1 : w.cell? ⟨cb, 1, none⟩ = some (.int .i64 p.H.toInt)) (x2 : w.cell? ⟨cb, 2, none⟩ = some (.int .i64 p.L.toInt)) (x3 : w.cell? ⟨cb, 3, none⟩ = some (.int .i64 p.b)) :
    Calls Tryz.prog 85 #[.agg #[.bool q.p.s, .int .i64 q.p.H.toInt, .int .i64 q.p.L.toInt, .int .i64 q.p.b, .int .i64 q.n], .pointer (some ⟨cb, 0, none⟩)] w fun e w' => e = .returned (.bool (peqB q.p p)) ∧ Below w.heap.size w w' := by
  have hne : cb ≠ w.heap.size := by omega
  have hq := eqPfx q.p p
  generalize peqB q.p p = r at *
  go_enter Tryz.func85, Tryz.ntmps85
  go_wp2_with fail
  go_ret
  exact ⟨rfl, (Below.refl _ _).alloc (Nat.le_refl _) _⟩

set_option maxHeartbeats 1000000 in
theorem placeOfPool_any (pt : Pf) (ap : Option Addr) (np cp : Nat) (ab : Option Addr) (nb cb : Nat) (ps : List Pl) (w : World) (hnp : np = ps.length) (hP : RowG KPl w ap ps) (hlp : np ≤ 9000000000) :
    Calls Tryz.prog 35 #[.agg #[.slice ap np cp, .slice ab nb cb], .agg #[.bool pt.s, .int .i64 pt.H.toInt, .int .i64 pt.L.toInt, .int .i64 pt.b]] w fun e w' => e = .returned (.int .i64 (plc pt ps)) ∧ Below w.heap.size w w' := by
  have HB := hidP hP
  have HN := hidP hnp
  clear hP hnp
  go_enter Tryz.func35, Tryz.ntmps35
  go_wp2_with fail
  obtain ⟨u0, u1⟩ := box2 (u := .slice ap np cp) (v := .slice ab nb cb) w 27
  have uB := alloc_below w (.cells #[.slice ap np cp, .slice ab nb cb] 27)
  have uL := alloc_lt w (.cells #[.slice ap np cp, .slice ab nb cb] 27)
  have uS : (w.alloc (.cells #[.slice ap np cp, .slice ab nb cb] 27)).heap.size = w.heap.size + 1 := by simp
  generalize w.alloc (.cells #[.slice ap np cp, .slice ab nb cb] 27) = W1 at *
  obtain ⟨y0, y1, y2, y3⟩ := box4 (p := pt) W1 31
  have yB := alloc_below W1 (.cells #[.bool pt.s, .int .i64 pt.H.toInt, .int .i64 pt.L.toInt, .int .i64 pt.b] 31)
  have yL := alloc_lt W1 (.cells #[.bool pt.s, .int .i64 pt.H.toInt, .int .i64 pt.L.toInt, .int .i64 pt.b] 31)
  have yS : (W1.alloc (.cells #[.bool pt.s, .int .i64 pt.H.toInt, .int .i64 pt.L.toInt, .int .i64 pt.b] 31)).heap.size = W1.heap.size + 1 := by simp
  generalize W1.alloc (.cells #[.bool pt.s, .int .i64 pt.H.toInt, .int .i64 pt.L.toInt, .int .i64 pt.b] 31) = W2 at *
  rw [uS] at y0 y1 y2 y3 yL yS
  have HUB := hidP (uB.trans (yB.mono uB.size))
  have HC := hidP (idx_place (fun q => peqB q.p pt) (w.heap.size + 1) ap np cp ps W2 HN.out (HB.out.later HUB.out) hlp (fun q W hW => place1_any pt q (w.heap.size + 1) W (Nat.lt_of_lt_of_le yL hW.size) ((hW.cell yL).trans y0) ((hW.cell yL).trans y1) ((hW.cell yL).trans y2) ((hW.cell yL).trans y3)))
  clear uB yB uS yS u0 u1 y0 y1 y2 y3
  refine (HC.out).mono ?_
  rintro e w1 ⟨rfl, hb1⟩
  go_wp2_with fail
  go_ret
  exact ⟨rfl, HUB.out.trans (hb1.mono HUB.out.size)⟩

set_option maxRecDepth 10000 in
set_option maxHeartbeats 1000000 in
theorem exact_a (pt : Pf) (ap : Option Addr) (np cp : Nat) (ab : Option Addr) (nb cb : Nat) (ps : List Pl) (w : World) (hnp : np = ps.length) (hP : RowG KPl w ap ps) (hlp : np ≤ 9000000000) (hk : lpF pt 0 ps = -1) :
    Calls Tryz.prog 44 #[.agg #[.slice ap np cp, .slice ab nb cb], .agg #[.bool pt.s, .int .i64 pt.H.toInt, .int .i64 pt.L.toInt, .int .i64 pt.b]] w fun e w' => e = .returned (.int .i64 (-1)) ∧ Below w.heap.size w w' := by
  have HL := hidP (fun W h => l5Pool_any pt ap np cp ab nb cb ps W hnp (hP.later h) hlp)
  rw [hk] at HL
  have HB := hidP hP
  have HN := hidP hnp
  clear hP hnp
  go_enter Tryz.func44, Tryz.ntmps44
  go_wp2_with fail
  obtain ⟨u0, u1⟩ := box2 (u := .slice ap np cp) (v := .slice ab nb cb) w 27
  have uB := alloc_below w (.cells #[.slice ap np cp, .slice ab nb cb] 27)
  have uL := alloc_lt w (.cells #[.slice ap np cp, .slice ab nb cb] 27)
  have uS : (w.alloc (.cells #[.slice ap np cp, .slice ab nb cb] 27)).heap.size = w.heap.size + 1 := by simp
  generalize w.alloc (.cells #[.slice ap np cp, .slice ab nb cb] 27) = W1 at *
  obtain ⟨y0, y1, y2, y3⟩ := box4 (p := pt) W1 31
  have yB := alloc_below W1 (.cells #[.bool pt.s, .int .i64 pt.H.toInt, .int .i64 pt.L.toInt, .int .i64 pt.b] 31)
  have yL := alloc_lt W1 (.cells #[.bool pt.s, .int .i64 pt.H.toInt, .int .i64 pt.L.toInt, .int .i64 pt.b] 31)
  have yS : (W1.alloc (.cells #[.bool pt.s, .int .i64 pt.H.toInt, .int .i64 pt.L.toInt, .int .i64 pt.b] 31)).heap.size = W1.heap.size + 1 := by simp
  generalize W1.alloc (.cells #[.bool pt.s, .int .i64 pt.H.toInt, .int .i64 pt.L.toInt, .int .i64 pt.b] 31) = W2 at *
  rw [uS] at y0 y1 y2 y3 yL yS
  have s0 := (yB.cell uL).trans u0
  have sL : w.heap.size < W2.heap.size := by omega
  have HUB := hidP (uB.trans (yB.mono uB.size))
  clear uB yB uS yS u0 u1 uL
  refine (HL.out _ HUB.out).mono ?_
  rintro e w3 ⟨rfl, hb3⟩
  have z0 := (hb3.cell sL).trans s0
  have zL : w.heap.size < w3.heap.size := Nat.lt_of_lt_of_le sL hb3.size
  have r0 := (hb3.cell yL).trans y0
  have r1 := (hb3.cell yL).trans y1
  have r2 := (hb3.cell yL).trans y2
  have r3 := (hb3.cell yL).trans y3
  have rL : w.heap.size + 1 < w3.heap.size := Nat.lt_of_lt_of_le yL hb3.size
  have B3 := hidP (HUB.out.trans (hb3.mono HUB.out.size))
  clear hb3 s0 y0 y1 y2 y3
  go_wp2_with fail
  have HSx : Hid (∀ x, Below w3.heap.size w3 x → (x.cell? ⟨w.heap.size, 0, none⟩ = some (.slice ap np cp) ∧ x.cell? ⟨w.heap.size + 1, 0, none⟩ = some (.bool pt.s) ∧ x.cell? ⟨w.heap.size + 1, 1, none⟩ = some (.int .i64 pt.H.toInt) ∧ x.cell? ⟨w.heap.size + 1, 2, none⟩ = some (.int .i64 pt.L.toInt) ∧ x.cell? ⟨w.heap.size + 1, 3, none⟩ = some (.int .i64 pt.b) ∧ Below w3.heap.size w3 x)) := hidP fun x h =>
    ⟨(h.cell zL).trans z0, (h.cell rL).trans r0, (h.cell rL).trans r1, (h.cell rL).trans r2, (h.cell rL).trans r3, h⟩
  refine wp_region_held_drew (S := (fun x => x.cell? ⟨w.heap.size, 0, none⟩ = some (.slice ap np cp) ∧ x.cell? ⟨w.heap.size + 1, 0, none⟩ = some (.bool pt.s) ∧ x.cell? ⟨w.heap.size + 1, 1, none⟩ = some (.int .i64 pt.H.toInt) ∧ x.cell? ⟨w.heap.size + 1, 2, none⟩ = some (.int .i64 pt.L.toInt) ∧ x.cell? ⟨w.heap.size + 1, 3, none⟩ = some (.int .i64 pt.b) ∧ Below w3.heap.size w3 x)) (by kernel_rfl) ?_ (fun hHeld => ?_)
  · try dsimp only
    exact HSx.out _ ((Below.refl _ _).drew)
  refine tk 0 9 rfl ?_
  simp only [pa]
  refine tk 1 10 rfl ?_
  simp only [pa]
  refine tk 2 11 rfl ?_
  simp only [pa]
  refine sk 3 12 rfl ?_
  simp only [pa]
  refine sk 4 13 rfl ?_
  simp only [pa]
  refine sk 5 14 rfl ?_
  simp only [pa]
  refine sk 6 15 rfl ?_
  simp only [pa]
  refine sk 7 16 rfl ?_
  simp only [pa]
  refine sk 8 17 rfl ?_
  simp only [pa]
  refine sk 9 18 rfl ?_
  simp only [pa]
  refine sk 10 19 rfl ?_
  simp only [pa]
  refine tk 11 20 rfl ?_
  simp only [pa]
  have HE := hidP (hHeld.2.2.2.2.2)
  refine wpAnyH_done (by kernel_rfl) ?_ _
  clear hHeld
  go_wp2_with fail
  go_ret
  exact ⟨rfl, B3.out.trans (HE.out.mono B3.out.size)⟩

set_option maxRecDepth 10000 in
set_option maxHeartbeats 1000000 in
theorem exact_b (pt : Pf) (ap : Option Addr) (np cp : Nat) (ab : Option Addr) (nb cb : Nat) (ps : List Pl) (w : World) (hnp : np = ps.length) (hP : RowG KPl w ap ps) (hlp : np ≤ 9000000000) (j : Nat) (pq : Pl) (hk : lpF pt 0 ps = (j : Int)) (hx : ps[j]? = some pq) (heq : peqB pq.p pt = true) :
    Calls Tryz.prog 44 #[.agg #[.slice ap np cp, .slice ab nb cb], .agg #[.bool pt.s, .int .i64 pt.H.toInt, .int .i64 pt.L.toInt, .int .i64 pt.b]] w fun e w' => e = .returned (.int .i64 (j)) ∧ Below w.heap.size w w' := by
  have HL := hidP (fun W h => l5Pool_any pt ap np cp ab nb cb ps W hnp (hP.later h) hlp)
  rw [hk] at HL
  have HB := hidP hP
  have HN := hidP hnp
  clear hP hnp
  have hjn : j < np := by
    rw [HN.out]
    rcases Nat.lt_or_ge j ps.length with h' | h'
    · exact h'
    · rw [List.getElem?_eq_none h'] at hx; cases hx
  have wj : IntKind.i64.wrap (j : Int) = (j : Int) := by rw [IntKind.wrap_i64]; omega
  have hj0 : (0 : Int) ≤ (j : Int) := by omega
  have hj1 : (j : Int) < (np : Int) := by omega
  have gj : decide ((0 : Int) ≤ (j : Int)) = true := decide_eq_true (by omega)
  obtain ⟨p, o, x2, rfl, hp, hx2, c0, c1, c2, c3, c4⟩ := rowPl HB.out j (by rw [← HN.out]; exact hjn)
  rw [hx] at hx2
  cases hx2
  have hq := eqPfx pq.p pt
  rw [heq] at hq
  clear hx heq c4 HB
  go_enter Tryz.func44, Tryz.ntmps44
  go_wp2_with fail
  obtain ⟨u0, u1⟩ := box2 (u := .slice (some ⟨p, o, none⟩) np cp) (v := .slice ab nb cb) w 27
  have uB := alloc_below w (.cells #[.slice (some ⟨p, o, none⟩) np cp, .slice ab nb cb] 27)
  have uL := alloc_lt w (.cells #[.slice (some ⟨p, o, none⟩) np cp, .slice ab nb cb] 27)
  have uS : (w.alloc (.cells #[.slice (some ⟨p, o, none⟩) np cp, .slice ab nb cb] 27)).heap.size = w.heap.size + 1 := by simp
  generalize w.alloc (.cells #[.slice (some ⟨p, o, none⟩) np cp, .slice ab nb cb] 27) = W1 at *
  obtain ⟨y0, y1, y2, y3⟩ := box4 (p := pt) W1 31
  have yB := alloc_below W1 (.cells #[.bool pt.s, .int .i64 pt.H.toInt, .int .i64 pt.L.toInt, .int .i64 pt.b] 31)
  have yL := alloc_lt W1 (.cells #[.bool pt.s, .int .i64 pt.H.toInt, .int .i64 pt.L.toInt, .int .i64 pt.b] 31)
  have yS : (W1.alloc (.cells #[.bool pt.s, .int .i64 pt.H.toInt, .int .i64 pt.L.toInt, .int .i64 pt.b] 31)).heap.size = W1.heap.size + 1 := by simp
  generalize W1.alloc (.cells #[.bool pt.s, .int .i64 pt.H.toInt, .int .i64 pt.L.toInt, .int .i64 pt.b] 31) = W2 at *
  rw [uS] at y0 y1 y2 y3 yL yS
  have s0 := (yB.cell uL).trans u0
  have sL : w.heap.size < W2.heap.size := by omega
  have HUB := hidP (uB.trans (yB.mono uB.size))
  clear uB yB uS yS u0 u1 uL
  refine (HL.out _ HUB.out).mono ?_
  rintro e w3 ⟨rfl, hb3⟩
  have z0 := (hb3.cell sL).trans s0
  have zL : w.heap.size < w3.heap.size := Nat.lt_of_lt_of_le sL hb3.size
  have r0 := (hb3.cell yL).trans y0
  have r1 := (hb3.cell yL).trans y1
  have r2 := (hb3.cell yL).trans y2
  have r3 := (hb3.cell yL).trans y3
  have rL : w.heap.size + 1 < w3.heap.size := Nat.lt_of_lt_of_le yL hb3.size
  have B3 := hidP (HUB.out.trans (hb3.mono HUB.out.size))
  have d0 := (B3.out.cell hp).trans c0
  have d1 := (B3.out.cell hp).trans c1
  have d2 := (B3.out.cell hp).trans c2
  have d3 := (B3.out.cell hp).trans c3
  have dL : p < w3.heap.size := Nat.lt_of_lt_of_le hp B3.out.size
  clear hb3 s0 y0 y1 y2 y3
  go_wp2_with fail
  have HSx : Hid (∀ x, Below w3.heap.size w3 x → (x.cell? ⟨w.heap.size, 0, none⟩ = some (.slice (some ⟨p, o, none⟩) np cp) ∧ x.cell? ⟨w.heap.size + 1, 0, none⟩ = some (.bool pt.s) ∧ x.cell? ⟨w.heap.size + 1, 1, none⟩ = some (.int .i64 pt.H.toInt) ∧ x.cell? ⟨w.heap.size + 1, 2, none⟩ = some (.int .i64 pt.L.toInt) ∧ x.cell? ⟨w.heap.size + 1, 3, none⟩ = some (.int .i64 pt.b) ∧ x.cell? ⟨p, o + j * 5, none⟩ = some (.bool pq.p.s) ∧ x.cell? ⟨p, o + j * 5 + 1, none⟩ = some (.int .i64 pq.p.H.toInt) ∧ x.cell? ⟨p, o + j * 5 + 2, none⟩ = some (.int .i64 pq.p.L.toInt) ∧ x.cell? ⟨p, o + j * 5 + 3, none⟩ = some (.int .i64 pq.p.b) ∧ Below w3.heap.size w3 x)) := hidP fun x h =>
    ⟨(h.cell zL).trans z0, (h.cell rL).trans r0, (h.cell rL).trans r1, (h.cell rL).trans r2, (h.cell rL).trans r3, (h.cell dL).trans d0, (h.cell dL).trans d1, (h.cell dL).trans d2, (h.cell dL).trans d3, h⟩
  refine wp_region_held_drew (S := (fun x => x.cell? ⟨w.heap.size, 0, none⟩ = some (.slice (some ⟨p, o, none⟩) np cp) ∧ x.cell? ⟨w.heap.size + 1, 0, none⟩ = some (.bool pt.s) ∧ x.cell? ⟨w.heap.size + 1, 1, none⟩ = some (.int .i64 pt.H.toInt) ∧ x.cell? ⟨w.heap.size + 1, 2, none⟩ = some (.int .i64 pt.L.toInt) ∧ x.cell? ⟨w.heap.size + 1, 3, none⟩ = some (.int .i64 pt.b) ∧ x.cell? ⟨p, o + j * 5, none⟩ = some (.bool pq.p.s) ∧ x.cell? ⟨p, o + j * 5 + 1, none⟩ = some (.int .i64 pq.p.H.toInt) ∧ x.cell? ⟨p, o + j * 5 + 2, none⟩ = some (.int .i64 pq.p.L.toInt) ∧ x.cell? ⟨p, o + j * 5 + 3, none⟩ = some (.int .i64 pq.p.b) ∧ Below w3.heap.size w3 x)) (by kernel_rfl) ?_ (fun hHeld => ?_)
  · try dsimp only
    exact HSx.out _ ((Below.refl _ _).drew)
  refine tk 0 9 rfl ?_
  simp only [pa]
  refine tk 1 10 rfl ?_
  simp only [pa]
  refine tk 2 11 rfl ?_
  simp only [pa]
  refine tk 3 12 rfl ?_
  simp only [pa]
  refine tk 4 13 rfl ?_
  simp only [pa]
  refine tk 5 14 rfl ?_
  simp only [pa]
  refine tk 6 15 rfl ?_
  simp only [pa]
  refine tk 7 16 rfl ?_
  simp only [pa]
  refine tk 8 17 rfl ?_
  simp only [pa]
  refine tk 9 18 rfl ?_
  simp only [pa]
  refine tk 10 19 rfl ?_
  simp only [pa]
  refine tk 11 20 rfl ?_
  simp only [pa]
  have HE := hidP (hHeld.2.2.2.2.2.2.2.2.2)
  refine wpAnyH_done (by kernel_rfl) ?_ _
  clear hHeld
  go_wp2_with fail
  go_ret
  exact ⟨rfl, B3.out.trans (HE.out.mono B3.out.size)⟩

set_option maxRecDepth 10000 in
set_option maxHeartbeats 1000000 in
theorem exact_c (pt : Pf) (ap : Option Addr) (np cp : Nat) (ab : Option Addr) (nb cb : Nat) (ps : List Pl) (w : World) (hnp : np = ps.length) (hP : RowG KPl w ap ps) (hlp : np ≤ 9000000000) (j : Nat) (pq : Pl) (hk : lpF pt 0 ps = (j : Int)) (hx : ps[j]? = some pq) (heq : peqB pq.p pt = false) :
    Calls Tryz.prog 44 #[.agg #[.slice ap np cp, .slice ab nb cb], .agg #[.bool pt.s, .int .i64 pt.H.toInt, .int .i64 pt.L.toInt, .int .i64 pt.b]] w fun e w' => e = .returned (.int .i64 (-1)) ∧ Below w.heap.size w w' := by
  have HL := hidP (fun W h => l5Pool_any pt ap np cp ab nb cb ps W hnp (hP.later h) hlp)
  rw [hk] at HL
  have HB := hidP hP
  have HN := hidP hnp
  clear hP hnp
  have hjn : j < np := by
    rw [HN.out]
    rcases Nat.lt_or_ge j ps.length with h' | h'
    · exact h'
    · rw [List.getElem?_eq_none h'] at hx; cases hx
  have wj : IntKind.i64.wrap (j : Int) = (j : Int) := by rw [IntKind.wrap_i64]; omega
  have hj0 : (0 : Int) ≤ (j : Int) := by omega
  have hj1 : (j : Int) < (np : Int) := by omega
  have gj : decide ((0 : Int) ≤ (j : Int)) = true := decide_eq_true (by omega)
  obtain ⟨p, o, x2, rfl, hp, hx2, c0, c1, c2, c3, c4⟩ := rowPl HB.out j (by rw [← HN.out]; exact hjn)
  rw [hx] at hx2
  cases hx2
  have hq := eqPfx pq.p pt
  rw [heq] at hq
  clear hx heq c4 HB
  go_enter Tryz.func44, Tryz.ntmps44
  go_wp2_with fail
  obtain ⟨u0, u1⟩ := box2 (u := .slice (some ⟨p, o, none⟩) np cp) (v := .slice ab nb cb) w 27
  have uB := alloc_below w (.cells #[.slice (some ⟨p, o, none⟩) np cp, .slice ab nb cb] 27)
  have uL := alloc_lt w (.cells #[.slice (some ⟨p, o, none⟩) np cp, .slice ab nb cb] 27)
  have uS : (w.alloc (.cells #[.slice (some ⟨p, o, none⟩) np cp, .slice ab nb cb] 27)).heap.size = w.heap.size + 1 := by simp
  generalize w.alloc (.cells #[.slice (some ⟨p, o, none⟩) np cp, .slice ab nb cb] 27) = W1 at *
  obtain ⟨y0, y1, y2, y3⟩ := box4 (p := pt) W1 31
  have yB := alloc_below W1 (.cells #[.bool pt.s, .int .i64 pt.H.toInt, .int .i64 pt.L.toInt, .int .i64 pt.b] 31)
  have yL := alloc_lt W1 (.cells #[.bool pt.s, .int .i64 pt.H.toInt, .int .i64 pt.L.toInt, .int .i64 pt.b] 31)
  have yS : (W1.alloc (.cells #[.bool pt.s, .int .i64 pt.H.toInt, .int .i64 pt.L.toInt, .int .i64 pt.b] 31)).heap.size = W1.heap.size + 1 := by simp
  generalize W1.alloc (.cells #[.bool pt.s, .int .i64 pt.H.toInt, .int .i64 pt.L.toInt, .int .i64 pt.b] 31) = W2 at *
  rw [uS] at y0 y1 y2 y3 yL yS
  have s0 := (yB.cell uL).trans u0
  have sL : w.heap.size < W2.heap.size := by omega
  have HUB := hidP (uB.trans (yB.mono uB.size))
  clear uB yB uS yS u0 u1 uL
  refine (HL.out _ HUB.out).mono ?_
  rintro e w3 ⟨rfl, hb3⟩
  have z0 := (hb3.cell sL).trans s0
  have zL : w.heap.size < w3.heap.size := Nat.lt_of_lt_of_le sL hb3.size
  have r0 := (hb3.cell yL).trans y0
  have r1 := (hb3.cell yL).trans y1
  have r2 := (hb3.cell yL).trans y2
  have r3 := (hb3.cell yL).trans y3
  have rL : w.heap.size + 1 < w3.heap.size := Nat.lt_of_lt_of_le yL hb3.size
  have B3 := hidP (HUB.out.trans (hb3.mono HUB.out.size))
  have d0 := (B3.out.cell hp).trans c0
  have d1 := (B3.out.cell hp).trans c1
  have d2 := (B3.out.cell hp).trans c2
  have d3 := (B3.out.cell hp).trans c3
  have dL : p < w3.heap.size := Nat.lt_of_lt_of_le hp B3.out.size
  clear hb3 s0 y0 y1 y2 y3
  go_wp2_with fail
  have HSx : Hid (∀ x, Below w3.heap.size w3 x → (x.cell? ⟨w.heap.size, 0, none⟩ = some (.slice (some ⟨p, o, none⟩) np cp) ∧ x.cell? ⟨w.heap.size + 1, 0, none⟩ = some (.bool pt.s) ∧ x.cell? ⟨w.heap.size + 1, 1, none⟩ = some (.int .i64 pt.H.toInt) ∧ x.cell? ⟨w.heap.size + 1, 2, none⟩ = some (.int .i64 pt.L.toInt) ∧ x.cell? ⟨w.heap.size + 1, 3, none⟩ = some (.int .i64 pt.b) ∧ x.cell? ⟨p, o + j * 5, none⟩ = some (.bool pq.p.s) ∧ x.cell? ⟨p, o + j * 5 + 1, none⟩ = some (.int .i64 pq.p.H.toInt) ∧ x.cell? ⟨p, o + j * 5 + 2, none⟩ = some (.int .i64 pq.p.L.toInt) ∧ x.cell? ⟨p, o + j * 5 + 3, none⟩ = some (.int .i64 pq.p.b) ∧ Below w3.heap.size w3 x)) := hidP fun x h =>
    ⟨(h.cell zL).trans z0, (h.cell rL).trans r0, (h.cell rL).trans r1, (h.cell rL).trans r2, (h.cell rL).trans r3, (h.cell dL).trans d0, (h.cell dL).trans d1, (h.cell dL).trans d2, (h.cell dL).trans d3, h⟩
  refine wp_region_held_drew (S := (fun x => x.cell? ⟨w.heap.size, 0, none⟩ = some (.slice (some ⟨p, o, none⟩) np cp) ∧ x.cell? ⟨w.heap.size + 1, 0, none⟩ = some (.bool pt.s) ∧ x.cell? ⟨w.heap.size + 1, 1, none⟩ = some (.int .i64 pt.H.toInt) ∧ x.cell? ⟨w.heap.size + 1, 2, none⟩ = some (.int .i64 pt.L.toInt) ∧ x.cell? ⟨w.heap.size + 1, 3, none⟩ = some (.int .i64 pt.b) ∧ x.cell? ⟨p, o + j * 5, none⟩ = some (.bool pq.p.s) ∧ x.cell? ⟨p, o + j * 5 + 1, none⟩ = some (.int .i64 pq.p.H.toInt) ∧ x.cell? ⟨p, o + j * 5 + 2, none⟩ = some (.int .i64 pq.p.L.toInt) ∧ x.cell? ⟨p, o + j * 5 + 3, none⟩ = some (.int .i64 pq.p.b) ∧ Below w3.heap.size w3 x)) (by kernel_rfl) ?_ (fun hHeld => ?_)
  · try dsimp only
    exact HSx.out _ ((Below.refl _ _).drew)
  refine tk 0 9 rfl ?_
  simp only [pa]
  refine tk 1 10 rfl ?_
  simp only [pa]
  refine tk 2 11 rfl ?_
  simp only [pa]
  refine tk 3 12 rfl ?_
  simp only [pa]
  refine tk 4 13 rfl ?_
  simp only [pa]
  refine tk 5 14 rfl ?_
  simp only [pa]
  refine tk 6 15 rfl ?_
  simp only [pa]
  refine tk 7 16 rfl ?_
  simp only [pa]
  refine tk 8 17 rfl ?_
  simp only [pa]
  refine tk 9 18 rfl ?_
  simp only [pa]
  refine tk 10 19 rfl ?_
  simp only [pa]
  refine tk 11 20 rfl ?_
  simp only [pa]
  have HE := hidP (hHeld.2.2.2.2.2.2.2.2.2)
  refine wpAnyH_done (by kernel_rfl) ?_ _
  clear hHeld
  go_wp2_with fail
  go_ret
  exact ⟨rfl, B3.out.trans (HE.out.mono B3.out.size)⟩

/-- What is a pool's own prefix lies in it alone. -/
theorem win_self {p : Pf} (h : p.pk = true) : winP p p = true := by
  have hz : 0 < 2 ^ p.sz := Nat.pow_pos (by omega)
  exact (win_iff h h).2 ⟨rfl, Int.le_refl _, Nat.le_refl _, by omega⟩
theorem plc_shift (p : Pf) : ∀ (ps : List Pl) (i : Nat), (∀ q ∈ ps, peqB q.p p = false) → ixF (fun q => peqB q.p p) i ps = -1
  | [], _, _ => rfl
  | q :: t, i, h => by
      unfold ixF
      rw [h q List.mem_cons_self, if_neg (by simp)]
      exact plc_shift p t (i + 1) (fun x hx => h x (List.mem_cons_of_mem _ hx))
theorem plc_exact (p : Pf) (hp : p.pk = true) : ∀ (ps : List Pl) (i : Nat), Dsj ps →
    (lpF p i ps = -1 ∧ ixF (fun q => peqB q.p p) i ps = -1) ∨ ∃ j x, lpF p i ps = ((i + j : Nat) : Int) ∧ ps[j]? = some x ∧ ixF (fun q => peqB q.p p) i ps = if peqB x.p p = true then ((i + j : Nat) : Int) else -1
  | [], _, _ => Or.inl ⟨rfl, rfl⟩
  | q :: t, i, hd => by
      have hpw := List.pairwise_cons.1 hd.1
      unfold lpF ixF
      by_cases hw : winP p q.p = true
      · rw [if_pos hw]
        refine Or.inr ⟨0, q, rfl, rfl, ?_⟩
        cases he : peqB q.p p
        · rw [if_neg (by simp), if_neg (by simp)]
          refine plc_shift p t (i + 1) (fun x hx => ?_)
          cases hx2 : peqB x.p p
          · rfl
          · exfalso
            have hxe := peq_iff.1 hx2
            have hxw : winP p x.p = true := by rw [hxe]; exact win_self hp
            exact fol_not hw hxw (hpw.1 x hx)
        · rw [if_pos rfl, if_pos rfl]; rfl
      · have he : peqB q.p p = false := by
          cases he : peqB q.p p
          · rfl
          · exfalso; apply hw; rw [peq_iff.1 he]; exact win_self hp
        rw [if_neg hw, he, if_neg (by simp)]
        rcases plc_exact p hp t (i + 1) ⟨hpw.2, fun x hx => hd.2 x (List.mem_cons_of_mem _ hx)⟩ with ⟨h1, h2⟩ | ⟨j, x, h1, h2, h3⟩
        · exact Or.inl ⟨h1, h2⟩
        · refine Or.inr ⟨j + 1, x, ?_, by simpa using h2, ?_⟩
          · rw [show ((i : Int) + 1) = ((i + 1 : Nat) : Int) by omega, h1]; congr 1; omega
          · rw [show ((i : Int) + 1) = ((i + 1 : Nat) : Int) by omega, h3, show i + 1 + j = i + (j + 1) by omega]
theorem l5Exact_any (pt : Pf) (hpk : pt.pk = true) (ap : Option Addr) (np cp : Nat) (ab : Option Addr) (nb cb : Nat) (ps : List Pl) (hd : Dsj ps) (w : World) (hnp : np = ps.length) (hP : RowG KPl w ap ps) (hlp : np ≤ 9000000000) :
    Calls Tryz.prog 44 #[.agg #[.slice ap np cp, .slice ab nb cb], .agg #[.bool pt.s, .int .i64 pt.H.toInt, .int .i64 pt.L.toInt, .int .i64 pt.b]] w fun e w' => e = .returned (.int .i64 (plc pt ps)) ∧ Below w.heap.size w w' := by
  unfold plc
  rcases plc_exact pt hpk ps 0 hd with ⟨h1, h2⟩ | ⟨j, x, h1, h2, h3⟩
  · have h2' : ixF (fun q => peqB q.p pt) 0 ps = -1 := h2
    rw [h2']
    exact exact_a pt ap np cp ab nb cb ps w hnp hP hlp h1
  · rw [Nat.zero_add] at h1 h3
    have h3' : ixF (fun q => peqB q.p pt) 0 ps = if peqB x.p pt = true then (j : Int) else -1 := h3
    rw [h3']
    cases he : peqB x.p pt
    · rw [if_neg (by simp)]
      exact exact_c pt ap np cp ab nb cb ps w hnp hP hlp j x h1 h2 he
    · rw [if_pos rfl]
      exact exact_b pt ap np cp ab nb cb ps w hnp hP hlp j x h1 h2 he

end Go.Proofs.YtdbcdichmmcnbaaGreat
