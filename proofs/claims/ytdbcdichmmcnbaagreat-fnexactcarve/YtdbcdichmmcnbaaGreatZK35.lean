/-
  The program's PlanOk.
-/
import Derived.Test.YtdbcdichmmcnbaaGreatZK34
import Derived.Test.YtdbcdichmmcnbaaGreatZK10
import Derived.Test.YtdbcdichmmcnbaaGreatZK1
import Derived.Test.YtdbcdichmmcnbaaGreatZK2
import Derived.Test.YtdbcdichmmcnbaaGreatZK11
namespace Go.Proofs.YtdbcdichmmcnbaaGreat
open Go.RowKit

set_option maxRecDepth 10000 in
set_option maxHeartbeats 1000000 in
theorem iPlanOk_any (ap : Option Addr) (np cp : Nat) (ab : Option Addr) (nb cb : Nat) (ps : List Pl) (bs : List Bk) (w : World) (hnp : np = ps.length) (hnb : nb = bs.length) (hP : RowG KPl w ap ps) (hK : RowG KBk w ab bs) (hlp : np ≤ 9000000000) (hl : nb ≤ 9000000000) (hst : ∀ q ∈ bs, q.t.size ≤ 9223372036854775807) :
    Calls Tryz.prog 13 #[.agg #[.slice ap np cp, .slice ab nb cb]] w fun e w' => e = .returned (.bool (planB ps bs)) ∧ Below w.heap.size w w' := by
  have HPO := hidP (fun W h => poolsOk_any ap np cp ps W hnp (hP.later h) hlp)
  have HBO := hidP (fun W h => blocksOk_any ap np cp ab nb cb ps bs W hnp hnb (hP.later h) (hK.later h) hlp hl hst)
  have hv : planB ps bs = ((decide (np ≤ 20) && decide (nb ≤ 60)) && (poolsF none ps && blocksI ps none bs)) := by rw [hnp, hnb]; rfl
  rw [hv]
  generalize poolsF none ps = r1 at *
  generalize blocksI ps none bs = r2 at *
  clear hP hK hnp hnb hst hv
  cases h1 : decide (np ≤ 20)
  · have g1 : decide ((np : Int) ≤ 20) = false := by rw [← h1]; exact decide_eq_decide.mpr (by omega)
    go_enter Tryz.func13, Tryz.ntmps13
    go_wp2_with fail
    go_ret
    exact ⟨rfl, (Below.refl _ _).alloc (Nat.le_refl _) _⟩
  · have g1 : decide ((np : Int) ≤ 20) = true := by rw [← h1]; exact decide_eq_decide.mpr (by omega)
    cases h2 : decide (nb ≤ 60)
    · have g2 : decide ((nb : Int) ≤ 60) = false := by rw [← h2]; exact decide_eq_decide.mpr (by omega)
      go_enter Tryz.func13, Tryz.ntmps13
      go_wp2_with fail
      go_ret
      exact ⟨rfl, (Below.refl _ _).alloc (Nat.le_refl _) _⟩
    · have g2 : decide ((nb : Int) ≤ 60) = true := by rw [← h2]; exact decide_eq_decide.mpr (by omega)
      cases r1
      · go_enter Tryz.func13, Tryz.ntmps13
        go_wp2_with fail
        obtain ⟨u0, u1⟩ := box2 (u := .slice ap np cp) (v := .slice ab nb cb) w 27
        have uB := alloc_below w (.cells #[.slice ap np cp, .slice ab nb cb] 27)
        have uL := alloc_lt w (.cells #[.slice ap np cp, .slice ab nb cb] 27)
        have uS : (w.alloc (.cells #[.slice ap np cp, .slice ab nb cb] 27)).heap.size = w.heap.size + 1 := by simp
        generalize w.alloc (.cells #[.slice ap np cp, .slice ab nb cb] 27) = W1 at *
        have HUB := hidP uB
        refine (HPO.out W1 uB).mono ?_
        rintro e w1 ⟨rfl, hb1⟩
        have HB1 := hidP hb1
        have z0 := (hb1.cell uL).trans u0
        have z1 := (hb1.cell uL).trans u1
        clear uB hb1
        go_wp2_with fail
        go_ret
        exact ⟨rfl, HUB.out.trans (HB1.out.mono HUB.out.size)⟩
      · go_enter Tryz.func13, Tryz.ntmps13
        go_wp2_with fail
        obtain ⟨u0, u1⟩ := box2 (u := .slice ap np cp) (v := .slice ab nb cb) w 27
        have uB := alloc_below w (.cells #[.slice ap np cp, .slice ab nb cb] 27)
        have uL := alloc_lt w (.cells #[.slice ap np cp, .slice ab nb cb] 27)
        have uS : (w.alloc (.cells #[.slice ap np cp, .slice ab nb cb] 27)).heap.size = w.heap.size + 1 := by simp
        generalize w.alloc (.cells #[.slice ap np cp, .slice ab nb cb] 27) = W1 at *
        have HUB := hidP uB
        refine (HPO.out W1 uB).mono ?_
        rintro e w1 ⟨rfl, hb1⟩
        have HB1 := hidP (HUB.out.trans (hb1.mono HUB.out.size))
        have z0 := (hb1.cell uL).trans u0
        have z1 := (hb1.cell uL).trans u1
        clear uB hb1
        go_wp2_with fail
        refine (HBO.out w1 HB1.out).mono ?_
        rintro e w2 ⟨rfl, hb2⟩
        have HB2 := hidP hb2
        clear hb2
        go_wp2_with fail
        go_ret
        exact ⟨by cases r2 <;> rfl, HB1.out.trans (HB2.out.mono HB1.out.size)⟩

end Go.Proofs.YtdbcdichmmcnbaaGreat

/-
  The specification's l5Pool: the place of the first pool that has a prefix.
-/
namespace Go.Proofs.YtdbcdichmmcnbaaGreat
open Go.RowKit

theorem lpF_at (p : Pf) (ps : List Pl) (k : Nat) (q : Pl) (h : ps[k]? = some q) : lpF p k (ps.drop k) = if winP p q.p = true then (k : Int) else lpF p ((k + 1 : Nat) : Int) (ps.drop (k + 1)) := by
  rw [drop_at h]; rfl

set_option maxRecDepth 10000 in
set_option maxHeartbeats 1000000 in
theorem l5Pool_any (pt : Pf) (ap : Option Addr) (np cp : Nat) (ab : Option Addr) (nb cb : Nat) (ps : List Pl) (w : World) (hnp : np = ps.length) (hP : RowG KPl w ap ps) (hlp : np ≤ 9000000000) :
    Calls Tryz.prog 90 #[.agg #[.slice ap np cp, .slice ab nb cb], .agg #[.bool pt.s, .int .i64 pt.H.toInt, .int .i64 pt.L.toInt, .int .i64 pt.b]] w fun e w' => e = .returned (.int .i64 (lpF pt 0 ps)) ∧ Below w.heap.size w w' := by
  have HBP := hidP hP
  have HN := hidP hnp
  clear hP hnp
  go_enter Tryz.func90, Tryz.ntmps90
  go_wp2_with fail
  obtain ⟨u0, u1⟩ := box2 (u := .slice ap np cp) (v := .slice ab nb cb) w 27
  have uB := alloc_below w (.cells #[.slice ap np cp, .slice ab nb cb] 27)
  have uL := alloc_lt w (.cells #[.slice ap np cp, .slice ab nb cb] 27)
  have uS : (w.alloc (.cells #[.slice ap np cp, .slice ab nb cb] 27)).heap.size = w.heap.size + 1 := by simp
  generalize w.alloc (.cells #[.slice ap np cp, .slice ab nb cb] 27) = W1 at *
  obtain ⟨y0, y1, y2, y3⟩ := box4 (p := pt) W1 31
  have yB := alloc_below W1 (.cells #[.bool pt.s, .int .i64 pt.H.toInt, .int .i64 pt.L.toInt, .int .i64 pt.b] 31)
  have yL := alloc_lt W1 (.cells #[.bool pt.s, .int .i64 pt.H.toInt, .int .i64 pt.L.toInt, .int .i64 pt.b] 31)
  have yS : (W1.alloc (.cells #[.bool pt.s, .int .i64 pt.H.toInt, .int .i64 pt.L.toInt, .int .i64 pt.b] 31)).heap.size = W1.heap.size + 1 := by simp
  generalize W1.alloc (.cells #[.bool pt.s, .int .i64 pt.H.toInt, .int .i64 pt.L.toInt, .int .i64 pt.b] 31) = W2 at *
  rw [uS] at y0 y1 y2 y3 yL yS
  have s0 := (yB.cell uL).trans u0
  have sL : w.heap.size < W2.heap.size := by omega
  have HUB := hidP (uB.trans (yB.mono uB.size))
  have HP2 := hidP (HBP.out.later HUB.out)
  clear uB yB uS yS u0 u1 HBP uL
  go_loopw [5] (fun t5 wr => ∃ k : Nat, k ≤ np ∧ t5 = .int .i64 k ∧ lpF pt 0 ps = lpF pt k (ps.drop k) ∧ Below W2.heap.size W2 wr) (fun t5 _ => np - (intOf t5).toNat)
  case atStart => exact ⟨0, Nat.zero_le _, rfl, rfl, Below.refl _ _⟩
  case round =>
    obtain ⟨k, hk, rfl, hix, hbel⟩ := hrel
    by_cases hlt : k < np
    · obtain ⟨p, o, q, rfl, hp, hq, c0, c1, c2, c3, c4⟩ := rowPl HP2.out k (by rw [← HN.out]; exact hlt)
      have d0 := (hbel.cell hp).trans c0
      have d1 := (hbel.cell hp).trans c1
      have d2 := (hbel.cell hp).trans c2
      have d3 := (hbel.cell hp).trans c3
      have dL : p < wr.heap.size := Nat.lt_of_lt_of_le hp hbel.size
      have v0 := (hbel.cell sL).trans s0
      have vL : w.heap.size < wr.heap.size := Nat.lt_of_lt_of_le sL hbel.size
      have r0 := (hbel.cell yL).trans y0
      have r1 := (hbel.cell yL).trans y1
      have r2 := (hbel.cell yL).trans y2
      have r3 := (hbel.cell yL).trans y3
      have rL : w.heap.size + 1 < wr.heap.size := Nat.lt_of_lt_of_le yL hbel.size
      have hst := lpF_at pt ps k q hq
      rw [hst] at hix
      have HX := hidP hix
      have HBel := hidP hbel
      have HWi := hidP (sWithin_any pt.s pt.H pt.L pt.b q.p.s q.p.H q.p.L q.p.b)
      change Hid (∀ w, Calls Tryz.prog 97 _ w fun e w' => e = .returned (.bool (winP pt q.p)) ∧ Below w.heap.size w w') at HWi
      clear c0 c1 c2 c3 c4 hq hix hst hbel
      cases hw : winP pt q.p
      · rw [hw] at HX HWi
        go_wp2_with fail
        have HSx : Hid (∀ x, Below wr.heap.size wr x → (x.cell? ⟨p, o + k * 5, none⟩ = some (.bool q.p.s) ∧ x.cell? ⟨p, o + k * 5 + 1, none⟩ = some (.int .i64 q.p.H.toInt) ∧ x.cell? ⟨p, o + k * 5 + 2, none⟩ = some (.int .i64 q.p.L.toInt) ∧ x.cell? ⟨p, o + k * 5 + 3, none⟩ = some (.int .i64 q.p.b) ∧ x.cell? ⟨w.heap.size, 0, none⟩ = some (.slice (some ⟨p, o, none⟩) np cp) ∧ x.cell? ⟨w.heap.size + 1, 0, none⟩ = some (.bool pt.s) ∧ x.cell? ⟨w.heap.size + 1, 1, none⟩ = some (.int .i64 pt.H.toInt) ∧ x.cell? ⟨w.heap.size + 1, 2, none⟩ = some (.int .i64 pt.L.toInt) ∧ x.cell? ⟨w.heap.size + 1, 3, none⟩ = some (.int .i64 pt.b) ∧ Below wr.heap.size wr x)) := hidP fun x h =>
          ⟨(h.cell dL).trans d0, (h.cell dL).trans d1, (h.cell dL).trans d2, (h.cell dL).trans d3, (h.cell vL).trans v0, (h.cell rL).trans r0, (h.cell rL).trans r1, (h.cell rL).trans r2, (h.cell rL).trans r3, h⟩
        refine wp_region_held_drew (S := (fun x => x.cell? ⟨p, o + k * 5, none⟩ = some (.bool q.p.s) ∧ x.cell? ⟨p, o + k * 5 + 1, none⟩ = some (.int .i64 q.p.H.toInt) ∧ x.cell? ⟨p, o + k * 5 + 2, none⟩ = some (.int .i64 q.p.L.toInt) ∧ x.cell? ⟨p, o + k * 5 + 3, none⟩ = some (.int .i64 q.p.b) ∧ x.cell? ⟨w.heap.size, 0, none⟩ = some (.slice (some ⟨p, o, none⟩) np cp) ∧ x.cell? ⟨w.heap.size + 1, 0, none⟩ = some (.bool pt.s) ∧ x.cell? ⟨w.heap.size + 1, 1, none⟩ = some (.int .i64 pt.H.toInt) ∧ x.cell? ⟨w.heap.size + 1, 2, none⟩ = some (.int .i64 pt.L.toInt) ∧ x.cell? ⟨w.heap.size + 1, 3, none⟩ = some (.int .i64 pt.b) ∧ Below wr.heap.size wr x)) (by kernel_rfl) ?_ (fun hHeld => ?_)
        · try dsimp only
          exact HSx.out _ (Below.refl _ _).drew
        refine tk 0 13 rfl ?_
        simp only [pa]
        refine tk 1 14 rfl ?_
        simp only [pa]
        refine tk 2 15 rfl ?_
        simp only [pa]
        refine tk 3 16 rfl ?_
        simp only [pa]
        refine tk 4 17 rfl ?_
        simp only [pa]
        refine tk 5 18 rfl ?_
        simp only [pa]
        refine tk 6 19 rfl ?_
        simp only [pa]
        refine wpAnyH_ready (rs := [7]) (by kernel_rfl) (by simp) ?_
        refine AllReadyH.cons rfl (fun K hK => ?_) AllReadyH.nil
        go_simp
        go_wp2_with (first | (go_at_call 97; refine (HWi.out _).mono ?_; rintro e w2 ⟨rfl, hb2⟩; have b2 := (hHeld.2.2.2.2.2.2.2.2.2).trans (hb2.mono (hHeld.2.2.2.2.2.2.2.2.2).size)))
        refine hK.out _ _ ?_ (fun hHeld => ?_)
        · try dsimp only
          exact HSx.out _ b2
        clear hK K
        have HE := hidP (hHeld.2.2.2.2.2.2.2.2.2)
        refine wpAnyH_done (by kernel_rfl) ?_ _
        clear hHeld
        go_wp2_with fail
        go_roundw
        case rel => exact ⟨k + 1, by omega, by go_num, by rw [HX.out]; simp, HBel.out.trans (HE.out.mono HBel.out.size)⟩
        case measure => simp [intOf]; omega
      · rw [hw] at HX HWi
        go_wp2_with fail
        have HSx : Hid (∀ x, Below wr.heap.size wr x → (x.cell? ⟨p, o + k * 5, none⟩ = some (.bool q.p.s) ∧ x.cell? ⟨p, o + k * 5 + 1, none⟩ = some (.int .i64 q.p.H.toInt) ∧ x.cell? ⟨p, o + k * 5 + 2, none⟩ = some (.int .i64 q.p.L.toInt) ∧ x.cell? ⟨p, o + k * 5 + 3, none⟩ = some (.int .i64 q.p.b) ∧ x.cell? ⟨w.heap.size, 0, none⟩ = some (.slice (some ⟨p, o, none⟩) np cp) ∧ x.cell? ⟨w.heap.size + 1, 0, none⟩ = some (.bool pt.s) ∧ x.cell? ⟨w.heap.size + 1, 1, none⟩ = some (.int .i64 pt.H.toInt) ∧ x.cell? ⟨w.heap.size + 1, 2, none⟩ = some (.int .i64 pt.L.toInt) ∧ x.cell? ⟨w.heap.size + 1, 3, none⟩ = some (.int .i64 pt.b) ∧ Below wr.heap.size wr x)) := hidP fun x h =>
          ⟨(h.cell dL).trans d0, (h.cell dL).trans d1, (h.cell dL).trans d2, (h.cell dL).trans d3, (h.cell vL).trans v0, (h.cell rL).trans r0, (h.cell rL).trans r1, (h.cell rL).trans r2, (h.cell rL).trans r3, h⟩
        refine wp_region_held_drew (S := (fun x => x.cell? ⟨p, o + k * 5, none⟩ = some (.bool q.p.s) ∧ x.cell? ⟨p, o + k * 5 + 1, none⟩ = some (.int .i64 q.p.H.toInt) ∧ x.cell? ⟨p, o + k * 5 + 2, none⟩ = some (.int .i64 q.p.L.toInt) ∧ x.cell? ⟨p, o + k * 5 + 3, none⟩ = some (.int .i64 q.p.b) ∧ x.cell? ⟨w.heap.size, 0, none⟩ = some (.slice (some ⟨p, o, none⟩) np cp) ∧ x.cell? ⟨w.heap.size + 1, 0, none⟩ = some (.bool pt.s) ∧ x.cell? ⟨w.heap.size + 1, 1, none⟩ = some (.int .i64 pt.H.toInt) ∧ x.cell? ⟨w.heap.size + 1, 2, none⟩ = some (.int .i64 pt.L.toInt) ∧ x.cell? ⟨w.heap.size + 1, 3, none⟩ = some (.int .i64 pt.b) ∧ Below wr.heap.size wr x)) (by kernel_rfl) ?_ (fun hHeld => ?_)
        · try dsimp only
          exact HSx.out _ (Below.refl _ _).drew
        refine tk 0 13 rfl ?_
        simp only [pa]
        refine tk 1 14 rfl ?_
        simp only [pa]
        refine tk 2 15 rfl ?_
        simp only [pa]
        refine tk 3 16 rfl ?_
        simp only [pa]
        refine tk 4 17 rfl ?_
        simp only [pa]
        refine tk 5 18 rfl ?_
        simp only [pa]
        refine tk 6 19 rfl ?_
        simp only [pa]
        refine wpAnyH_ready (rs := [7]) (by kernel_rfl) (by simp) ?_
        refine AllReadyH.cons rfl (fun K hK => ?_) AllReadyH.nil
        go_simp
        go_wp2_with (first | (go_at_call 97; refine (HWi.out _).mono ?_; rintro e w2 ⟨rfl, hb2⟩; have b2 := (hHeld.2.2.2.2.2.2.2.2.2).trans (hb2.mono (hHeld.2.2.2.2.2.2.2.2.2).size)))
        refine hK.out _ _ ?_ (fun hHeld => ?_)
        · try dsimp only
          exact HSx.out _ b2
        clear hK K
        have HE := hidP (hHeld.2.2.2.2.2.2.2.2.2)
        refine wpAnyH_done (by kernel_rfl) ?_ _
        clear hHeld
        go_wp2_with fail
        go_ret
        exact ⟨ret_i (by rw [HX.out]; simp), HUB.out.trans ((HBel.out.trans (HE.out.mono HBel.out.size)).mono HUB.out.size)⟩
    · have HX : Hid (lpF pt 0 ps = -1) := by
        rw [List.drop_of_length_le (by have := HN.out; omega)] at hix
        exact hidP hix
      have v0 := (hbel.cell sL).trans s0
      have HBel := hidP hbel
      clear hbel hix
      go_wp2_with fail
      go_ret
      exact ⟨ret_i HX.out.symm, HUB.out.trans (HBel.out.mono HUB.out.size)⟩

end Go.Proofs.YtdbcdichmmcnbaaGreat

/-
  Prefixes compared.
-/
namespace Go.Proofs.YtdbcdichmmcnbaaGreat
open Go.RowKit

def peqB (p q : Pf) : Bool := (p.s == q.s && (p.H.toInt == q.H.toInt && p.L.toInt == q.L.toInt)) && p.b == q.b
theorem eqSt9 (a : Bool) (b c : Int) (d : Bool) (e f : Int) (w : World) : (Op.equalIn 9999 29 (.agg #[.bool a, .int .i64 b, .int .i64 c]) (.agg #[.bool d, .int .i64 e, .int .i64 f])).run Tryz.prog w = .ok (a == d && (b == e && c == f)) w := by
  have u3 := Tryz.underlying3
  have a3 := Tryz.isAgg3
  have z3 := Tryz.sizeOf3
  have u4 := Tryz.underlying4
  have a4 := Tryz.isAgg4
  have z4 := Tryz.sizeOf4
  have hS : Tryz.prog.underlying 29 = some (.struct (Tryz.prog.fieldsOf 29)) := by kernel_rfl
  have hp : Tryz.prog.stoodInHeld 29 = false := by kernel_rfl
  rw [show (9999 : Nat) = 9998 + 1 from rfl, run_equalIn_agg w 9998 29 _ _ hS hp]
  simp only [Program.fieldsOf, Tryz.underlying29]
  go_simp
  by_cases h1 : a = d <;> by_cases h2 : b = e <;> by_cases h3 : c = f <;> simp [h1, h2, h3]
set_option maxHeartbeats 400000 in
theorem eqPfx (p q : Pf) (w : World) : (binOp .eql 31 (.agg #[.bool p.s, .int .i64 p.H.toInt, .int .i64 p.L.toInt, .int .i64 p.b]) (.agg #[.bool q.s, .int .i64 q.H.toInt, .int .i64 q.L.toInt, .int .i64 q.b])).run Tryz.prog w = .ok (.bool (peqB p q)) w := by
  have u3 := Tryz.underlying3
  have a3 := Tryz.isAgg3
  have z3 := Tryz.sizeOf3
  have u4 := Tryz.underlying29
  have a4 := Tryz.isAgg29
  have z4 := Tryz.sizeOf29
  have hS : Tryz.prog.underlying 31 = some (.struct (Tryz.prog.fieldsOf 31)) := by kernel_rfl
  have hp : Tryz.prog.stoodInHeld 31 = false := by kernel_rfl
  have hE : (Op.equalIn 10000 31 (.agg #[.bool p.s, .int .i64 p.H.toInt, .int .i64 p.L.toInt, .int .i64 p.b]) (.agg #[.bool q.s, .int .i64 q.H.toInt, .int .i64 q.L.toInt, .int .i64 q.b])).run Tryz.prog w = .ok (peqB p q) w := by
    have h9 := eqSt9 p.s p.H.toInt p.L.toInt q.s q.H.toInt q.L.toInt
    rw [show (10000 : Nat) = 9999 + 1 from rfl, run_equalIn_agg w 9999 31 _ _ hS hp]
    simp only [Program.fieldsOf, Tryz.underlying31]
    go_simp
    unfold peqB
    by_cases h1 : p.s = q.s <;> by_cases h2 : p.H.toInt = q.H.toInt <;> by_cases h3 : p.L.toInt = q.L.toInt <;> by_cases h4 : p.b = q.b <;> simp [h1, h2, h3, h4]
  simp only [binOp]
  simp [Op.equal, Op.maxDepth, hE]
theorem peq_iff {p q : Pf} : peqB p q = true ↔ p = q := by
  unfold peqB
  rw [Bool.and_eq_true, Bool.and_eq_true, Bool.and_eq_true, beq_iff_eq, beq_iff_eq, beq_iff_eq, beq_iff_eq]
  constructor
  · rintro ⟨⟨a, b, c⟩, d⟩
    obtain ⟨s, H, L, n⟩ := p
    obtain ⟨s', H', L', n'⟩ := q
    have e1 := BitVec.eq_of_toInt_eq b
    have e2 := BitVec.eq_of_toInt_eq c
    simp only at a d e1 e2
    subst a d e1 e2
    rfl
  · rintro rfl; exact ⟨⟨rfl, rfl, rfl⟩, rfl⟩

end Go.Proofs.YtdbcdichmmcnbaaGreat
