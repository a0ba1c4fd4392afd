/-
  For every plan and every pool the two AddPool answer alike, in rows of their own, and leave the plan as it was, so the exact law of AddPool returns true; no condition.
-/
import Derived.Test.YthbpehpnikknlaaMAddA
import Derived.Test.YthbpehpnikknlaaMDropA
import Derived.ProofKit
import Derived.Lib.SmallJoins
import Derived.Carry
import Derived.Deep.Slices
import Derived.ChangeMaps5
import Derived.Deep.DeepCutAuto
import Derived.Test.YthbpehpnikknlaaBSOver
import Derived.Test.YthbpehpnikknlaaKMath
namespace Go.Proofs.Ythbpehpnikknlaa
open Go.ChangeShapes Go.WideShapes Go.ChangeAt Go.RowKit Go.Joins Go.Deep

theorem slice_of {H : Type} {enc : TypeId × Value → H} {W : World} {t e : TypeId} {n : Nat} {u : Value} {y : DataW H × List MemPlace} (ht : Try.prog.underlying t = some (.slice e)) (h : DataW.trod enc Try.prog W 0 (fun _ => true) true n t [u] = some y) : ∃ a l c, u = .slice a l c := by
  rcases open_slice ht h with ⟨hcs, _⟩ | ⟨a', len', cap', m, n', D, Plc, hcs, _⟩
  · simp at hcs; exact ⟨_, _, _, hcs⟩
  · simp at hcs; exact ⟨_, _, _, hcs⟩
theorem Try.cellsPn : Try.prog.cellsOf 26 = 2 := by kernel_rfl
set_option maxRecDepth 100000 in
/-- A plan that came in. -/
theorem openPlan {H : Type} {enc : TypeId × Value → H} {W : World} {r : Reach} {b0 : Nat} {v : Value} {d : DataW H} {p : List MemPlace} (hv : Value.okWide Try.prog W r b0 26 v)
    (h : DataW.Trod enc Try.prog W 0 (fun _ => true) true 26 v d p) : ∃ (ap : Option Addr) (np cp : Nat) (ab : Option Addr) (nb cb : Nat) (ps : List Pl) (bs : List Bk), v = .agg #[.slice ap np cp, .slice ab nb cb] ∧ np = ps.length ∧ nb = bs.length ∧ RowG KPl W ap ps ∧ RowG KBk W ab bs ∧ np ≤ 9223372036854775807 ∧ nb ≤ 9223372036854775807 ∧ ∀ q ∈ bs, q.t.size ≤ 9223372036854775807 := by
  obtain ⟨v0, v1, y0, y1, n, rfl, rfl, rfl, t0, t1⟩ := open_agg2 Try.underlying26 (by kernel_rfl) Try.cellsPn hv h
  obtain ⟨ap, np, cp, rfl⟩ := slice_of Try.underlying23 t0
  obtain ⟨ab, nb, cb, rfl⟩ := slice_of Try.underlying24 t1
  obtain ⟨ps, e1, l1, r1⟩ := openPl (enc := enc) (W := W) (a := ap) (len := np) (cap := cp) (d := y0.1) (p := y0.2) ⟨n, by simpa [Value.cells] using t0⟩
  obtain ⟨bs, e2, l2, r2, s2⟩ := openBk2 (enc := enc) (W := W) (a := ab) (len := nb) (cap := cb) (d := y1.1) (p := y1.2) ⟨n, by simpa [Value.cells] using t1⟩
  exact ⟨ap, np, cp, ab, nb, cb, ps, bs, rfl, e1.symm, e2.symm, r1, r2, l1, l2, s2⟩

theorem trodAll_nil {H : Type} {enc : TypeId × Value → H} {P : Program} {W : World} {base : Nat} {sp : Nat → Bool} {held : Bool} {ts : List TypeId} {vs : List Value} {ds : List (DataW H)} {p : List MemPlace} (h : DataW.TrodAll enc P W base sp held ts vs ds (p ++ [])) : DataW.TrodAll enc P W base sp held ts vs ds p := by
  rw [List.append_nil] at h; exact h
theorem drew_cell (w : World) (a : Addr) : w.drew.cell? a = w.cell? a := rfl
theorem drew_frozen (w : World) (a : Addr) : w.drew.frozen? a = w.frozen? a := rfl
theorem drew_size_lt {w : World} {n : Nat} (h : n < w.heap.size) : n < w.drew.heap.size := h
theorem OwnG.put2 {α : Type} {K : Kd α} {t : TypeId} {w : World} {B x : Nat} {v u u' : Value} {ps : List α} (h : OwnG K t w B v ps) (hx : ∀ k, v.ownBlock = some k → k ≠ x) : OwnG K t ((w.setCell ⟨x, 0, none⟩ u).setCell ⟨x, 1, none⟩ u') B v ps :=
  OwnG.grown (OwnG.grown h (grown_cellG w x 0 u) (fun k hk e => hx k hk (by simpa using e.symm))) (grown_cellG _ x 1 u') (fun k hk e => hx k hk (by simpa using e.symm))
theorem frzZ2 (w : World) (t : TypeId) (o : Nat) : (w.alloc (.cells #[.slice none 0 0, .slice none 0 0] t)).frozen? ⟨w.heap.size, o, none⟩ = false := frz2 w t _ _ o

set_option maxRecDepth 10000 in
set_option maxHeartbeats 8000000 in
theorem lawAddPool (pq : Pl) (ap : Option Addr) (np cp : Nat) (ab : Option Addr) (nb cb : Nat) (ps : List Pl) (bs : List Bk) (w : World) (hnp : np = ps.length) (hnb : nb = bs.length) (hP : RowG KPl w ap ps) (hK : RowG KBk w ab bs) (h9 : np ≤ 9223372036854775807) (h9' : nb ≤ 9223372036854775807) (hst : ∀ q ∈ bs, q.t.size ≤ 9223372036854775807)
    (HB : np ≤ 1048576 → nb ≤ 1048576 → ∃ (PS : List Pl) (NP : Nat) (BS : List Bk) (NB : Nat) (C : Int), NP = PS.length ∧ NB = BS.length ∧ NP ≤ 1048577 ∧ NB ≤ 1048577 ∧ (∀ (g h : Nat) (W : World), RowG KPl W (some ⟨g, 0, none⟩) ps → RowG KBk W (some ⟨h, 0, none⟩) bs → Calls Try.prog 16 #[.agg #[.slice (some ⟨g, 0, none⟩) np np, .slice (some ⟨h, 0, none⟩) nb nb], .agg #[.bool pq.p.s, .int .i64 pq.p.H.toInt, .int .i64 pq.p.L.toInt, .int .i64 pq.p.b, .int .i64 pq.n]] W fun e w' => ∃ a c b d, e = .returned (.tuple #[.agg #[.slice a NP c, .slice b NB d], .int .i64 C]) ∧ OwnG KPl 48 w' W.heap.size (.slice a NP c) PS ∧ OwnG KBk 56 w' W.heap.size (.slice b NB d) BS ∧ (∀ k, (Value.slice a NP c).ownBlock = some k → (Value.slice b NB d).ownBlock ≠ some k) ∧ Below W.heap.size W w') ∧ (∀ (g h : Nat) (W : World), RowG KPl W (some ⟨g, 0, none⟩) ps → RowG KBk W (some ⟨h, 0, none⟩) bs → Calls Try.prog 18 #[.agg #[.slice (some ⟨g, 0, none⟩) np np, .slice (some ⟨h, 0, none⟩) nb nb], .agg #[.bool pq.p.s, .int .i64 pq.p.H.toInt, .int .i64 pq.p.L.toInt, .int .i64 pq.p.b, .int .i64 pq.n]] W fun e w' => ∃ a c b d, e = .returned (.tuple #[.agg #[.slice a NP c, .slice b NB d], .int .i64 C]) ∧ OwnG KPl 48 w' W.heap.size (.slice a NP c) PS ∧ OwnG KBk 56 w' W.heap.size (.slice b NB d) BS ∧ (∀ k, (Value.slice a NP c).ownBlock = some k → (Value.slice b NB d).ownBlock ≠ some k) ∧ Below W.heap.size W w')) :
    Calls Try.prog 5 #[.agg #[.slice ap np cp, .slice ab nb cb], .agg #[.bool pq.p.s, .int .i64 pq.p.H.toInt, .int .i64 pq.p.L.toInt, .int .i64 pq.p.b, .int .i64 pq.n]] w fun e w' => e = .returned (.bool true) ∧ Below w.heap.size w w' := by
  have HSz := hidP (fun W h => szPlan_any ap np cp ab nb cb ps bs W hnp hnb (hK.later h) h9 h9' hst)
  by_cases ht : totP ps bs ≤ 1048576
  · rw [szT_yes ht] at HSz
    have hl : np ≤ 1048576 := by unfold totP at ht; omega
    have hl' : nb ≤ 1048576 := by unfold totP at ht; omega
    have HTo := hidP (fun W h => toPlan_any ap np cp ab nb cb ps bs W hnp hnb (hP.later h) (hK.later h) hl hl')
    have HTp := hidP (toPool_any pq)
    obtain ⟨PS, NP, BS, NB, C, hNP, hNB, hL1, hL2, hSpec, hImpl⟩ := HB hl hl'
    have HSp := hidP hSpec
    have HIm := hidP hImpl
    have HEq := hidP (fun W g h g' h' e1 e2 e3 e4 => eqPlan_same (some ⟨g, 0, none⟩) (some ⟨g', 0, none⟩) np np np (some ⟨h, 0, none⟩) (some ⟨h', 0, none⟩) nb nb nb ps bs W hnp hnb e1 e2 e3 e4 (by omega) (by omega))
    have HEr := hidP (fun W a c b d a' c' b' d' e1 e2 e3 e4 => eqPlan_same a a' NP c c' b b' NB d d' PS BS W hNP hNB e1 e2 e3 e4 (by omega) (by omega))
    have HMk := hidP (fun W g h B o1 o2 ne => markPlan_any (some ⟨g, 0, none⟩) np np (some ⟨h, 0, none⟩) nb nb ps bs B 1 W hnp hnb o1 o2 ne (by omega) (by omega) (by omega) (by omega))
    have HMr := hidP (fun W a c b d B o1 o2 ne => markPlan_any a NP c b NB d PS BS B 1 W hNP hNB o1 o2 ne (by omega) (by omega) (by omega) (by omega))
    have HHd := hidP (fun W a c b d e1 e2 => heldPlan_any a NP c b NB d 1 W e1 e2 (by omega) (by omega) (by omega) (by omega))
    have d1 : decide (1048576 - totP ps bs < 0) = false := decide_eq_false (by omega)
    have d2 : ¬ (1048576 - totP ps bs < 0) := by omega
    generalize 1048576 - totP ps bs = z at *
    have d3 : decide ((1 : Int) + 5 * (np : Int) + 5 * (nb : Int) < 0) = false := decide_eq_false (by omega)
    have d4 : ¬ ((1 : Int) + 5 * (np : Int) + 5 * (nb : Int) < 0) := by omega
    have d5 : decide ((1 : Int) + 5 * (NP : Int) + 5 * (NB : Int) < 0) = false := decide_eq_false (by omega)
    have d6 : ¬ ((1 : Int) + 5 * (NP : Int) + 5 * (NB : Int) < 0) := by omega
    clear hP hK hnp hnb hst ht hNP hNB hSpec hImpl
    go_enter Try.func5, Try.ntmps5
    go_wp2_with fail
    obtain ⟨u0, u1⟩ := box2 (u := .slice ap np cp) (v := .slice ab nb cb) w 26
    have uB := alloc_below w (.cells #[.slice ap np cp, .slice ab nb cb] 26)
    have uL := alloc_lt w (.cells #[.slice ap np cp, .slice ab nb cb] 26)
    have uS : (w.alloc (.cells #[.slice ap np cp, .slice ab nb cb] 26)).heap.size = w.heap.size + 1 := by simp
    generalize w.alloc (.cells #[.slice ap np cp, .slice ab nb cb] 26) = W1 at *
    obtain ⟨y0, y1, y2, y3, y4⟩ := boxPl (q := pq) W1 41
    have yB := alloc_below W1 (.cells #[.bool pq.p.s, .int .i64 pq.p.H.toInt, .int .i64 pq.p.L.toInt, .int .i64 pq.p.b, .int .i64 pq.n] 41)
    have yL := alloc_lt W1 (.cells #[.bool pq.p.s, .int .i64 pq.p.H.toInt, .int .i64 pq.p.L.toInt, .int .i64 pq.p.b, .int .i64 pq.n] 41)
    have yS : (W1.alloc (.cells #[.bool pq.p.s, .int .i64 pq.p.H.toInt, .int .i64 pq.p.L.toInt, .int .i64 pq.p.b, .int .i64 pq.n] 41)).heap.size = W1.heap.size + 1 := by simp
    generalize W1.alloc (.cells #[.bool pq.p.s, .int .i64 pq.p.H.toInt, .int .i64 pq.p.L.toInt, .int .i64 pq.p.b, .int .i64 pq.n] 41) = W2 at *
    rw [uS] at y0 y1 y2 y3 y4 yL yS
    have s0 := (yB.cell uL).trans u0
    have s1 := (yB.cell uL).trans u1
    have sL : w.heap.size < W2.heap.size := by omega
    have accW := hidP (uB.trans (yB.mono uB.size))
    clear uB uS yB yS u0 u1 uL
    refine (HSz.out _ accW.out).mono ?_
    rintro e w2 ⟨rfl, hb2⟩
    have lp0_w2 := (hb2.cell sL).trans s0
    have lp1_w2 := (hb2.cell sL).trans s1
    have lpL_w2 : w.heap.size < w2.heap.size := Nat.lt_of_lt_of_le sL hb2.size
    have lq0_w2 := (hb2.cell yL).trans y0
    have lq1_w2 := (hb2.cell yL).trans y1
    have lq2_w2 := (hb2.cell yL).trans y2
    have lq3_w2 := (hb2.cell yL).trans y3
    have lq4_w2 := (hb2.cell yL).trans y4
    have lqL_w2 : w.heap.size + 1 < w2.heap.size := Nat.lt_of_lt_of_le yL hb2.size
    have acc_w2 := hidP (accW.out.trans (hb2.mono accW.out.size))
    have sz_w2 := hb2.size
    clear s0 s1 sL y0 y1 y2 y3 y4 yL hb2 accW
    go_upto_region 5 with fail
    go_cut [6, 7] (fun t6 t7 X => ∃ (p : Nat) (a : Option Addr) (c : Nat) (b : Option Addr) (d : Nat), t6 = .pointer (some ⟨p, 0, none⟩) ∧ t7 = .int .i64 C ∧ w2.heap.size ≤ p ∧ p < X.heap.size ∧ X.cell? ⟨p, 0, none⟩ = some (.slice a NP c) ∧ X.cell? ⟨p, 1, none⟩ = some (.slice b NB d) ∧ OwnG KPl 48 X w2.heap.size (.slice a NP c) PS ∧ OwnG KBk 56 X w2.heap.size (.slice b NB d) BS ∧ (∀ k, (Value.slice a NP c).ownBlock = some k → (Value.slice b NB d).ownBlock ≠ some k) ∧ (∀ k, (Value.slice a NP c).ownBlock = some k → k ≠ p) ∧ (∀ k, (Value.slice b NB d).ownBlock = some k → k ≠ p) ∧ Below w2.heap.size w2 X)
    case first =>
      have HSx : Hid (∀ x, Below w2.heap.size w2 x → (x.cell? ⟨w.heap.size, 0, none⟩ = some (.slice ap np cp) ∧ x.cell? ⟨w.heap.size, 1, none⟩ = some (.slice ab nb cb) ∧ x.cell? ⟨w.heap.size + 1, 0, none⟩ = some (.bool pq.p.s) ∧ x.cell? ⟨w.heap.size + 1, 1, none⟩ = some (.int .i64 pq.p.H.toInt) ∧ x.cell? ⟨w.heap.size + 1, 2, none⟩ = some (.int .i64 pq.p.L.toInt) ∧ x.cell? ⟨w.heap.size + 1, 3, none⟩ = some (.int .i64 pq.p.b) ∧ x.cell? ⟨w.heap.size + 1, 4, none⟩ = some (.int .i64 pq.n) ∧ Below w2.heap.size w2 x)) := hidP fun x h =>
        ⟨(h.cell lpL_w2).trans lp0_w2, (h.cell lpL_w2).trans lp1_w2, (h.cell lqL_w2).trans lq0_w2, (h.cell lqL_w2).trans lq1_w2, (h.cell lqL_w2).trans lq2_w2, (h.cell lqL_w2).trans lq3_w2, (h.cell lqL_w2).trans lq4_w2, h⟩
      refine wp_region_held_drew (S := (fun x => x.cell? ⟨w.heap.size, 0, none⟩ = some (.slice ap np cp) ∧ x.cell? ⟨w.heap.size, 1, none⟩ = some (.slice ab nb cb) ∧ x.cell? ⟨w.heap.size + 1, 0, none⟩ = some (.bool pq.p.s) ∧ x.cell? ⟨w.heap.size + 1, 1, none⟩ = some (.int .i64 pq.p.H.toInt) ∧ x.cell? ⟨w.heap.size + 1, 2, none⟩ = some (.int .i64 pq.p.L.toInt) ∧ x.cell? ⟨w.heap.size + 1, 3, none⟩ = some (.int .i64 pq.p.b) ∧ x.cell? ⟨w.heap.size + 1, 4, none⟩ = some (.int .i64 pq.n) ∧ Below w2.heap.size w2 x)) (by kernel_rfl) ?_ (fun hHeld => ?_)
      · try dsimp only
        exact HSx.out _ (Below.refl _ _).drew
      refine wpAnyH_take (i := 0) (oi := ⟨some 22, _, _, _, _, _⟩) (v := ?_) rfl (by kernel_rfl) (by kernel_rfl) (by kernel_rfl) (fun _ _ _ h => h) (Or.inl ⟨by rfl, ?_⟩) (by assumption) ?_
      rotate_left
      · intro w hSw
        try dsimp only at hSw
        go_simp
        try with_reducible rfl
      simp only [Act.put, List.setIfInBounds_toArray, List.set_cons_zero, List.set_cons_succ]
      refine wpAnyH_take (i := 2) (oi := ⟨some 24, _, _, _, _, _⟩) (v := ?_) rfl (by kernel_rfl) (by kernel_rfl) (by kernel_rfl) (fun _ _ _ h => h) (Or.inl ⟨by rfl, ?_⟩) (by assumption) ?_
      rotate_left
      · intro w hSw
        try dsimp only at hSw
        go_simp
        try with_reducible rfl
      simp only [Act.put, List.setIfInBounds_toArray, List.set_cons_zero, List.set_cons_succ]
      refine wpAnyH_ready (rs := [1, 8]) (by kernel_rfl) (by simp) ?_
      refine AllReadyH.cons rfl (fun K hK => ?_) (AllReadyH.cons rfl (fun K hK => ?_) AllReadyH.nil)
      · go_simp
        go_wp2_with (first | (go_at_call 13; refine (HTo.out _ (acc_w2.out.trans ((hHeld.2.2.2.2.2.2.2).mono acc_w2.out.size))).mono ?_; rintro e w3 ⟨g3, h3, rfl, og3, oh3, gh3, hb3⟩; have b3 := (hHeld.2.2.2.2.2.2.2).trans (hb3.mono (hHeld.2.2.2.2.2.2.2).size)))
        refine hK.out _ _ ?_ (fun hHeld => ?_)
        · try dsimp only
          exact HSx.out _ b3
        clear hK K
        refine wpAnyH_ready (rs := [3, 8]) (by kernel_rfl) (by simp) ?_
        refine AllReadyH.cons rfl (fun K hK => ?_) (AllReadyH.cons rfl (fun K hK => ?_) AllReadyH.nil)
        · go_simp
          go_wp2_with (first | (go_at_call 17; refine (HTp.out _).mono ?_; rintro e w4 ⟨rfl, hb4⟩; have b4 := (hHeld.2.2.2.2.2.2.2).trans (hb4.mono (hHeld.2.2.2.2.2.2.2).size)))
          refine hK.out _ _ ?_ (fun hHeld => ?_)
          · try dsimp only
            exact HSx.out _ b4
          clear hK K
          refine wpAnyH_ready (rs := [4, 8]) (by kernel_rfl) (by simp) ?_
          refine AllReadyH.cons rfl (fun K hK => ?_) (AllReadyH.cons rfl (fun K hK => ?_) AllReadyH.nil)
          · go_simp
            go_wp2_with (first | (go_at_call 16; refine (HSp.out g3 h3 _ (RowG.later og3.row hb4) (RowG.later oh3.row hb4)).mono ?_; rintro e w5 ⟨ra5, rc5, rb5, rd5, rfl, op5, ob5, ne5, hb5⟩; have b5 := (hHeld.2.2.2.2.2.2.2).trans (hb5.mono (hHeld.2.2.2.2.2.2.2).size)))
            refine hK.out _ _ ?_ (fun hHeld => ?_)
            · try dsimp only
              exact HSx.out _ b5
            clear hK K
            refine wpAnyH_take (i := 5) (oi := ⟨some 21, _, _, _, _, _⟩) (v := ?_) rfl (by kernel_rfl) (by kernel_rfl) (by kernel_rfl) (fun _ _ _ h => h) (Or.inl ⟨by rfl, ?_⟩) (by assumption) ?_
            rotate_left
            · intro w hSw
              try dsimp only at hSw
              go_simp
              try with_reducible rfl
            simp only [Act.put, List.setIfInBounds_toArray, List.set_cons_zero, List.set_cons_succ]
            refine wpAnyH_take (i := 6) (oi := ⟨some 27, _, _, _, _, _⟩) (v := ?_) rfl (by kernel_rfl) (by kernel_rfl) (by kernel_rfl) (fun _ _ _ h => h) (Or.inl ⟨by rfl, ?_⟩) (by assumption) ?_
            rotate_left
            · intro w hSw
              try dsimp only at hSw
              go_simp
              try with_reducible rfl
            simp only [Act.put, List.setIfInBounds_toArray, List.set_cons_zero, List.set_cons_succ]
            refine wpAnyH_take (i := 7) (oi := ⟨some 28, _, _, _, _, _⟩) (v := ?_) rfl (by kernel_rfl) (by kernel_rfl) (by kernel_rfl) (fun _ _ _ h => h) (Or.inl ⟨by rfl, ?_⟩) (by assumption) ?_
            rotate_left
            · intro w hSw
              try dsimp only at hSw
              go_simp
              try with_reducible rfl
            simp only [Act.put, List.setIfInBounds_toArray, List.set_cons_zero, List.set_cons_succ]
            refine wpAnyH_ready (rs := [8]) (by kernel_rfl) (by simp) ?_
            refine AllReadyH.cons rfl (fun K hK => ?_) AllReadyH.nil
            go_simp
            obtain ⟨z6x0, z6x1⟩ := box2 (u := .slice none 0 0) (v := .slice none 0 0) w5 32
            have z6F := frzZ2 w5 32
            have z6B := alloc_below w5 (.cells #[.slice none 0 0, .slice none 0 0] 32)
            have z6L := alloc_lt w5 (.cells #[.slice none 0 0, .slice none 0 0] 32)
            have z6M := (hHeld.2.2.2.2.2.2.2).trans (z6B.mono (hHeld.2.2.2.2.2.2.2).size)
            generalize w5.alloc (.cells #[.slice none 0 0, .slice none 0 0] 32) = w6 at *
            refine hK.out _ _ ?_ (fun hHeld => ?_)
            · try dsimp only
              exact HSx.out _ z6M
            clear hK K
            have bl6 : w2.heap.size ≤ w5.heap.size := b5.size
            refine wpAnyH_ready (rs := [9]) (by kernel_rfl) (by simp) ?_
            refine AllReadyH.cons rfl (fun K hK => ?_) AllReadyH.nil
            go_simp
            refine hK.out _ _ ?_ (fun hHeld => ?_)
            · try dsimp only
              refine HSx.out _ ?_
              repeat (with_reducible refine Below.setCell ?_ ?_ _; rotate_left; (focus (exact (bl6))))
              exact (hHeld.2.2.2.2.2.2.2)
            clear hK K
            refine wpAnyH_take (i := 10) (oi := ⟨some 7, _, _, _, _, _⟩) (v := ?_) rfl (by kernel_rfl) (by kernel_rfl) (by kernel_rfl) (fun _ _ _ h => h) (Or.inl ⟨by rfl, ?_⟩) (by assumption) ?_
            rotate_left
            · intro w hSw
              try dsimp only at hSw
              go_simp
              try with_reducible rfl
            simp only [Act.put, List.setIfInBounds_toArray, List.set_cons_zero, List.set_cons_succ]
            have HE := hidP (hHeld.2.2.2.2.2.2.2)
            refine wpAnyH_done (by kernel_rfl) ?_ _
            clear hHeld
            have lo := fun k hk => OwnG.lt op5 k hk
            have lo' := fun k hk => OwnG.lt ob5 k hk
            have lb : w2.heap.size ≤ w4.heap.size := by first | exact b4.size | exact z4M.size
            have HF := hidP (And.intro (OwnG.mono (OwnG.later op5 z6B) lb) (And.intro (OwnG.mono (OwnG.later ob5 z6B) lb) ne5))
            have HLo := hidP (And.intro lo lo')
            clear lo lo' op5 ob5 ne5
            go_wp2_with fail
            go_meet
            refine ⟨_, ra5, rc5, rb5, rd5, rfl, rfl, bl6, ?_, ?_, ?_, OwnG.put2 HF.out.1 (fun k hk => by have := HLo.out.1 k hk; omega), OwnG.put2 HF.out.2.1 (fun k hk => by have := HLo.out.2 k hk; omega), HF.out.2.2, (fun k hk => by have := HLo.out.1 k hk; omega), (fun k hk => by have := HLo.out.2 k hk; omega), HE.out⟩
            · simp; exact z6L
            all_goals (simp [go_sem, z6x0, z6x1])
          · go_simp
            obtain ⟨z5x0, z5x1⟩ := box2 (u := .slice none 0 0) (v := .slice none 0 0) w4 32
            have z5F := frzZ2 w4 32
            have z5B := alloc_below w4 (.cells #[.slice none 0 0, .slice none 0 0] 32)
            have z5L := alloc_lt w4 (.cells #[.slice none 0 0, .slice none 0 0] 32)
            have z5M := (hHeld.2.2.2.2.2.2.2).trans (z5B.mono (hHeld.2.2.2.2.2.2.2).size)
            generalize w4.alloc (.cells #[.slice none 0 0, .slice none 0 0] 32) = w5 at *
            refine hK.out _ _ ?_ (fun hHeld => ?_)
            · try dsimp only
              exact HSx.out _ z5M
            clear hK K
            have bl5 : w2.heap.size ≤ w4.heap.size := b4.size
            refine wpAnyH_ready (rs := [4]) (by kernel_rfl) (by simp) ?_
            refine AllReadyH.cons rfl (fun K hK => ?_) AllReadyH.nil
            go_simp
            go_wp2_with (first | (go_at_call 16; refine (HSp.out g3 h3 _ (RowG.later (RowG.later og3.row hb4) z5B) (RowG.later (RowG.later oh3.row hb4) z5B)).mono ?_; rintro e w6 ⟨ra6, rc6, rb6, rd6, rfl, op6, ob6, ne6, hb6⟩; have b6 := (hHeld.2.2.2.2.2.2.2).trans (hb6.mono (hHeld.2.2.2.2.2.2.2).size)))
            refine hK.out _ _ ?_ (fun hHeld => ?_)
            · try dsimp only
              exact HSx.out _ b6
            clear hK K
            have z6x0 := (hb6.cell z5L).trans z5x0
            have z6x1 := (hb6.cell z5L).trans z5x1
            have z6F : ∀ o, w6.frozen? ⟨w4.heap.size, o, none⟩ = false := fun o => (hb6.frozen z5L).trans (z5F o)
            have z6L : w4.heap.size < w6.heap.size := Nat.lt_of_lt_of_le z5L hb6.size
            clear z5x0 z5x1 z5F
            refine wpAnyH_take (i := 5) (oi := ⟨some 21, _, _, _, _, _⟩) (v := ?_) rfl (by kernel_rfl) (by kernel_rfl) (by kernel_rfl) (fun _ _ _ h => h) (Or.inl ⟨by rfl, ?_⟩) (by assumption) ?_
            rotate_left
            · intro w hSw
              try dsimp only at hSw
              go_simp
              try with_reducible rfl
            simp only [Act.put, List.setIfInBounds_toArray, List.set_cons_zero, List.set_cons_succ]
            refine wpAnyH_take (i := 6) (oi := ⟨some 27, _, _, _, _, _⟩) (v := ?_) rfl (by kernel_rfl) (by kernel_rfl) (by kernel_rfl) (fun _ _ _ h => h) (Or.inl ⟨by rfl, ?_⟩) (by assumption) ?_
            rotate_left
            · intro w hSw
              try dsimp only at hSw
              go_simp
              try with_reducible rfl
            simp only [Act.put, List.setIfInBounds_toArray, List.set_cons_zero, List.set_cons_succ]
            refine wpAnyH_take (i := 7) (oi := ⟨some 28, _, _, _, _, _⟩) (v := ?_) rfl (by kernel_rfl) (by kernel_rfl) (by kernel_rfl) (fun _ _ _ h => h) (Or.inl ⟨by rfl, ?_⟩) (by assumption) ?_
            rotate_left
            · intro w hSw
              try dsimp only at hSw
              go_simp
              try with_reducible rfl
            simp only [Act.put, List.setIfInBounds_toArray, List.set_cons_zero, List.set_cons_succ]
            refine wpAnyH_ready (rs := [9]) (by kernel_rfl) (by simp) ?_
            refine AllReadyH.cons rfl (fun K hK => ?_) AllReadyH.nil
            go_simp
            refine hK.out _ _ ?_ (fun hHeld => ?_)
            · try dsimp only
              refine HSx.out _ ?_
              repeat (with_reducible refine Below.setCell ?_ ?_ _; rotate_left; (focus (exact (bl5))))
              exact (hHeld.2.2.2.2.2.2.2)
            clear hK K
            refine wpAnyH_take (i := 10) (oi := ⟨some 7, _, _, _, _, _⟩) (v := ?_) rfl (by kernel_rfl) (by kernel_rfl) (by kernel_rfl) (fun _ _ _ h => h) (Or.inl ⟨by rfl, ?_⟩) (by assumption) ?_
            rotate_left
            · intro w hSw
              try dsimp only at hSw
              go_simp
              try with_reducible rfl
            simp only [Act.put, List.setIfInBounds_toArray, List.set_cons_zero, List.set_cons_succ]
            have HE := hidP (hHeld.2.2.2.2.2.2.2)
            refine wpAnyH_done (by kernel_rfl) ?_ _
            clear hHeld
            have lo := fun k hk => OwnG.lt op6 k hk
            have lo' := fun k hk => OwnG.lt ob6 k hk
            have lb : w2.heap.size ≤ w5.heap.size := by first | exact b5.size | exact z5M.size
            have pl : w4.heap.size < w5.heap.size := z5L
            have HF := hidP (And.intro (OwnG.mono op6 lb) (And.intro (OwnG.mono ob6 lb) ne6))
            have HLo := hidP (And.intro lo lo')
            clear lo lo' op6 ob6 ne6
            go_wp2_with fail
            go_meet
            refine ⟨_, ra6, rc6, rb6, rd6, rfl, rfl, bl5, ?_, ?_, ?_, OwnG.put2 HF.out.1 (fun k hk => by have := HLo.out.1 k hk; omega), OwnG.put2 HF.out.2.1 (fun k hk => by have := HLo.out.2 k hk; omega), HF.out.2.2, (fun k hk => by have := HLo.out.1 k hk; omega), (fun k hk => by have := HLo.out.2 k hk; omega), HE.out⟩
            · simp; exact z6L
            all_goals (simp [go_sem, z6x0, z6x1])
        · go_simp
          obtain ⟨z4x0, z4x1⟩ := box2 (u := .slice none 0 0) (v := .slice none 0 0) w3 32
          have z4F := frzZ2 w3 32
          have z4B := alloc_below w3 (.cells #[.slice none 0 0, .slice none 0 0] 32)
          have z4L := alloc_lt w3 (.cells #[.slice none 0 0, .slice none 0 0] 32)
          have z4M := (hHeld.2.2.2.2.2.2.2).trans (z4B.mono (hHeld.2.2.2.2.2.2.2).size)
          generalize w3.alloc (.cells #[.slice none 0 0, .slice none 0 0] 32) = w4 at *
          refine hK.out _ _ ?_ (fun hHeld => ?_)
          · try dsimp only
            exact HSx.out _ z4M
          clear hK K
          have bl4 : w2.heap.size ≤ w3.heap.size := b3.size
          refine wpAnyH_ready (rs := [3]) (by kernel_rfl) (by simp) ?_
          refine AllReadyH.cons rfl (fun K hK => ?_) AllReadyH.nil
          go_simp
          go_wp2_with (first | (go_at_call 17; refine (HTp.out _).mono ?_; rintro e w5 ⟨rfl, hb5⟩; have b5 := (hHeld.2.2.2.2.2.2.2).trans (hb5.mono (hHeld.2.2.2.2.2.2.2).size)))
          refine hK.out _ _ ?_ (fun hHeld => ?_)
          · try dsimp only
            exact HSx.out _ b5
          clear hK K
          have z5x0 := (hb5.cell z4L).trans z4x0
          have z5x1 := (hb5.cell z4L).trans z4x1
          have z5F : ∀ o, w5.frozen? ⟨w3.heap.size, o, none⟩ = false := fun o => (hb5.frozen z4L).trans (z4F o)
          have z5L : w3.heap.size < w5.heap.size := Nat.lt_of_lt_of_le z4L hb5.size
          clear z4x0 z4x1 z4F
          refine wpAnyH_ready (rs := [4]) (by kernel_rfl) (by simp) ?_
          refine AllReadyH.cons rfl (fun K hK => ?_) AllReadyH.nil
          go_simp
          go_wp2_with (first | (go_at_call 16; refine (HSp.out g3 h3 _ (RowG.later (RowG.later og3.row z4B) hb5) (RowG.later (RowG.later oh3.row z4B) hb5)).mono ?_; rintro e w6 ⟨ra6, rc6, rb6, rd6, rfl, op6, ob6, ne6, hb6⟩; have b6 := (hHeld.2.2.2.2.2.2.2).trans (hb6.mono (hHeld.2.2.2.2.2.2.2).size)))
          refine hK.out _ _ ?_ (fun hHeld => ?_)
          · try dsimp only
            exact HSx.out _ b6
          clear hK K
          have z6x0 := (hb6.cell z5L).trans z5x0
          have z6x1 := (hb6.cell z5L).trans z5x1
          have z6F : ∀ o, w6.frozen? ⟨w3.heap.size, o, none⟩ = false := fun o => (hb6.frozen z5L).trans (z5F o)
          have z6L : w3.heap.size < w6.heap.size := Nat.lt_of_lt_of_le z5L hb6.size
          clear z5x0 z5x1 z5F
          refine wpAnyH_take (i := 5) (oi := ⟨some 21, _, _, _, _, _⟩) (v := ?_) rfl (by kernel_rfl) (by kernel_rfl) (by kernel_rfl) (fun _ _ _ h => h) (Or.inl ⟨by rfl, ?_⟩) (by assumption) ?_
          rotate_left
          · intro w hSw
            try dsimp only at hSw
            go_simp
            try with_reducible rfl
          simp only [Act.put, List.setIfInBounds_toArray, List.set_cons_zero, List.set_cons_succ]
          refine wpAnyH_take (i := 6) (oi := ⟨some 27, _, _, _, _, _⟩) (v := ?_) rfl (by kernel_rfl) (by kernel_rfl) (by kernel_rfl) (fun _ _ _ h => h) (Or.inl ⟨by rfl, ?_⟩) (by assumption) ?_
          rotate_left
          · intro w hSw
            try dsimp only at hSw
            go_simp
            try with_reducible rfl
          simp only [Act.put, List.setIfInBounds_toArray, List.set_cons_zero, List.set_cons_succ]
          refine wpAnyH_take (i := 7) (oi := ⟨some 28, _, _, _, _, _⟩) (v := ?_) rfl (by kernel_rfl) (by kernel_rfl) (by kernel_rfl) (fun _ _ _ h => h) (Or.inl ⟨by rfl, ?_⟩) (by assumption) ?_
          rotate_left
          · intro w hSw
            try dsimp only at hSw
            go_simp
            try with_reducible rfl
          simp only [Act.put, List.setIfInBounds_toArray, List.set_cons_zero, List.set_cons_succ]
          refine wpAnyH_ready (rs := [9]) (by kernel_rfl) (by simp) ?_
          refine AllReadyH.cons rfl (fun K hK => ?_) AllReadyH.nil
          go_simp
          refine hK.out _ _ ?_ (fun hHeld => ?_)
          · try dsimp only
            refine HSx.out _ ?_
            repeat (with_reducible refine Below.setCell ?_ ?_ _; rotate_left; (focus (exact (bl4))))
            exact (hHeld.2.2.2.2.2.2.2)
          clear hK K
          refine wpAnyH_take (i := 10) (oi := ⟨some 7, _, _, _, _, _⟩) (v := ?_) rfl (by kernel_rfl) (by kernel_rfl) (by kernel_rfl) (fun _ _ _ h => h) (Or.inl ⟨by rfl, ?_⟩) (by assumption) ?_
          rotate_left
          · intro w hSw
            try dsimp only at hSw
            go_simp
            try with_reducible rfl
          simp only [Act.put, List.setIfInBounds_toArray, List.set_cons_zero, List.set_cons_succ]
          have HE := hidP (hHeld.2.2.2.2.2.2.2)
          refine wpAnyH_done (by kernel_rfl) ?_ _
          clear hHeld
          have lo := fun k hk => OwnG.lt op6 k hk
          have lo' := fun k hk => OwnG.lt ob6 k hk
          have lb : w2.heap.size ≤ w5.heap.size := by first | exact b5.size | exact z5M.size
          have pl : w3.heap.size < w5.heap.size := z5L
          have HF := hidP (And.intro (OwnG.mono op6 lb) (And.intro (OwnG.mono ob6 lb) ne6))
          have HLo := hidP (And.intro lo lo')
          clear lo lo' op6 ob6 ne6
          go_wp2_with fail
          go_meet
          refine ⟨_, ra6, rc6, rb6, rd6, rfl, rfl, bl4, ?_, ?_, ?_, OwnG.put2 HF.out.1 (fun k hk => by have := HLo.out.1 k hk; omega), OwnG.put2 HF.out.2.1 (fun k hk => by have := HLo.out.2 k hk; omega), HF.out.2.2, (fun k hk => by have := HLo.out.1 k hk; omega), (fun k hk => by have := HLo.out.2 k hk; omega), HE.out⟩
          · simp; exact z6L
          all_goals (simp [go_sem, z6x0, z6x1])
      · go_simp
        obtain ⟨z3x0, z3x1⟩ := box2 (u := .slice none 0 0) (v := .slice none 0 0) w2 32
        have z3F := frzZ2 w2 32
        have z3B := alloc_below w2 (.cells #[.slice none 0 0, .slice none 0 0] 32)
        have z3L := alloc_lt w2 (.cells #[.slice none 0 0, .slice none 0 0] 32)
        have z3x0 := (drew_cell (w2.alloc (.cells #[.slice none 0 0, .slice none 0 0] 32)) _).trans z3x0
        have z3x1 := (drew_cell (w2.alloc (.cells #[.slice none 0 0, .slice none 0 0] 32)) _).trans z3x1
        have z3F := fun o => (drew_frozen (w2.alloc (.cells #[.slice none 0 0, .slice none 0 0] 32)) _).trans (z3F o)
        have z3L := drew_size_lt z3L
        have z3M := z3B.drew
        generalize (w2.alloc (.cells #[.slice none 0 0, .slice none 0 0] 32)).drew = w3 at *
        refine hK.out _ _ ?_ (fun hHeld => ?_)
        · try dsimp only
          exact HSx.out _ z3M
        clear hK K
        have bl3 : w2.heap.size ≤ w2.heap.size := Nat.le_refl _
        refine wpAnyH_ready (rs := [1]) (by kernel_rfl) (by simp) ?_
        refine AllReadyH.cons rfl (fun K hK => ?_) AllReadyH.nil
        go_simp
        go_wp2_with (first | (go_at_call 13; refine (HTo.out _ (acc_w2.out.trans ((hHeld.2.2.2.2.2.2.2).mono acc_w2.out.size))).mono ?_; rintro e w4 ⟨g4, h4, rfl, og4, oh4, gh4, hb4⟩; have b4 := (hHeld.2.2.2.2.2.2.2).trans (hb4.mono (hHeld.2.2.2.2.2.2.2).size)))
        refine hK.out _ _ ?_ (fun hHeld => ?_)
        · try dsimp only
          exact HSx.out _ b4
        clear hK K
        have z4x0 := (hb4.cell z3L).trans z3x0
        have z4x1 := (hb4.cell z3L).trans z3x1
        have z4F : ∀ o, w4.frozen? ⟨w2.heap.size, o, none⟩ = false := fun o => (hb4.frozen z3L).trans (z3F o)
        have z4L : w2.heap.size < w4.heap.size := Nat.lt_of_lt_of_le z3L hb4.size
        clear z3x0 z3x1 z3F
        refine wpAnyH_ready (rs := [3]) (by kernel_rfl) (by simp) ?_
        refine AllReadyH.cons rfl (fun K hK => ?_) AllReadyH.nil
        go_simp
        go_wp2_with (first | (go_at_call 17; refine (HTp.out _).mono ?_; rintro e w5 ⟨rfl, hb5⟩; have b5 := (hHeld.2.2.2.2.2.2.2).trans (hb5.mono (hHeld.2.2.2.2.2.2.2).size)))
        refine hK.out _ _ ?_ (fun hHeld => ?_)
        · try dsimp only
          exact HSx.out _ b5
        clear hK K
        have z5x0 := (hb5.cell z4L).trans z4x0
        have z5x1 := (hb5.cell z4L).trans z4x1
        have z5F : ∀ o, w5.frozen? ⟨w2.heap.size, o, none⟩ = false := fun o => (hb5.frozen z4L).trans (z4F o)
        have z5L : w2.heap.size < w5.heap.size := Nat.lt_of_lt_of_le z4L hb5.size
        clear z4x0 z4x1 z4F
        refine wpAnyH_ready (rs := [4]) (by kernel_rfl) (by simp) ?_
        refine AllReadyH.cons rfl (fun K hK => ?_) AllReadyH.nil
        go_simp
        go_wp2_with (first | (go_at_call 16; refine (HSp.out g4 h4 _ (RowG.later og4.row hb5) (RowG.later oh4.row hb5)).mono ?_; rintro e w6 ⟨ra6, rc6, rb6, rd6, rfl, op6, ob6, ne6, hb6⟩; have b6 := (hHeld.2.2.2.2.2.2.2).trans (hb6.mono (hHeld.2.2.2.2.2.2.2).size)))
        refine hK.out _ _ ?_ (fun hHeld => ?_)
        · try dsimp only
          exact HSx.out _ b6
        clear hK K
        have z6x0 := (hb6.cell z5L).trans z5x0
        have z6x1 := (hb6.cell z5L).trans z5x1
        have z6F : ∀ o, w6.frozen? ⟨w2.heap.size, o, none⟩ = false := fun o => (hb6.frozen z5L).trans (z5F o)
        have z6L : w2.heap.size < w6.heap.size := Nat.lt_of_lt_of_le z5L hb6.size
        clear z5x0 z5x1 z5F
        refine wpAnyH_take (i := 5) (oi := ⟨some 21, _, _, _, _, _⟩) (v := ?_) rfl (by kernel_rfl) (by kernel_rfl) (by kernel_rfl) (fun _ _ _ h => h) (Or.inl ⟨by rfl, ?_⟩) (by assumption) ?_
        rotate_left
        · intro w hSw
          try dsimp only at hSw
          go_simp
          try with_reducible rfl
        simp only [Act.put, List.setIfInBounds_toArray, List.set_cons_zero, List.set_cons_succ]
        refine wpAnyH_take (i := 6) (oi := ⟨some 27, _, _, _, _, _⟩) (v := ?_) rfl (by kernel_rfl) (by kernel_rfl) (by kernel_rfl) (fun _ _ _ h => h) (Or.inl ⟨by rfl, ?_⟩) (by assumption) ?_
        rotate_left
        · intro w hSw
          try dsimp only at hSw
          go_simp
          try with_reducible rfl
        simp only [Act.put, List.setIfInBounds_toArray, List.set_cons_zero, List.set_cons_succ]
        refine wpAnyH_take (i := 7) (oi := ⟨some 28, _, _, _, _, _⟩) (v := ?_) rfl (by kernel_rfl) (by kernel_rfl) (by kernel_rfl) (fun _ _ _ h => h) (Or.inl ⟨by rfl, ?_⟩) (by assumption) ?_
        rotate_left
        · intro w hSw
          try dsimp only at hSw
          go_simp
          try with_reducible rfl
        simp only [Act.put, List.setIfInBounds_toArray, List.set_cons_zero, List.set_cons_succ]
        refine wpAnyH_ready (rs := [9]) (by kernel_rfl) (by simp) ?_
        refine AllReadyH.cons rfl (fun K hK => ?_) AllReadyH.nil
        go_simp
        refine hK.out _ _ ?_ (fun hHeld => ?_)
        · try dsimp only
          refine HSx.out _ ?_
          repeat (with_reducible refine Below.setCell ?_ ?_ _; rotate_left; (focus (exact (bl3))))
          exact (hHeld.2.2.2.2.2.2.2)
        clear hK K
        refine wpAnyH_take (i := 10) (oi := ⟨some 7, _, _, _, _, _⟩) (v := ?_) rfl (by kernel_rfl) (by kernel_rfl) (by kernel_rfl) (fun _ _ _ h => h) (Or.inl ⟨by rfl, ?_⟩) (by assumption) ?_
        rotate_left
        · intro w hSw
          try dsimp only at hSw
          go_simp
          try with_reducible rfl
        simp only [Act.put, List.setIfInBounds_toArray, List.set_cons_zero, List.set_cons_succ]
        have HE := hidP (hHeld.2.2.2.2.2.2.2)
        refine wpAnyH_done (by kernel_rfl) ?_ _
        clear hHeld
        have lo := fun k hk => OwnG.lt op6 k hk
        have lo' := fun k hk => OwnG.lt ob6 k hk
        have lb : w2.heap.size ≤ w5.heap.size := by first | exact b5.size | exact z5M.size
        have pl : w2.heap.size < w5.heap.size := z5L
        have HF := hidP (And.intro (OwnG.mono op6 lb) (And.intro (OwnG.mono ob6 lb) ne6))
        have HLo := hidP (And.intro lo lo')
        clear lo lo' op6 ob6 ne6
        go_wp2_with fail
        go_meet
        refine ⟨_, ra6, rc6, rb6, rd6, rfl, rfl, bl3, ?_, ?_, ?_, OwnG.put2 HF.out.1 (fun k hk => by have := HLo.out.1 k hk; omega), OwnG.put2 HF.out.2.1 (fun k hk => by have := HLo.out.2 k hk; omega), HF.out.2.2, (fun k hk => by have := HLo.out.1 k hk; omega), (fun k hk => by have := HLo.out.2 k hk; omega), HE.out⟩
        · simp; exact z6L
        all_goals (simp [go_sem, z6x0, z6x1])
    case rest =>
      obtain ⟨p1, a1, c1, b1, d1', rfl, rfl, hp1, qL, q0, q1, op1, ob1, ne1, np1, nb1, hX⟩ := hcut
      have qLo := qL
      have hSB := hidP (fun j hj => (OwnG.lt op1 j hj).2)
      have hTB := hidP (fun j hj => (OwnG.lt ob1 j hj).2)
      have oS_1 := hidP op1
      have oT_1 := hidP ob1
      have lp0_wc := (hX.cell lpL_w2).trans lp0_w2
      have lp1_wc := (hX.cell lpL_w2).trans lp1_w2
      have lpL_wc : w.heap.size < wc.heap.size := Nat.lt_of_lt_of_le lpL_w2 hX.size
      have lq0_wc := (hX.cell lqL_w2).trans lq0_w2
      have lq1_wc := (hX.cell lqL_w2).trans lq1_w2
      have lq2_wc := (hX.cell lqL_w2).trans lq2_w2
      have lq3_wc := (hX.cell lqL_w2).trans lq3_w2
      have lq4_wc := (hX.cell lqL_w2).trans lq4_w2
      have lqL_wc : w.heap.size + 1 < wc.heap.size := Nat.lt_of_lt_of_le lqL_w2 hX.size
      have acc_wc := hidP (acc_w2.out.trans (hX.mono acc_w2.out.size))
      have sz_wc := hX.size
      have szA : w.heap.size + 1 < wc.heap.size := lqL_wc
      clear lp0_w2 lp1_w2 lpL_w2 lq0_w2 lq1_w2 lq2_w2 lq3_w2 lq4_w2 lqL_w2 hX op1 ob1 ne1 np1 nb1 acc_w2
      go_wp2_with fail
      refine (HTo.out _ acc_wc.out).mono ?_
      rintro e w5 ⟨g2, h2, rfl, og2, oh2, gh2, hb5⟩
      have lg2 := OwnG.lt og2 g2 rfl
      have lh2 := OwnG.lt oh2 h2 rfl
      have lp0_w5 := (hb5.cell lpL_wc).trans lp0_wc
      have lp1_w5 := (hb5.cell lpL_wc).trans lp1_wc
      have lpL_w5 : w.heap.size < w5.heap.size := Nat.lt_of_lt_of_le lpL_wc hb5.size
      have lq0_w5 := (hb5.cell lqL_wc).trans lq0_wc
      have lq1_w5 := (hb5.cell lqL_wc).trans lq1_wc
      have lq2_w5 := (hb5.cell lqL_wc).trans lq2_wc
      have lq3_w5 := (hb5.cell lqL_wc).trans lq3_wc
      have lq4_w5 := (hb5.cell lqL_wc).trans lq4_wc
      have lqL_w5 : w.heap.size + 1 < w5.heap.size := Nat.lt_of_lt_of_le lqL_wc hb5.size
      have q0_w5 := (hb5.cell qL).trans q0
      have q1_w5 := (hb5.cell qL).trans q1
      have qL_w5 : p1 < w5.heap.size := Nat.lt_of_lt_of_le qL hb5.size
      have oS_w5 := hidP (OwnG.later oS_1.out hb5)
      have oT_w5 := hidP (OwnG.later oT_1.out hb5)
      have acc_w5 := hidP (acc_wc.out.trans (hb5.mono acc_wc.out.size))
      have sz_w5 := hb5.size
      have oG_w5 := hidP og2
      have oH_w5 := hidP oh2
      clear lp0_wc lp1_wc lpL_wc lq0_wc lq1_wc lq2_wc lq3_wc lq4_wc lqL_wc q0 q1 qL oS_1 oT_1 hb5 og2 oh2 acc_wc
      go_upto_region 7 with fail
      obtain ⟨v0, v1⟩ := box2 (u := .slice (some ⟨g2, 0, none⟩) np np) (v := .slice (some ⟨h2, 0, none⟩) nb nb) w5 32
      have vB := alloc_below w5 (.cells #[.slice (some ⟨g2, 0, none⟩) np np, .slice (some ⟨h2, 0, none⟩) nb nb] 32)
      have vL := alloc_lt w5 (.cells #[.slice (some ⟨g2, 0, none⟩) np np, .slice (some ⟨h2, 0, none⟩) nb nb] 32)
      have vS : (w5.alloc (.cells #[.slice (some ⟨g2, 0, none⟩) np np, .slice (some ⟨h2, 0, none⟩) nb nb] 32)).heap.size = w5.heap.size + 1 := by simp
      generalize w5.alloc (.cells #[.slice (some ⟨g2, 0, none⟩) np np, .slice (some ⟨h2, 0, none⟩) nb nb] 32) = W6 at *
      have lp0_W6 := (vB.cell lpL_w5).trans lp0_w5
      have lp1_W6 := (vB.cell lpL_w5).trans lp1_w5
      have lpL_W6 : w.heap.size < W6.heap.size := Nat.lt_of_lt_of_le lpL_w5 vB.size
      have lq0_W6 := (vB.cell lqL_w5).trans lq0_w5
      have lq1_W6 := (vB.cell lqL_w5).trans lq1_w5
      have lq2_W6 := (vB.cell lqL_w5).trans lq2_w5
      have lq3_W6 := (vB.cell lqL_w5).trans lq3_w5
      have lq4_W6 := (vB.cell lqL_w5).trans lq4_w5
      have lqL_W6 : w.heap.size + 1 < W6.heap.size := Nat.lt_of_lt_of_le lqL_w5 vB.size
      have q0_W6 := (vB.cell qL_w5).trans q0_w5
      have q1_W6 := (vB.cell qL_w5).trans q1_w5
      have qL_W6 : p1 < W6.heap.size := Nat.lt_of_lt_of_le qL_w5 vB.size
      have oS_W6 := hidP (OwnG.later oS_w5.out vB)
      have oT_W6 := hidP (OwnG.later oT_w5.out vB)
      have oG_W6 := hidP (OwnG.later oG_w5.out vB)
      have oH_W6 := hidP (OwnG.later oH_w5.out vB)
      have acc_W6 := hidP (acc_w5.out.trans (vB.mono acc_w5.out.size))
      have sz_W6 := vB.size
      clear lp0_w5 lp1_w5 lpL_w5 lq0_w5 lq1_w5 lq2_w5 lq3_w5 lq4_w5 lqL_w5 q0_w5 q1_w5 qL_w5 oS_w5 oT_w5 oG_w5 oH_w5 vB vS acc_w5
      go_cut [9, 10] (fun t9 t10 X => ∃ (p : Nat) (a : Option Addr) (c : Nat) (b : Option Addr) (d : Nat), t9 = .pointer (some ⟨p, 0, none⟩) ∧ t10 = .int .i64 C ∧ W6.heap.size ≤ p ∧ p < X.heap.size ∧ X.cell? ⟨p, 0, none⟩ = some (.slice a NP c) ∧ X.cell? ⟨p, 1, none⟩ = some (.slice b NB d) ∧ OwnG KPl 48 X W6.heap.size (.slice a NP c) PS ∧ OwnG KBk 56 X W6.heap.size (.slice b NB d) BS ∧ (∀ k, (Value.slice a NP c).ownBlock = some k → (Value.slice b NB d).ownBlock ≠ some k) ∧ (∀ k, (Value.slice a NP c).ownBlock = some k → k ≠ p) ∧ (∀ k, (Value.slice b NB d).ownBlock = some k → k ≠ p) ∧ Below W6.heap.size W6 X)
      case first =>
        have HSx : Hid (∀ x, Below W6.heap.size W6 x → (x.cell? ⟨w5.heap.size, 0, none⟩ = some (.slice (some ⟨g2, 0, none⟩) np np) ∧ x.cell? ⟨w5.heap.size, 1, none⟩ = some (.slice (some ⟨h2, 0, none⟩) nb nb) ∧ x.cell? ⟨w.heap.size + 1, 0, none⟩ = some (.bool pq.p.s) ∧ x.cell? ⟨w.heap.size + 1, 1, none⟩ = some (.int .i64 pq.p.H.toInt) ∧ x.cell? ⟨w.heap.size + 1, 2, none⟩ = some (.int .i64 pq.p.L.toInt) ∧ x.cell? ⟨w.heap.size + 1, 3, none⟩ = some (.int .i64 pq.p.b) ∧ x.cell? ⟨w.heap.size + 1, 4, none⟩ = some (.int .i64 pq.n) ∧ Below W6.heap.size W6 x)) := hidP fun x h =>
          ⟨(h.cell vL).trans v0, (h.cell vL).trans v1, (h.cell lqL_W6).trans lq0_W6, (h.cell lqL_W6).trans lq1_W6, (h.cell lqL_W6).trans lq2_W6, (h.cell lqL_W6).trans lq3_W6, (h.cell lqL_W6).trans lq4_W6, h⟩
        refine wp_region_held_drew (S := (fun x => x.cell? ⟨w5.heap.size, 0, none⟩ = some (.slice (some ⟨g2, 0, none⟩) np np) ∧ x.cell? ⟨w5.heap.size, 1, none⟩ = some (.slice (some ⟨h2, 0, none⟩) nb nb) ∧ x.cell? ⟨w.heap.size + 1, 0, none⟩ = some (.bool pq.p.s) ∧ x.cell? ⟨w.heap.size + 1, 1, none⟩ = some (.int .i64 pq.p.H.toInt) ∧ x.cell? ⟨w.heap.size + 1, 2, none⟩ = some (.int .i64 pq.p.L.toInt) ∧ x.cell? ⟨w.heap.size + 1, 3, none⟩ = some (.int .i64 pq.p.b) ∧ x.cell? ⟨w.heap.size + 1, 4, none⟩ = some (.int .i64 pq.n) ∧ Below W6.heap.size W6 x)) (by kernel_rfl) ?_ (fun hHeld => ?_)
        · try dsimp only
          exact HSx.out _ (Below.refl _ _).drew
        refine wpAnyH_take (i := 0) (oi := ⟨some 32, _, _, _, _, _⟩) (v := ?_) rfl (by kernel_rfl) (by kernel_rfl) (by kernel_rfl) (fun _ _ _ h => h) (Or.inl ⟨by rfl, ?_⟩) (by assumption) ?_
        rotate_left
        · intro w hSw
          try dsimp only at hSw
          go_simp
          try with_reducible rfl
        simp only [Act.put, List.setIfInBounds_toArray, List.set_cons_zero, List.set_cons_succ]
        refine wpAnyH_take (i := 1) (oi := ⟨some 33, _, _, _, _, _⟩) (v := ?_) rfl (by kernel_rfl) (by kernel_rfl) (by kernel_rfl) (fun _ _ _ h => h) (Or.inl ⟨by rfl, ?_⟩) (by assumption) ?_
        rotate_left
        · intro w hSw
          try dsimp only at hSw
          go_simp
          try with_reducible rfl
        simp only [Act.put, List.setIfInBounds_toArray, List.set_cons_zero, List.set_cons_succ]
        refine wpAnyH_ready (rs := [2, 7]) (by kernel_rfl) (by simp) ?_
        refine AllReadyH.cons rfl (fun K hK => ?_) (AllReadyH.cons rfl (fun K hK => ?_) AllReadyH.nil)
        · go_simp
          go_wp2_with (first | (go_at_call 17; refine (HTp.out _).mono ?_; rintro e w7 ⟨rfl, hb7⟩; have b7 := (hHeld.2.2.2.2.2.2.2).trans (hb7.mono (hHeld.2.2.2.2.2.2.2).size)))
          refine hK.out _ _ ?_ (fun hHeld => ?_)
          · try dsimp only
            exact HSx.out _ b7
          clear hK K
          refine wpAnyH_ready (rs := [3, 7]) (by kernel_rfl) (by simp) ?_
          refine AllReadyH.cons rfl (fun K hK => ?_) (AllReadyH.cons rfl (fun K hK => ?_) AllReadyH.nil)
          · go_simp
            go_wp2_with (first | (go_at_call 18; refine (HIm.out g2 h2 _ (oG_W6.out.row.later (hHeld.2.2.2.2.2.2.2)) (oH_W6.out.row.later (hHeld.2.2.2.2.2.2.2))).mono ?_; rintro e w8 ⟨ra8, rc8, rb8, rd8, rfl, op8, ob8, ne8, hb8⟩; have b8 := (hHeld.2.2.2.2.2.2.2).trans (hb8.mono (hHeld.2.2.2.2.2.2.2).size)))
            refine hK.out _ _ ?_ (fun hHeld => ?_)
            · try dsimp only
              exact HSx.out _ b8
            clear hK K
            refine wpAnyH_take (i := 4) (oi := ⟨some 31, _, _, _, _, _⟩) (v := ?_) rfl (by kernel_rfl) (by kernel_rfl) (by kernel_rfl) (fun _ _ _ h => h) (Or.inl ⟨by rfl, ?_⟩) (by assumption) ?_
            rotate_left
            · intro w hSw
              try dsimp only at hSw
              go_simp
              try with_reducible rfl
            simp only [Act.put, List.setIfInBounds_toArray, List.set_cons_zero, List.set_cons_succ]
            refine wpAnyH_take (i := 5) (oi := ⟨some 36, _, _, _, _, _⟩) (v := ?_) rfl (by kernel_rfl) (by kernel_rfl) (by kernel_rfl) (fun _ _ _ h => h) (Or.inl ⟨by rfl, ?_⟩) (by assumption) ?_
            rotate_left
            · intro w hSw
              try dsimp only at hSw
              go_simp
              try with_reducible rfl
            simp only [Act.put, List.setIfInBounds_toArray, List.set_cons_zero, List.set_cons_succ]
            refine wpAnyH_take (i := 6) (oi := ⟨some 37, _, _, _, _, _⟩) (v := ?_) rfl (by kernel_rfl) (by kernel_rfl) (by kernel_rfl) (fun _ _ _ h => h) (Or.inl ⟨by rfl, ?_⟩) (by assumption) ?_
            rotate_left
            · intro w hSw
              try dsimp only at hSw
              go_simp
              try with_reducible rfl
            simp only [Act.put, List.setIfInBounds_toArray, List.set_cons_zero, List.set_cons_succ]
            refine wpAnyH_ready (rs := [7]) (by kernel_rfl) (by simp) ?_
            refine AllReadyH.cons rfl (fun K hK => ?_) AllReadyH.nil
            go_simp
            obtain ⟨z9x0, z9x1⟩ := box2 (u := .slice none 0 0) (v := .slice none 0 0) w8 32
            have z9F := frzZ2 w8 32
            have z9B := alloc_below w8 (.cells #[.slice none 0 0, .slice none 0 0] 32)
            have z9L := alloc_lt w8 (.cells #[.slice none 0 0, .slice none 0 0] 32)
            have z9M := (hHeld.2.2.2.2.2.2.2).trans (z9B.mono (hHeld.2.2.2.2.2.2.2).size)
            generalize w8.alloc (.cells #[.slice none 0 0, .slice none 0 0] 32) = w9 at *
            refine hK.out _ _ ?_ (fun hHeld => ?_)
            · try dsimp only
              exact HSx.out _ z9M
            clear hK K
            have bl9 : W6.heap.size ≤ w8.heap.size := b8.size
            refine wpAnyH_ready (rs := [8]) (by kernel_rfl) (by simp) ?_
            refine AllReadyH.cons rfl (fun K hK => ?_) AllReadyH.nil
            go_simp
            refine hK.out _ _ ?_ (fun hHeld => ?_)
            · try dsimp only
              refine HSx.out _ ?_
              repeat (with_reducible refine Below.setCell ?_ ?_ _; rotate_left; (focus (exact (bl9))))
              exact (hHeld.2.2.2.2.2.2.2)
            clear hK K
            refine wpAnyH_take (i := 9) (oi := ⟨some 10, _, _, _, _, _⟩) (v := ?_) rfl (by kernel_rfl) (by kernel_rfl) (by kernel_rfl) (fun _ _ _ h => h) (Or.inl ⟨by rfl, ?_⟩) (by assumption) ?_
            rotate_left
            · intro w hSw
              try dsimp only at hSw
              go_simp
              try with_reducible rfl
            simp only [Act.put, List.setIfInBounds_toArray, List.set_cons_zero, List.set_cons_succ]
            have HE := hidP (hHeld.2.2.2.2.2.2.2)
            refine wpAnyH_done (by kernel_rfl) ?_ _
            clear hHeld
            have lo := fun k hk => OwnG.lt op8 k hk
            have lo' := fun k hk => OwnG.lt ob8 k hk
            have lb : W6.heap.size ≤ w7.heap.size := by first | exact b7.size | exact z7M.size
            have HF := hidP (And.intro (OwnG.mono (OwnG.later op8 z9B) lb) (And.intro (OwnG.mono (OwnG.later ob8 z9B) lb) ne8))
            have HLo := hidP (And.intro lo lo')
            clear lo lo' op8 ob8 ne8
            go_wp2_with fail
            go_meet
            refine ⟨_, ra8, rc8, rb8, rd8, rfl, rfl, bl9, ?_, ?_, ?_, OwnG.put2 HF.out.1 (fun k hk => by have := HLo.out.1 k hk; omega), OwnG.put2 HF.out.2.1 (fun k hk => by have := HLo.out.2 k hk; omega), HF.out.2.2, (fun k hk => by have := HLo.out.1 k hk; omega), (fun k hk => by have := HLo.out.2 k hk; omega), HE.out⟩
            · simp; exact z9L
            all_goals (simp [go_sem, z9x0, z9x1])
          · go_simp
            obtain ⟨z8x0, z8x1⟩ := box2 (u := .slice none 0 0) (v := .slice none 0 0) w7 32
            have z8F := frzZ2 w7 32
            have z8B := alloc_below w7 (.cells #[.slice none 0 0, .slice none 0 0] 32)
            have z8L := alloc_lt w7 (.cells #[.slice none 0 0, .slice none 0 0] 32)
            have z8M := (hHeld.2.2.2.2.2.2.2).trans (z8B.mono (hHeld.2.2.2.2.2.2.2).size)
            generalize w7.alloc (.cells #[.slice none 0 0, .slice none 0 0] 32) = w8 at *
            refine hK.out _ _ ?_ (fun hHeld => ?_)
            · try dsimp only
              exact HSx.out _ z8M
            clear hK K
            have bl8 : W6.heap.size ≤ w7.heap.size := b7.size
            refine wpAnyH_ready (rs := [3]) (by kernel_rfl) (by simp) ?_
            refine AllReadyH.cons rfl (fun K hK => ?_) AllReadyH.nil
            go_simp
            go_wp2_with (first | (go_at_call 18; refine (HIm.out g2 h2 _ (oG_W6.out.row.later (hHeld.2.2.2.2.2.2.2)) (oH_W6.out.row.later (hHeld.2.2.2.2.2.2.2))).mono ?_; rintro e w9 ⟨ra9, rc9, rb9, rd9, rfl, op9, ob9, ne9, hb9⟩; have b9 := (hHeld.2.2.2.2.2.2.2).trans (hb9.mono (hHeld.2.2.2.2.2.2.2).size)))
            refine hK.out _ _ ?_ (fun hHeld => ?_)
            · try dsimp only
              exact HSx.out _ b9
            clear hK K
            have z9x0 := (hb9.cell z8L).trans z8x0
            have z9x1 := (hb9.cell z8L).trans z8x1
            have z9F : ∀ o, w9.frozen? ⟨w7.heap.size, o, none⟩ = false := fun o => (hb9.frozen z8L).trans (z8F o)
            have z9L : w7.heap.size < w9.heap.size := Nat.lt_of_lt_of_le z8L hb9.size
            clear z8x0 z8x1 z8F
            refine wpAnyH_take (i := 4) (oi := ⟨some 31, _, _, _, _, _⟩) (v := ?_) rfl (by kernel_rfl) (by kernel_rfl) (by kernel_rfl) (fun _ _ _ h => h) (Or.inl ⟨by rfl, ?_⟩) (by assumption) ?_
            rotate_left
            · intro w hSw
              try dsimp only at hSw
              go_simp
              try with_reducible rfl
            simp only [Act.put, List.setIfInBounds_toArray, List.set_cons_zero, List.set_cons_succ]
            refine wpAnyH_take (i := 5) (oi := ⟨some 36, _, _, _, _, _⟩) (v := ?_) rfl (by kernel_rfl) (by kernel_rfl) (by kernel_rfl) (fun _ _ _ h => h) (Or.inl ⟨by rfl, ?_⟩) (by assumption) ?_
            rotate_left
            · intro w hSw
              try dsimp only at hSw
              go_simp
              try with_reducible rfl
            simp only [Act.put, List.setIfInBounds_toArray, List.set_cons_zero, List.set_cons_succ]
            refine wpAnyH_take (i := 6) (oi := ⟨some 37, _, _, _, _, _⟩) (v := ?_) rfl (by kernel_rfl) (by kernel_rfl) (by kernel_rfl) (fun _ _ _ h => h) (Or.inl ⟨by rfl, ?_⟩) (by assumption) ?_
            rotate_left
            · intro w hSw
              try dsimp only at hSw
              go_simp
              try with_reducible rfl
            simp only [Act.put, List.setIfInBounds_toArray, List.set_cons_zero, List.set_cons_succ]
            refine wpAnyH_ready (rs := [8]) (by kernel_rfl) (by simp) ?_
            refine AllReadyH.cons rfl (fun K hK => ?_) AllReadyH.nil
            go_simp
            refine hK.out _ _ ?_ (fun hHeld => ?_)
            · try dsimp only
              refine HSx.out _ ?_
              repeat (with_reducible refine Below.setCell ?_ ?_ _; rotate_left; (focus (exact (bl8))))
              exact (hHeld.2.2.2.2.2.2.2)
            clear hK K
            refine wpAnyH_take (i := 9) (oi := ⟨some 10, _, _, _, _, _⟩) (v := ?_) rfl (by kernel_rfl) (by kernel_rfl) (by kernel_rfl) (fun _ _ _ h => h) (Or.inl ⟨by rfl, ?_⟩) (by assumption) ?_
            rotate_left
            · intro w hSw
              try dsimp only at hSw
              go_simp
              try with_reducible rfl
            simp only [Act.put, List.setIfInBounds_toArray, List.set_cons_zero, List.set_cons_succ]
            have HE := hidP (hHeld.2.2.2.2.2.2.2)
            refine wpAnyH_done (by kernel_rfl) ?_ _
            clear hHeld
            have lo := fun k hk => OwnG.lt op9 k hk
            have lo' := fun k hk => OwnG.lt ob9 k hk
            have lb : W6.heap.size ≤ w8.heap.size := by first | exact b8.size | exact z8M.size
            have pl : w7.heap.size < w8.heap.size := z8L
            have HF := hidP (And.intro (OwnG.mono op9 lb) (And.intro (OwnG.mono ob9 lb) ne9))
            have HLo := hidP (And.intro lo lo')
            clear lo lo' op9 ob9 ne9
            go_wp2_with fail
            go_meet
            refine ⟨_, ra9, rc9, rb9, rd9, rfl, rfl, bl8, ?_, ?_, ?_, OwnG.put2 HF.out.1 (fun k hk => by have := HLo.out.1 k hk; omega), OwnG.put2 HF.out.2.1 (fun k hk => by have := HLo.out.2 k hk; omega), HF.out.2.2, (fun k hk => by have := HLo.out.1 k hk; omega), (fun k hk => by have := HLo.out.2 k hk; omega), HE.out⟩
            · simp; exact z9L
            all_goals (simp [go_sem, z9x0, z9x1])
        · go_simp
          obtain ⟨z7x0, z7x1⟩ := box2 (u := .slice none 0 0) (v := .slice none 0 0) W6 32
          have z7F := frzZ2 W6 32
          have z7B := alloc_below W6 (.cells #[.slice none 0 0, .slice none 0 0] 32)
          have z7L := alloc_lt W6 (.cells #[.slice none 0 0, .slice none 0 0] 32)
          have z7x0 := (drew_cell (W6.alloc (.cells #[.slice none 0 0, .slice none 0 0] 32)) _).trans z7x0
          have z7x1 := (drew_cell (W6.alloc (.cells #[.slice none 0 0, .slice none 0 0] 32)) _).trans z7x1
          have z7F := fun o => (drew_frozen (W6.alloc (.cells #[.slice none 0 0, .slice none 0 0] 32)) _).trans (z7F o)
          have z7L := drew_size_lt z7L
          have z7M := z7B.drew
          generalize (W6.alloc (.cells #[.slice none 0 0, .slice none 0 0] 32)).drew = w7 at *
          refine hK.out _ _ ?_ (fun hHeld => ?_)
          · try dsimp only
            exact HSx.out _ z7M
          clear hK K
          have bl7 : W6.heap.size ≤ W6.heap.size := Nat.le_refl _
          refine wpAnyH_ready (rs := [2]) (by kernel_rfl) (by simp) ?_
          refine AllReadyH.cons rfl (fun K hK => ?_) AllReadyH.nil
          go_simp
          go_wp2_with (first | (go_at_call 17; refine (HTp.out _).mono ?_; rintro e w8 ⟨rfl, hb8⟩; have b8 := (hHeld.2.2.2.2.2.2.2).trans (hb8.mono (hHeld.2.2.2.2.2.2.2).size)))
          refine hK.out _ _ ?_ (fun hHeld => ?_)
          · try dsimp only
            exact HSx.out _ b8
          clear hK K
          have z8x0 := (hb8.cell z7L).trans z7x0
          have z8x1 := (hb8.cell z7L).trans z7x1
          have z8F : ∀ o, w8.frozen? ⟨W6.heap.size, o, none⟩ = false := fun o => (hb8.frozen z7L).trans (z7F o)
          have z8L : W6.heap.size < w8.heap.size := Nat.lt_of_lt_of_le z7L hb8.size
          clear z7x0 z7x1 z7F
          refine wpAnyH_ready (rs := [3]) (by kernel_rfl) (by simp) ?_
          refine AllReadyH.cons rfl (fun K hK => ?_) AllReadyH.nil
          go_simp
          go_wp2_with (first | (go_at_call 18; refine (HIm.out g2 h2 _ (oG_W6.out.row.later (hHeld.2.2.2.2.2.2.2)) (oH_W6.out.row.later (hHeld.2.2.2.2.2.2.2))).mono ?_; rintro e w9 ⟨ra9, rc9, rb9, rd9, rfl, op9, ob9, ne9, hb9⟩; have b9 := (hHeld.2.2.2.2.2.2.2).trans (hb9.mono (hHeld.2.2.2.2.2.2.2).size)))
          refine hK.out _ _ ?_ (fun hHeld => ?_)
          · try dsimp only
            exact HSx.out _ b9
          clear hK K
          have z9x0 := (hb9.cell z8L).trans z8x0
          have z9x1 := (hb9.cell z8L).trans z8x1
          have z9F : ∀ o, w9.frozen? ⟨W6.heap.size, o, none⟩ = false := fun o => (hb9.frozen z8L).trans (z8F o)
          have z9L : W6.heap.size < w9.heap.size := Nat.lt_of_lt_of_le z8L hb9.size
          clear z8x0 z8x1 z8F
          refine wpAnyH_take (i := 4) (oi := ⟨some 31, _, _, _, _, _⟩) (v := ?_) rfl (by kernel_rfl) (by kernel_rfl) (by kernel_rfl) (fun _ _ _ h => h) (Or.inl ⟨by rfl, ?_⟩) (by assumption) ?_
          rotate_left
          · intro w hSw
            try dsimp only at hSw
            go_simp
            try with_reducible rfl
          simp only [Act.put, List.setIfInBounds_toArray, List.set_cons_zero, List.set_cons_succ]
          refine wpAnyH_take (i := 5) (oi := ⟨some 36, _, _, _, _, _⟩) (v := ?_) rfl (by kernel_rfl) (by kernel_rfl) (by kernel_rfl) (fun _ _ _ h => h) (Or.inl ⟨by rfl, ?_⟩) (by assumption) ?_
          rotate_left
          · intro w hSw
            try dsimp only at hSw
            go_simp
            try with_reducible rfl
          simp only [Act.put, List.setIfInBounds_toArray, List.set_cons_zero, List.set_cons_succ]
          refine wpAnyH_take (i := 6) (oi := ⟨some 37, _, _, _, _, _⟩) (v := ?_) rfl (by kernel_rfl) (by kernel_rfl) (by kernel_rfl) (fun _ _ _ h => h) (Or.inl ⟨by rfl, ?_⟩) (by assumption) ?_
          rotate_left
          · intro w hSw
            try dsimp only at hSw
            go_simp
            try with_reducible rfl
          simp only [Act.put, List.setIfInBounds_toArray, List.set_cons_zero, List.set_cons_succ]
          refine wpAnyH_ready (rs := [8]) (by kernel_rfl) (by simp) ?_
          refine AllReadyH.cons rfl (fun K hK => ?_) AllReadyH.nil
          go_simp
          refine hK.out _ _ ?_ (fun hHeld => ?_)
          · try dsimp only
            refine HSx.out _ ?_
            repeat (with_reducible refine Below.setCell ?_ ?_ _; rotate_left; (focus (exact (bl7))))
            exact (hHeld.2.2.2.2.2.2.2)
          clear hK K
          refine wpAnyH_take (i := 9) (oi := ⟨some 10, _, _, _, _, _⟩) (v := ?_) rfl (by kernel_rfl) (by kernel_rfl) (by kernel_rfl) (fun _ _ _ h => h) (Or.inl ⟨by rfl, ?_⟩) (by assumption) ?_
          rotate_left
          · intro w hSw
            try dsimp only at hSw
            go_simp
            try with_reducible rfl
          simp only [Act.put, List.setIfInBounds_toArray, List.set_cons_zero, List.set_cons_succ]
          have HE := hidP (hHeld.2.2.2.2.2.2.2)
          refine wpAnyH_done (by kernel_rfl) ?_ _
          clear hHeld
          have lo := fun k hk => OwnG.lt op9 k hk
          have lo' := fun k hk => OwnG.lt ob9 k hk
          have lb : W6.heap.size ≤ w8.heap.size := by first | exact b8.size | exact z8M.size
          have pl : W6.heap.size < w8.heap.size := z8L
          have HF := hidP (And.intro (OwnG.mono op9 lb) (And.intro (OwnG.mono ob9 lb) ne9))
          have HLo := hidP (And.intro lo lo')
          clear lo lo' op9 ob9 ne9
          go_wp2_with fail
          go_meet
          refine ⟨_, ra9, rc9, rb9, rd9, rfl, rfl, bl7, ?_, ?_, ?_, OwnG.put2 HF.out.1 (fun k hk => by have := HLo.out.1 k hk; omega), OwnG.put2 HF.out.2.1 (fun k hk => by have := HLo.out.2 k hk; omega), HF.out.2.2, (fun k hk => by have := HLo.out.1 k hk; omega), (fun k hk => by have := HLo.out.2 k hk; omega), HE.out⟩
          · simp; exact z9L
          all_goals (simp [go_sem, z9x0, z9x1])
      case rest =>
        obtain ⟨p2, a2, c2, b2, d2', rfl, rfl, hp2, rL, r0, r1, op2, ob2, ne2, np2, nb2, hX⟩ := hcut
        have HNE := hidP ne2
        have HNQ := hidP (And.intro np2 nb2)
        have oI_1 := hidP op2
        have oJ_1 := hidP ob2
        have lp0_wc := (hX.cell lpL_W6).trans lp0_W6
        have lp1_wc := (hX.cell lpL_W6).trans lp1_W6
        have lpL_wc : w.heap.size < wc.heap.size := Nat.lt_of_lt_of_le lpL_W6 hX.size
        have lq0_wc := (hX.cell lqL_W6).trans lq0_W6
        have lq1_wc := (hX.cell lqL_W6).trans lq1_W6
        have lq2_wc := (hX.cell lqL_W6).trans lq2_W6
        have lq3_wc := (hX.cell lqL_W6).trans lq3_W6
        have lq4_wc := (hX.cell lqL_W6).trans lq4_W6
        have lqL_wc : w.heap.size + 1 < wc.heap.size := Nat.lt_of_lt_of_le lqL_W6 hX.size
        have q0_wc := (hX.cell qL_W6).trans q0_W6
        have q1_wc := (hX.cell qL_W6).trans q1_W6
        have qL_wc : p1 < wc.heap.size := Nat.lt_of_lt_of_le qL_W6 hX.size
        have x00_wc := (hX.cell vL).trans v0
        have x01_wc := (hX.cell vL).trans v1
        have x0L_wc : w5.heap.size < wc.heap.size := Nat.lt_of_lt_of_le vL hX.size
        have oS_wc := hidP (OwnG.later oS_W6.out hX)
        have oT_wc := hidP (OwnG.later oT_W6.out hX)
        have oG_wc := hidP (OwnG.later oG_W6.out hX)
        have oH_wc := hidP (OwnG.later oH_W6.out hX)
        have acc_wc := hidP (acc_W6.out.trans (hX.mono acc_W6.out.size))
        have sz_wc := hX.size
        clear lp0_W6 lp1_W6 lpL_W6 lq0_W6 lq1_W6 lq2_W6 lq3_W6 lq4_W6 lqL_W6 q0_W6 q1_W6 qL_W6 v0 v1 vL oS_W6 oT_W6 oG_W6 oH_W6 hX op2 ob2 ne2 np2 nb2 acc_W6
        go_wp2_with fail
        refine (HEr.out _ a2 c2 b2 d2' a1 c1 b1 d1' oI_1.out.row oS_wc.out.row oJ_1.out.row oT_wc.out.row).mono ?_
        rintro e w8 ⟨rfl, hb_w8⟩
        have lp0_w8 := (hb_w8.cell lpL_wc).trans lp0_wc
        have lp1_w8 := (hb_w8.cell lpL_wc).trans lp1_wc
        have lpL_w8 : w.heap.size < w8.heap.size := Nat.lt_of_lt_of_le lpL_wc hb_w8.size
        have lq0_w8 := (hb_w8.cell lqL_wc).trans lq0_wc
        have lq1_w8 := (hb_w8.cell lqL_wc).trans lq1_wc
        have lq2_w8 := (hb_w8.cell lqL_wc).trans lq2_wc
        have lq3_w8 := (hb_w8.cell lqL_wc).trans lq3_wc
        have lq4_w8 := (hb_w8.cell lqL_wc).trans lq4_wc
        have lqL_w8 : w.heap.size + 1 < w8.heap.size := Nat.lt_of_lt_of_le lqL_wc hb_w8.size
        have q0_w8 := (hb_w8.cell qL_wc).trans q0_wc
        have q1_w8 := (hb_w8.cell qL_wc).trans q1_wc
        have qL_w8 : p1 < w8.heap.size := Nat.lt_of_lt_of_le qL_wc hb_w8.size
        have x00_w8 := (hb_w8.cell x0L_wc).trans x00_wc
        have x01_w8 := (hb_w8.cell x0L_wc).trans x01_wc
        have x0L_w8 : w5.heap.size < w8.heap.size := Nat.lt_of_lt_of_le x0L_wc hb_w8.size
        have r0_w8 := (hb_w8.cell rL).trans r0
        have r1_w8 := (hb_w8.cell rL).trans r1
        have rL_w8 : p2 < w8.heap.size := Nat.lt_of_lt_of_le rL hb_w8.size
        have oS_w8 := hidP (OwnG.later oS_wc.out hb_w8)
        have oT_w8 := hidP (OwnG.later oT_wc.out hb_w8)
        have oG_w8 := hidP (OwnG.later oG_wc.out hb_w8)
        have oH_w8 := hidP (OwnG.later oH_wc.out hb_w8)
        have oI_w8 := hidP (OwnG.later oI_1.out hb_w8)
        have oJ_w8 := hidP (OwnG.later oJ_1.out hb_w8)
        have acc_w8 := hidP (acc_wc.out.trans (hb_w8.mono acc_wc.out.size))
        have sz_w8 := hb_w8.size
        clear lp0_wc lp1_wc lpL_wc lq0_wc lq1_wc lq2_wc lq3_wc lq4_wc lqL_wc q0_wc q1_wc qL_wc x00_wc x01_wc x0L_wc r0 r1 rL oS_wc oT_wc oG_wc oH_wc oI_1 oJ_1 hb_w8 acc_wc
        go_wp2_with fail
        have HSx : Hid (∀ x, Below w8.heap.size w8 x → (x.cell? ⟨w.heap.size, 0, none⟩ = some (.slice ap np cp) ∧ x.cell? ⟨w.heap.size, 1, none⟩ = some (.slice ab nb cb) ∧ x.cell? ⟨w5.heap.size, 0, none⟩ = some (.slice (some ⟨g2, 0, none⟩) np np) ∧ x.cell? ⟨w5.heap.size, 1, none⟩ = some (.slice (some ⟨h2, 0, none⟩) nb nb) ∧ Below w8.heap.size w8 x)) := hidP fun x h =>
          ⟨(h.cell lpL_w8).trans lp0_w8, (h.cell lpL_w8).trans lp1_w8, (h.cell x0L_w8).trans x00_w8, (h.cell x0L_w8).trans x01_w8, h⟩
        refine wp_region_held_drew (S := (fun x => x.cell? ⟨w.heap.size, 0, none⟩ = some (.slice ap np cp) ∧ x.cell? ⟨w.heap.size, 1, none⟩ = some (.slice ab nb cb) ∧ x.cell? ⟨w5.heap.size, 0, none⟩ = some (.slice (some ⟨g2, 0, none⟩) np np) ∧ x.cell? ⟨w5.heap.size, 1, none⟩ = some (.slice (some ⟨h2, 0, none⟩) nb nb) ∧ Below w8.heap.size w8 x)) (by kernel_rfl) ?_ (fun hHeld => ?_)
        · try dsimp only
          exact HSx.out _ ((Below.refl _ _).drew)
        refine wpAnyH_take (i := 0) (oi := ⟨some 47, _, _, _, _, _⟩) (v := ?_) rfl (by kernel_rfl) (by kernel_rfl) (by kernel_rfl) (fun _ _ _ h => h) (Or.inl ⟨by rfl, ?_⟩) (by assumption) ?_
        rotate_left
        · intro w hSw
          try dsimp only at hSw
          go_simp
          try with_reducible rfl
        simp only [Act.put, List.setIfInBounds_toArray, List.set_cons_zero, List.set_cons_succ]
        refine wpAnyH_take (i := 1) (oi := ⟨some 48, _, _, _, _, _⟩) (v := ?_) rfl (by kernel_rfl) (by kernel_rfl) (by kernel_rfl) (fun _ _ _ h => h) (Or.inl ⟨by rfl, ?_⟩) (by assumption) ?_
        rotate_left
        · intro w hSw
          try dsimp only at hSw
          go_simp
          try with_reducible rfl
        simp only [Act.put, List.setIfInBounds_toArray, List.set_cons_zero, List.set_cons_succ]
        refine wpAnyH_ready (rs := [2]) (by kernel_rfl) (by simp) ?_
        refine AllReadyH.cons rfl (fun K hK => ?_) AllReadyH.nil
        go_simp
        go_wp2_with (first | (go_at_call 13; refine (HTo.out _ (acc_w8.out.trans ((hHeld.2.2.2.2).mono acc_w8.out.size))).mono ?_; rintro e w9 ⟨g3, h3, rfl, og3, oh3, gh3, hb9⟩; have b9 := (hHeld.2.2.2.2).trans (hb9.mono (hHeld.2.2.2.2).size)))
        refine hK.out _ _ ?_ (fun hHeld => ?_)
        · try dsimp only
          exact HSx.out _ b9
        clear hK K
        refine wpAnyH_ready (rs := [3]) (by kernel_rfl) (by simp) ?_
        refine AllReadyH.cons rfl (fun K hK => ?_) AllReadyH.nil
        go_simp
        go_wp2_with (first | (go_at_call 15; refine (HEq.out _ g2 h2 g3 h3 (RowG.later oG_w8.out.row (hHeld.2.2.2.2)) og3.row (RowG.later oH_w8.out.row (hHeld.2.2.2.2)) oh3.row).mono ?_; rintro e w10 ⟨rfl, hb10⟩; have b10 := (hHeld.2.2.2.2).trans (hb10.mono (hHeld.2.2.2.2).size)))
        refine hK.out _ _ ?_ (fun hHeld => ?_)
        · try dsimp only
          exact HSx.out _ b10
        clear hK K
        refine wpAnyH_take (i := 4) (oi := ⟨some 51, _, _, _, _, _⟩) (v := ?_) rfl (by kernel_rfl) (by kernel_rfl) (by kernel_rfl) (fun _ _ _ h => h) (Or.inl ⟨by rfl, ?_⟩) (by assumption) ?_
        rotate_left
        · intro w hSw
          try dsimp only at hSw
          go_simp
          try with_reducible rfl
        simp only [Act.put, List.setIfInBounds_toArray, List.set_cons_zero, List.set_cons_succ]
        have HE := hidP (hHeld.2.2.2.2)
        refine wpAnyH_done (by kernel_rfl) ?_ _
        clear hHeld
        have hb10 := HE.out
        have lp0_w10 := (hb10.cell lpL_w8).trans lp0_w8
        have lp1_w10 := (hb10.cell lpL_w8).trans lp1_w8
        have lpL_w10 : w.heap.size < w10.heap.size := Nat.lt_of_lt_of_le lpL_w8 hb10.size
        have lq0_w10 := (hb10.cell lqL_w8).trans lq0_w8
        have lq1_w10 := (hb10.cell lqL_w8).trans lq1_w8
        have lq2_w10 := (hb10.cell lqL_w8).trans lq2_w8
        have lq3_w10 := (hb10.cell lqL_w8).trans lq3_w8
        have lq4_w10 := (hb10.cell lqL_w8).trans lq4_w8
        have lqL_w10 : w.heap.size + 1 < w10.heap.size := Nat.lt_of_lt_of_le lqL_w8 hb10.size
        have q0_w10 := (hb10.cell qL_w8).trans q0_w8
        have q1_w10 := (hb10.cell qL_w8).trans q1_w8
        have qL_w10 : p1 < w10.heap.size := Nat.lt_of_lt_of_le qL_w8 hb10.size
        have x00_w10 := (hb10.cell x0L_w8).trans x00_w8
        have x01_w10 := (hb10.cell x0L_w8).trans x01_w8
        have x0L_w10 : w5.heap.size < w10.heap.size := Nat.lt_of_lt_of_le x0L_w8 hb10.size
        have r0_w10 := (hb10.cell rL_w8).trans r0_w8
        have r1_w10 := (hb10.cell rL_w8).trans r1_w8
        have rL_w10 : p2 < w10.heap.size := Nat.lt_of_lt_of_le rL_w8 hb10.size
        have oS_w10 := hidP (OwnG.later oS_w8.out hb10)
        have oT_w10 := hidP (OwnG.later oT_w8.out hb10)
        have oG_w10 := hidP (OwnG.later oG_w8.out hb10)
        have oH_w10 := hidP (OwnG.later oH_w8.out hb10)
        have oI_w10 := hidP (OwnG.later oI_w8.out hb10)
        have oJ_w10 := hidP (OwnG.later oJ_w8.out hb10)
        have acc_w10 := hidP (acc_w8.out.trans (hb10.mono acc_w8.out.size))
        have sz_w10 := hb10.size
        clear lp0_w8 lp1_w8 lpL_w8 lq0_w8 lq1_w8 lq2_w8 lq3_w8 lq4_w8 lqL_w8 q0_w8 q1_w8 qL_w8 x00_w8 x01_w8 x0L_w8 r0_w8 r1_w8 rL_w8 oS_w8 oT_w8 oG_w8 oH_w8 oI_w8 oJ_w8 hb10 acc_w8 og3 oh3 gh3 hb9 b9 b10 HSx HE
        go_wp2_with fail
        refine (HMk.out w10 g2 h2 _ oG_w10.out oH_w10.out (fun j h1 h2' => by simp [Value.ownBlock] at h1 h2'; omega)).mono ?_
        rintro e w11 ⟨rfl, om1, om2, wm, hgm, hgn⟩
        have lS := lg2.1
        have lS' := lh2.1
        have lS2 := lg2.2
        have lS3 := lh2.2
        clear x00_w10 x01_w10 x0L_w10
        clear oG_w10 oH_w10
        have lp0_wm := (World.cell?_of_block (hgm.block (w.heap.size) lpL_w10 (fun he => by simp [Value.ownBlock] at he; omega))).trans lp0_w10
        have lp1_wm := (World.cell?_of_block (hgm.block (w.heap.size) lpL_w10 (fun he => by simp [Value.ownBlock] at he; omega))).trans lp1_w10
        have lpL_wm : w.heap.size < wm.heap.size := Nat.lt_of_lt_of_le lpL_w10 hgm.size
        have lq0_wm := (World.cell?_of_block (hgm.block (w.heap.size + 1) lqL_w10 (fun he => by simp [Value.ownBlock] at he; omega))).trans lq0_w10
        have lq1_wm := (World.cell?_of_block (hgm.block (w.heap.size + 1) lqL_w10 (fun he => by simp [Value.ownBlock] at he; omega))).trans lq1_w10
        have lq2_wm := (World.cell?_of_block (hgm.block (w.heap.size + 1) lqL_w10 (fun he => by simp [Value.ownBlock] at he; omega))).trans lq2_w10
        have lq3_wm := (World.cell?_of_block (hgm.block (w.heap.size + 1) lqL_w10 (fun he => by simp [Value.ownBlock] at he; omega))).trans lq3_w10
        have lq4_wm := (World.cell?_of_block (hgm.block (w.heap.size + 1) lqL_w10 (fun he => by simp [Value.ownBlock] at he; omega))).trans lq4_w10
        have lqL_wm : w.heap.size + 1 < wm.heap.size := Nat.lt_of_lt_of_le lqL_w10 hgm.size
        have q0_wm := (World.cell?_of_block (hgm.block (p1) qL_w10 (fun he => by simp [Value.ownBlock] at he; omega))).trans q0_w10
        have q1_wm := (World.cell?_of_block (hgm.block (p1) qL_w10 (fun he => by simp [Value.ownBlock] at he; omega))).trans q1_w10
        have qL_wm : p1 < wm.heap.size := Nat.lt_of_lt_of_le qL_w10 hgm.size
        have r0_wm := (World.cell?_of_block (hgm.block (p2) rL_w10 (fun he => by simp [Value.ownBlock] at he; omega))).trans r0_w10
        have r1_wm := (World.cell?_of_block (hgm.block (p2) rL_w10 (fun he => by simp [Value.ownBlock] at he; omega))).trans r1_w10
        have rL_wm : p2 < wm.heap.size := Nat.lt_of_lt_of_le rL_w10 hgm.size
        have oS_wm := hidP (OwnG.grown oS_w10.out hgm (fun j hj he => by have hl := hSB.out j hj; simp [Value.ownBlock] at he; omega))
        have oT_wm := hidP (OwnG.grown oT_w10.out hgm (fun j hj he => by have hl := hTB.out j hj; simp [Value.ownBlock] at he; omega))
        have oI_wm := hidP (OwnG.grown oI_w10.out hgm (fun j hj he => by have hl := OwnG.lt oI_w10.out j hj; simp [Value.ownBlock] at he; omega))
        have oJ_wm := hidP (OwnG.grown oJ_w10.out hgm (fun j hj he => by have hl := OwnG.lt oJ_w10.out j hj; simp [Value.ownBlock] at he; omega))
        have acc_wm := hidP (acc_w10.out.grown hgm acc_w10.out.size (fun j he => by simp [Value.ownBlock] at he; omega))
        have sz_wm := hgm.size
        clear lp0_w10 lp1_w10 lpL_w10 lq0_w10 lq1_w10 lq2_w10 lq3_w10 lq4_w10 lqL_w10 q0_w10 q1_w10 qL_w10 r0_w10 r1_w10 rL_w10 oS_w10 oT_w10 oI_w10 oJ_w10 hgm acc_w10
        have lp0_w11 := (World.cell?_of_block (hgn.block (w.heap.size) lpL_wm (fun he => by simp [Value.ownBlock] at he; omega))).trans lp0_wm
        have lp1_w11 := (World.cell?_of_block (hgn.block (w.heap.size) lpL_wm (fun he => by simp [Value.ownBlock] at he; omega))).trans lp1_wm
        have lpL_w11 : w.heap.size < w11.heap.size := Nat.lt_of_lt_of_le lpL_wm hgn.size
        have lq0_w11 := (World.cell?_of_block (hgn.block (w.heap.size + 1) lqL_wm (fun he => by simp [Value.ownBlock] at he; omega))).trans lq0_wm
        have lq1_w11 := (World.cell?_of_block (hgn.block (w.heap.size + 1) lqL_wm (fun he => by simp [Value.ownBlock] at he; omega))).trans lq1_wm
        have lq2_w11 := (World.cell?_of_block (hgn.block (w.heap.size + 1) lqL_wm (fun he => by simp [Value.ownBlock] at he; omega))).trans lq2_wm
        have lq3_w11 := (World.cell?_of_block (hgn.block (w.heap.size + 1) lqL_wm (fun he => by simp [Value.ownBlock] at he; omega))).trans lq3_wm
        have lq4_w11 := (World.cell?_of_block (hgn.block (w.heap.size + 1) lqL_wm (fun he => by simp [Value.ownBlock] at he; omega))).trans lq4_wm
        have lqL_w11 : w.heap.size + 1 < w11.heap.size := Nat.lt_of_lt_of_le lqL_wm hgn.size
        have q0_w11 := (World.cell?_of_block (hgn.block (p1) qL_wm (fun he => by simp [Value.ownBlock] at he; omega))).trans q0_wm
        have q1_w11 := (World.cell?_of_block (hgn.block (p1) qL_wm (fun he => by simp [Value.ownBlock] at he; omega))).trans q1_wm
        have qL_w11 : p1 < w11.heap.size := Nat.lt_of_lt_of_le qL_wm hgn.size
        have r0_w11 := (World.cell?_of_block (hgn.block (p2) rL_wm (fun he => by simp [Value.ownBlock] at he; omega))).trans r0_wm
        have r1_w11 := (World.cell?_of_block (hgn.block (p2) rL_wm (fun he => by simp [Value.ownBlock] at he; omega))).trans r1_wm
        have rL_w11 : p2 < w11.heap.size := Nat.lt_of_lt_of_le rL_wm hgn.size
        have oS_w11 := hidP (OwnG.grown oS_wm.out hgn (fun j hj he => by have hl := hSB.out j hj; simp [Value.ownBlock] at he; omega))
        have oT_w11 := hidP (OwnG.grown oT_wm.out hgn (fun j hj he => by have hl := hTB.out j hj; simp [Value.ownBlock] at he; omega))
        have oI_w11 := hidP (OwnG.grown oI_wm.out hgn (fun j hj he => by have hl := OwnG.lt oI_wm.out j hj; simp [Value.ownBlock] at he; omega))
        have oJ_w11 := hidP (OwnG.grown oJ_wm.out hgn (fun j hj he => by have hl := OwnG.lt oJ_wm.out j hj; simp [Value.ownBlock] at he; omega))
        have acc_w11 := hidP (acc_wm.out.grown hgn acc_wm.out.size (fun j he => by simp [Value.ownBlock] at he; omega))
        have sz_w11 := hgn.size
        clear lp0_wm lp1_wm lpL_wm lq0_wm lq1_wm lq2_wm lq3_wm lq4_wm lqL_wm q0_wm q1_wm qL_wm r0_wm r1_wm rL_wm oS_wm oT_wm oI_wm oJ_wm hgn om1 om2 acc_wm
        go_wp2_with fail
        refine (HEr.out _ a2 c2 b2 d2' a1 c1 b1 d1' oI_w11.out.row oS_w11.out.row oJ_w11.out.row oT_w11.out.row).mono ?_
        rintro e w12 ⟨rfl, hb_w12⟩
        have lp0_w12 := (hb_w12.cell lpL_w11).trans lp0_w11
        have lp1_w12 := (hb_w12.cell lpL_w11).trans lp1_w11
        have lpL_w12 : w.heap.size < w12.heap.size := Nat.lt_of_lt_of_le lpL_w11 hb_w12.size
        have lq0_w12 := (hb_w12.cell lqL_w11).trans lq0_w11
        have lq1_w12 := (hb_w12.cell lqL_w11).trans lq1_w11
        have lq2_w12 := (hb_w12.cell lqL_w11).trans lq2_w11
        have lq3_w12 := (hb_w12.cell lqL_w11).trans lq3_w11
        have lq4_w12 := (hb_w12.cell lqL_w11).trans lq4_w11
        have lqL_w12 : w.heap.size + 1 < w12.heap.size := Nat.lt_of_lt_of_le lqL_w11 hb_w12.size
        have q0_w12 := (hb_w12.cell qL_w11).trans q0_w11
        have q1_w12 := (hb_w12.cell qL_w11).trans q1_w11
        have qL_w12 : p1 < w12.heap.size := Nat.lt_of_lt_of_le qL_w11 hb_w12.size
        have r0_w12 := (hb_w12.cell rL_w11).trans r0_w11
        have r1_w12 := (hb_w12.cell rL_w11).trans r1_w11
        have rL_w12 : p2 < w12.heap.size := Nat.lt_of_lt_of_le rL_w11 hb_w12.size
        have oS_w12 := hidP (OwnG.later oS_w11.out hb_w12)
        have oT_w12 := hidP (OwnG.later oT_w11.out hb_w12)
        have oI_w12 := hidP (OwnG.later oI_w11.out hb_w12)
        have oJ_w12 := hidP (OwnG.later oJ_w11.out hb_w12)
        have acc_w12 := hidP (acc_w11.out.trans (hb_w12.mono acc_w11.out.size))
        have sz_w12 := hb_w12.size
        clear lp0_w11 lp1_w11 lpL_w11 lq0_w11 lq1_w11 lq2_w11 lq3_w11 lq4_w11 lqL_w11 q0_w11 q1_w11 qL_w11 r0_w11 r1_w11 rL_w11 oS_w11 oT_w11 oI_w11 oJ_w11 hb_w12 acc_w11
        go_wp2_with fail
        refine (HMr.out w12 a2 c2 b2 d2' _ oI_w12.out oJ_w12.out HNE.out).mono ?_
        rintro e w13 ⟨rfl, om3, om4, wn, hgi, hgj⟩
        have hlI := fun j hj => OwnG.lt oI_w12.out j hj
        have hlJ := fun j hj => OwnG.lt oJ_w12.out j hj
        have lp0_wn := (World.cell?_of_block (hgi.block (w.heap.size) lpL_w12 (fun he => by have hl := hlI _ he.symm; omega))).trans lp0_w12
        have lp1_wn := (World.cell?_of_block (hgi.block (w.heap.size) lpL_w12 (fun he => by have hl := hlI _ he.symm; omega))).trans lp1_w12
        have lpL_wn : w.heap.size < wn.heap.size := Nat.lt_of_lt_of_le lpL_w12 hgi.size
        have lq0_wn := (World.cell?_of_block (hgi.block (w.heap.size + 1) lqL_w12 (fun he => by have hl := hlI _ he.symm; omega))).trans lq0_w12
        have lq1_wn := (World.cell?_of_block (hgi.block (w.heap.size + 1) lqL_w12 (fun he => by have hl := hlI _ he.symm; omega))).trans lq1_w12
        have lq2_wn := (World.cell?_of_block (hgi.block (w.heap.size + 1) lqL_w12 (fun he => by have hl := hlI _ he.symm; omega))).trans lq2_w12
        have lq3_wn := (World.cell?_of_block (hgi.block (w.heap.size + 1) lqL_w12 (fun he => by have hl := hlI _ he.symm; omega))).trans lq3_w12
        have lq4_wn := (World.cell?_of_block (hgi.block (w.heap.size + 1) lqL_w12 (fun he => by have hl := hlI _ he.symm; omega))).trans lq4_w12
        have lqL_wn : w.heap.size + 1 < wn.heap.size := Nat.lt_of_lt_of_le lqL_w12 hgi.size
        have q0_wn := (World.cell?_of_block (hgi.block (p1) qL_w12 (fun he => by have hl := hlI _ he.symm; omega))).trans q0_w12
        have q1_wn := (World.cell?_of_block (hgi.block (p1) qL_w12 (fun he => by have hl := hlI _ he.symm; omega))).trans q1_w12
        have qL_wn : p1 < wn.heap.size := Nat.lt_of_lt_of_le qL_w12 hgi.size
        have r0_wn := (World.cell?_of_block (hgi.block (p2) rL_w12 (fun he => HNQ.out.1 _ he.symm rfl))).trans r0_w12
        have r1_wn := (World.cell?_of_block (hgi.block (p2) rL_w12 (fun he => HNQ.out.1 _ he.symm rfl))).trans r1_w12
        have rL_wn : p2 < wn.heap.size := Nat.lt_of_lt_of_le rL_w12 hgi.size
        have oS_wn := hidP (OwnG.grown oS_w12.out hgi (fun j hj he => by have hl := hSB.out j hj; have hl2 := hlI j he; omega))
        have oT_wn := hidP (OwnG.grown oT_w12.out hgi (fun j hj he => by have hl := hTB.out j hj; have hl2 := hlI j he; omega))
        have acc_wn := hidP (acc_w12.out.grown hgi acc_w12.out.size (fun j he => by have hl := hlI j he; omega))
        have sz_wn := hgi.size
        clear lp0_w12 lp1_w12 lpL_w12 lq0_w12 lq1_w12 lq2_w12 lq3_w12 lq4_w12 lqL_w12 q0_w12 q1_w12 qL_w12 r0_w12 r1_w12 rL_w12 oS_w12 oT_w12 hgi acc_w12
        have lp0_w13 := (World.cell?_of_block (hgj.block (w.heap.size) lpL_wn (fun he => by have hl := hlJ _ he.symm; omega))).trans lp0_wn
        have lp1_w13 := (World.cell?_of_block (hgj.block (w.heap.size) lpL_wn (fun he => by have hl := hlJ _ he.symm; omega))).trans lp1_wn
        have lpL_w13 : w.heap.size < w13.heap.size := Nat.lt_of_lt_of_le lpL_wn hgj.size
        have lq0_w13 := (World.cell?_of_block (hgj.block (w.heap.size + 1) lqL_wn (fun he => by have hl := hlJ _ he.symm; omega))).trans lq0_wn
        have lq1_w13 := (World.cell?_of_block (hgj.block (w.heap.size + 1) lqL_wn (fun he => by have hl := hlJ _ he.symm; omega))).trans lq1_wn
        have lq2_w13 := (World.cell?_of_block (hgj.block (w.heap.size + 1) lqL_wn (fun he => by have hl := hlJ _ he.symm; omega))).trans lq2_wn
        have lq3_w13 := (World.cell?_of_block (hgj.block (w.heap.size + 1) lqL_wn (fun he => by have hl := hlJ _ he.symm; omega))).trans lq3_wn
        have lq4_w13 := (World.cell?_of_block (hgj.block (w.heap.size + 1) lqL_wn (fun he => by have hl := hlJ _ he.symm; omega))).trans lq4_wn
        have lqL_w13 : w.heap.size + 1 < w13.heap.size := Nat.lt_of_lt_of_le lqL_wn hgj.size
        have q0_w13 := (World.cell?_of_block (hgj.block (p1) qL_wn (fun he => by have hl := hlJ _ he.symm; omega))).trans q0_wn
        have q1_w13 := (World.cell?_of_block (hgj.block (p1) qL_wn (fun he => by have hl := hlJ _ he.symm; omega))).trans q1_wn
        have qL_w13 : p1 < w13.heap.size := Nat.lt_of_lt_of_le qL_wn hgj.size
        have r0_w13 := (World.cell?_of_block (hgj.block (p2) rL_wn (fun he => HNQ.out.2 _ he.symm rfl))).trans r0_wn
        have r1_w13 := (World.cell?_of_block (hgj.block (p2) rL_wn (fun he => HNQ.out.2 _ he.symm rfl))).trans r1_wn
        have rL_w13 : p2 < w13.heap.size := Nat.lt_of_lt_of_le rL_wn hgj.size
        have oS_w13 := hidP (OwnG.grown oS_wn.out hgj (fun j hj he => by have hl := hSB.out j hj; have hl2 := hlJ j he; omega))
        have oT_w13 := hidP (OwnG.grown oT_wn.out hgj (fun j hj he => by have hl := hTB.out j hj; have hl2 := hlJ j he; omega))
        have acc_w13 := hidP (acc_wn.out.grown hgj acc_wn.out.size (fun j he => by have hl := hlJ j he; omega))
        have sz_w13 := hgj.size
        have oI_w13 := hidP om3
        have oJ_w13 := hidP om4
        clear lp0_wn lp1_wn lpL_wn lq0_wn lq1_wn lq2_wn lq3_wn lq4_wn lqL_wn q0_wn q1_wn qL_wn r0_wn r1_wn rL_wn oS_wn oT_wn hgj om3 om4 acc_wn hlI hlJ oI_w12 oJ_w12
        go_wp2_with fail
        refine (HHd.out _ a2 c2 b2 d2' oI_w13.out.row oJ_w13.out.row).mono ?_
        rintro e w14 ⟨rfl, hb14⟩
        have lp0_w14 := (hb14.cell lpL_w13).trans lp0_w13
        have lp1_w14 := (hb14.cell lpL_w13).trans lp1_w13
        have lpL_w14 : w.heap.size < w14.heap.size := Nat.lt_of_lt_of_le lpL_w13 hb14.size
        have lq0_w14 := (hb14.cell lqL_w13).trans lq0_w13
        have lq1_w14 := (hb14.cell lqL_w13).trans lq1_w13
        have lq2_w14 := (hb14.cell lqL_w13).trans lq2_w13
        have lq3_w14 := (hb14.cell lqL_w13).trans lq3_w13
        have lq4_w14 := (hb14.cell lqL_w13).trans lq4_w13
        have lqL_w14 : w.heap.size + 1 < w14.heap.size := Nat.lt_of_lt_of_le lqL_w13 hb14.size
        have q0_w14 := (hb14.cell qL_w13).trans q0_w13
        have q1_w14 := (hb14.cell qL_w13).trans q1_w13
        have qL_w14 : p1 < w14.heap.size := Nat.lt_of_lt_of_le qL_w13 hb14.size
        have r0_w14 := (hb14.cell rL_w13).trans r0_w13
        have r1_w14 := (hb14.cell rL_w13).trans r1_w13
        have rL_w14 : p2 < w14.heap.size := Nat.lt_of_lt_of_le rL_w13 hb14.size
        have oS_w14 := hidP (OwnG.later oS_w13.out hb14)
        have oT_w14 := hidP (OwnG.later oT_w13.out hb14)
        have oI_w14 := hidP (OwnG.later oI_w13.out hb14)
        have oJ_w14 := hidP (OwnG.later oJ_w13.out hb14)
        have acc_w14 := hidP (acc_w13.out.trans (hb14.mono acc_w13.out.size))
        have sz_w14 := hb14.size
        clear lp0_w13 lp1_w13 lpL_w13 lq0_w13 lq1_w13 lq2_w13 lq3_w13 lq4_w13 lqL_w13 q0_w13 q1_w13 qL_w13 r0_w13 r1_w13 rL_w13 oS_w13 oT_w13 oI_w13 oJ_w13 hb14 acc_w13
        go_upto_region 24 with fail
        go_cut [14, 15] (fun t14 t15 X => ∃ (p : Nat) (a : Option Addr) (c : Nat) (b : Option Addr) (d : Nat), t14 = .pointer (some ⟨p, 0, none⟩) ∧ t15 = .int .i64 C ∧ w14.heap.size ≤ p ∧ p < X.heap.size ∧ X.cell? ⟨p, 0, none⟩ = some (.slice a NP c) ∧ X.cell? ⟨p, 1, none⟩ = some (.slice b NB d) ∧ OwnG KPl 48 X w14.heap.size (.slice a NP c) PS ∧ OwnG KBk 56 X w14.heap.size (.slice b NB d) BS ∧ (∀ k, (Value.slice a NP c).ownBlock = some k → (Value.slice b NB d).ownBlock ≠ some k) ∧ (∀ k, (Value.slice a NP c).ownBlock = some k → k ≠ p) ∧ (∀ k, (Value.slice b NB d).ownBlock = some k → k ≠ p) ∧ Below w14.heap.size w14 X)
        case first =>
          have HSx : Hid (∀ x, Below w14.heap.size w14 x → (x.cell? ⟨w.heap.size, 0, none⟩ = some (.slice ap np cp) ∧ x.cell? ⟨w.heap.size, 1, none⟩ = some (.slice ab nb cb) ∧ x.cell? ⟨w.heap.size + 1, 0, none⟩ = some (.bool pq.p.s) ∧ x.cell? ⟨w.heap.size + 1, 1, none⟩ = some (.int .i64 pq.p.H.toInt) ∧ x.cell? ⟨w.heap.size + 1, 2, none⟩ = some (.int .i64 pq.p.L.toInt) ∧ x.cell? ⟨w.heap.size + 1, 3, none⟩ = some (.int .i64 pq.p.b) ∧ x.cell? ⟨w.heap.size + 1, 4, none⟩ = some (.int .i64 pq.n) ∧ Below w14.heap.size w14 x)) := hidP fun x h =>
            ⟨(h.cell lpL_w14).trans lp0_w14, (h.cell lpL_w14).trans lp1_w14, (h.cell lqL_w14).trans lq0_w14, (h.cell lqL_w14).trans lq1_w14, (h.cell lqL_w14).trans lq2_w14, (h.cell lqL_w14).trans lq3_w14, (h.cell lqL_w14).trans lq4_w14, h⟩
          refine wp_region_held_drew (S := (fun x => x.cell? ⟨w.heap.size, 0, none⟩ = some (.slice ap np cp) ∧ x.cell? ⟨w.heap.size, 1, none⟩ = some (.slice ab nb cb) ∧ x.cell? ⟨w.heap.size + 1, 0, none⟩ = some (.bool pq.p.s) ∧ x.cell? ⟨w.heap.size + 1, 1, none⟩ = some (.int .i64 pq.p.H.toInt) ∧ x.cell? ⟨w.heap.size + 1, 2, none⟩ = some (.int .i64 pq.p.L.toInt) ∧ x.cell? ⟨w.heap.size + 1, 3, none⟩ = some (.int .i64 pq.p.b) ∧ x.cell? ⟨w.heap.size + 1, 4, none⟩ = some (.int .i64 pq.n) ∧ Below w14.heap.size w14 x)) (by kernel_rfl) ?_ (fun hHeld => ?_)
          · try dsimp only
            exact HSx.out _ (Below.refl _ _).drew
          refine wpAnyH_take (i := 0) (oi := ⟨some 80, _, _, _, _, _⟩) (v := ?_) rfl (by kernel_rfl) (by kernel_rfl) (by kernel_rfl) (fun _ _ _ h => h) (Or.inl ⟨by rfl, ?_⟩) (by assumption) ?_
          rotate_left
          · intro w hSw
            try dsimp only at hSw
            go_simp
            try with_reducible rfl
          simp only [Act.put, List.setIfInBounds_toArray, List.set_cons_zero, List.set_cons_succ]
          refine wpAnyH_take (i := 2) (oi := ⟨some 82, _, _, _, _, _⟩) (v := ?_) rfl (by kernel_rfl) (by kernel_rfl) (by kernel_rfl) (fun _ _ _ h => h) (Or.inl ⟨by rfl, ?_⟩) (by assumption) ?_
          rotate_left
          · intro w hSw
            try dsimp only at hSw
            go_simp
            try with_reducible rfl
          simp only [Act.put, List.setIfInBounds_toArray, List.set_cons_zero, List.set_cons_succ]
          refine wpAnyH_ready (rs := [1, 8]) (by kernel_rfl) (by simp) ?_
          refine AllReadyH.cons rfl (fun K hK => ?_) (AllReadyH.cons rfl (fun K hK => ?_) AllReadyH.nil)
          · go_simp
            go_wp2_with (first | (go_at_call 13; refine (HTo.out _ (acc_w14.out.trans ((hHeld.2.2.2.2.2.2.2).mono acc_w14.out.size))).mono ?_; rintro e w15 ⟨g15, h15, rfl, og15, oh15, gh15, hb15⟩; have b15 := (hHeld.2.2.2.2.2.2.2).trans (hb15.mono (hHeld.2.2.2.2.2.2.2).size)))
            refine hK.out _ _ ?_ (fun hHeld => ?_)
            · try dsimp only
              exact HSx.out _ b15
            clear hK K
            refine wpAnyH_ready (rs := [3, 8]) (by kernel_rfl) (by simp) ?_
            refine AllReadyH.cons rfl (fun K hK => ?_) (AllReadyH.cons rfl (fun K hK => ?_) AllReadyH.nil)
            · go_simp
              go_wp2_with (first | (go_at_call 17; refine (HTp.out _).mono ?_; rintro e w16 ⟨rfl, hb16⟩; have b16 := (hHeld.2.2.2.2.2.2.2).trans (hb16.mono (hHeld.2.2.2.2.2.2.2).size)))
              refine hK.out _ _ ?_ (fun hHeld => ?_)
              · try dsimp only
                exact HSx.out _ b16
              clear hK K
              refine wpAnyH_ready (rs := [4, 8]) (by kernel_rfl) (by simp) ?_
              refine AllReadyH.cons rfl (fun K hK => ?_) (AllReadyH.cons rfl (fun K hK => ?_) AllReadyH.nil)
              · go_simp
                go_wp2_with (first | (go_at_call 18; refine (HIm.out g15 h15 _ (RowG.later og15.row hb16) (RowG.later oh15.row hb16)).mono ?_; rintro e w17 ⟨ra17, rc17, rb17, rd17, rfl, op17, ob17, ne17, hb17⟩; have b17 := (hHeld.2.2.2.2.2.2.2).trans (hb17.mono (hHeld.2.2.2.2.2.2.2).size)))
                refine hK.out _ _ ?_ (fun hHeld => ?_)
                · try dsimp only
                  exact HSx.out _ b17
                clear hK K
                refine wpAnyH_take (i := 5) (oi := ⟨some 79, _, _, _, _, _⟩) (v := ?_) rfl (by kernel_rfl) (by kernel_rfl) (by kernel_rfl) (fun _ _ _ h => h) (Or.inl ⟨by rfl, ?_⟩) (by assumption) ?_
                rotate_left
                · intro w hSw
                  try dsimp only at hSw
                  go_simp
                  try with_reducible rfl
                simp only [Act.put, List.setIfInBounds_toArray, List.set_cons_zero, List.set_cons_succ]
                refine wpAnyH_take (i := 6) (oi := ⟨some 85, _, _, _, _, _⟩) (v := ?_) rfl (by kernel_rfl) (by kernel_rfl) (by kernel_rfl) (fun _ _ _ h => h) (Or.inl ⟨by rfl, ?_⟩) (by assumption) ?_
                rotate_left
                · intro w hSw
                  try dsimp only at hSw
                  go_simp
                  try with_reducible rfl
                simp only [Act.put, List.setIfInBounds_toArray, List.set_cons_zero, List.set_cons_succ]
                refine wpAnyH_take (i := 7) (oi := ⟨some 86, _, _, _, _, _⟩) (v := ?_) rfl (by kernel_rfl) (by kernel_rfl) (by kernel_rfl) (fun _ _ _ h => h) (Or.inl ⟨by rfl, ?_⟩) (by assumption) ?_
                rotate_left
                · intro w hSw
                  try dsimp only at hSw
                  go_simp
                  try with_reducible rfl
                simp only [Act.put, List.setIfInBounds_toArray, List.set_cons_zero, List.set_cons_succ]
                refine wpAnyH_ready (rs := [8]) (by kernel_rfl) (by simp) ?_
                refine AllReadyH.cons rfl (fun K hK => ?_) AllReadyH.nil
                go_simp
                obtain ⟨z18x0, z18x1⟩ := box2 (u := .slice none 0 0) (v := .slice none 0 0) w17 32
                have z18F := frzZ2 w17 32
                have z18B := alloc_below w17 (.cells #[.slice none 0 0, .slice none 0 0] 32)
                have z18L := alloc_lt w17 (.cells #[.slice none 0 0, .slice none 0 0] 32)
                have z18M := (hHeld.2.2.2.2.2.2.2).trans (z18B.mono (hHeld.2.2.2.2.2.2.2).size)
                generalize w17.alloc (.cells #[.slice none 0 0, .slice none 0 0] 32) = w18 at *
                refine hK.out _ _ ?_ (fun hHeld => ?_)
                · try dsimp only
                  exact HSx.out _ z18M
                clear hK K
                have bl18 : w14.heap.size ≤ w17.heap.size := b17.size
                refine wpAnyH_ready (rs := [9]) (by kernel_rfl) (by simp) ?_
                refine AllReadyH.cons rfl (fun K hK => ?_) AllReadyH.nil
                go_simp
                refine hK.out _ _ ?_ (fun hHeld => ?_)
                · try dsimp only
                  refine HSx.out _ ?_
                  repeat (with_reducible refine Below.setCell ?_ ?_ _; rotate_left; (focus (exact (bl18))))
                  exact (hHeld.2.2.2.2.2.2.2)
                clear hK K
                refine wpAnyH_take (i := 10) (oi := ⟨some 15, _, _, _, _, _⟩) (v := ?_) rfl (by kernel_rfl) (by kernel_rfl) (by kernel_rfl) (fun _ _ _ h => h) (Or.inl ⟨by rfl, ?_⟩) (by assumption) ?_
                rotate_left
                · intro w hSw
                  try dsimp only at hSw
                  go_simp
                  try with_reducible rfl
                simp only [Act.put, List.setIfInBounds_toArray, List.set_cons_zero, List.set_cons_succ]
                have HE := hidP (hHeld.2.2.2.2.2.2.2)
                refine wpAnyH_done (by kernel_rfl) ?_ _
                clear hHeld
                have lo := fun k hk => OwnG.lt op17 k hk
                have lo' := fun k hk => OwnG.lt ob17 k hk
                have lb : w14.heap.size ≤ w16.heap.size := by first | exact b16.size | exact z16M.size
                have HF := hidP (And.intro (OwnG.mono (OwnG.later op17 z18B) lb) (And.intro (OwnG.mono (OwnG.later ob17 z18B) lb) ne17))
                have HLo := hidP (And.intro lo lo')
                clear lo lo' op17 ob17 ne17
                go_wp2_with fail
                go_meet
                refine ⟨_, ra17, rc17, rb17, rd17, rfl, rfl, bl18, ?_, ?_, ?_, OwnG.put2 HF.out.1 (fun k hk => by have := HLo.out.1 k hk; omega), OwnG.put2 HF.out.2.1 (fun k hk => by have := HLo.out.2 k hk; omega), HF.out.2.2, (fun k hk => by have := HLo.out.1 k hk; omega), (fun k hk => by have := HLo.out.2 k hk; omega), HE.out⟩
                · simp; exact z18L
                all_goals (simp [go_sem, z18x0, z18x1])
              · go_simp
                obtain ⟨z17x0, z17x1⟩ := box2 (u := .slice none 0 0) (v := .slice none 0 0) w16 32
                have z17F := frzZ2 w16 32
                have z17B := alloc_below w16 (.cells #[.slice none 0 0, .slice none 0 0] 32)
                have z17L := alloc_lt w16 (.cells #[.slice none 0 0, .slice none 0 0] 32)
                have z17M := (hHeld.2.2.2.2.2.2.2).trans (z17B.mono (hHeld.2.2.2.2.2.2.2).size)
                generalize w16.alloc (.cells #[.slice none 0 0, .slice none 0 0] 32) = w17 at *
                refine hK.out _ _ ?_ (fun hHeld => ?_)
                · try dsimp only
                  exact HSx.out _ z17M
                clear hK K
                have bl17 : w14.heap.size ≤ w16.heap.size := b16.size
                refine wpAnyH_ready (rs := [4]) (by kernel_rfl) (by simp) ?_
                refine AllReadyH.cons rfl (fun K hK => ?_) AllReadyH.nil
                go_simp
                go_wp2_with (first | (go_at_call 18; refine (HIm.out g15 h15 _ (RowG.later (RowG.later og15.row hb16) z17B) (RowG.later (RowG.later oh15.row hb16) z17B)).mono ?_; rintro e w18 ⟨ra18, rc18, rb18, rd18, rfl, op18, ob18, ne18, hb18⟩; have b18 := (hHeld.2.2.2.2.2.2.2).trans (hb18.mono (hHeld.2.2.2.2.2.2.2).size)))
                refine hK.out _ _ ?_ (fun hHeld => ?_)
                · try dsimp only
                  exact HSx.out _ b18
                clear hK K
                have z18x0 := (hb18.cell z17L).trans z17x0
                have z18x1 := (hb18.cell z17L).trans z17x1
                have z18F : ∀ o, w18.frozen? ⟨w16.heap.size, o, none⟩ = false := fun o => (hb18.frozen z17L).trans (z17F o)
                have z18L : w16.heap.size < w18.heap.size := Nat.lt_of_lt_of_le z17L hb18.size
                clear z17x0 z17x1 z17F
                refine wpAnyH_take (i := 5) (oi := ⟨some 79, _, _, _, _, _⟩) (v := ?_) rfl (by kernel_rfl) (by kernel_rfl) (by kernel_rfl) (fun _ _ _ h => h) (Or.inl ⟨by rfl, ?_⟩) (by assumption) ?_
                rotate_left
                · intro w hSw
                  try dsimp only at hSw
                  go_simp
                  try with_reducible rfl
                simp only [Act.put, List.setIfInBounds_toArray, List.set_cons_zero, List.set_cons_succ]
                refine wpAnyH_take (i := 6) (oi := ⟨some 85, _, _, _, _, _⟩) (v := ?_) rfl (by kernel_rfl) (by kernel_rfl) (by kernel_rfl) (fun _ _ _ h => h) (Or.inl ⟨by rfl, ?_⟩) (by assumption) ?_
                rotate_left
                · intro w hSw
                  try dsimp only at hSw
                  go_simp
                  try with_reducible rfl
                simp only [Act.put, List.setIfInBounds_toArray, List.set_cons_zero, List.set_cons_succ]
                refine wpAnyH_take (i := 7) (oi := ⟨some 86, _, _, _, _, _⟩) (v := ?_) rfl (by kernel_rfl) (by kernel_rfl) (by kernel_rfl) (fun _ _ _ h => h) (Or.inl ⟨by rfl, ?_⟩) (by assumption) ?_
                rotate_left
                · intro w hSw
                  try dsimp only at hSw
                  go_simp
                  try with_reducible rfl
                simp only [Act.put, List.setIfInBounds_toArray, List.set_cons_zero, List.set_cons_succ]
                refine wpAnyH_ready (rs := [9]) (by kernel_rfl) (by simp) ?_
                refine AllReadyH.cons rfl (fun K hK => ?_) AllReadyH.nil
                go_simp
                refine hK.out _ _ ?_ (fun hHeld => ?_)
                · try dsimp only
                  refine HSx.out _ ?_
                  repeat (with_reducible refine Below.setCell ?_ ?_ _; rotate_left; (focus (exact (bl17))))
                  exact (hHeld.2.2.2.2.2.2.2)
                clear hK K
                refine wpAnyH_take (i := 10) (oi := ⟨some 15, _, _, _, _, _⟩) (v := ?_) rfl (by kernel_rfl) (by kernel_rfl) (by kernel_rfl) (fun _ _ _ h => h) (Or.inl ⟨by rfl, ?_⟩) (by assumption) ?_
                rotate_left
                · intro w hSw
                  try dsimp only at hSw
                  go_simp
                  try with_reducible rfl
                simp only [Act.put, List.setIfInBounds_toArray, List.set_cons_zero, List.set_cons_succ]
                have HE := hidP (hHeld.2.2.2.2.2.2.2)
                refine wpAnyH_done (by kernel_rfl) ?_ _
                clear hHeld
                have lo := fun k hk => OwnG.lt op18 k hk
                have lo' := fun k hk => OwnG.lt ob18 k hk
                have lb : w14.heap.size ≤ w17.heap.size := by first | exact b17.size | exact z17M.size
                have pl : w16.heap.size < w17.heap.size := z17L
                have HF := hidP (And.intro (OwnG.mono op18 lb) (And.intro (OwnG.mono ob18 lb) ne18))
                have HLo := hidP (And.intro lo lo')
                clear lo lo' op18 ob18 ne18
                go_wp2_with fail
                go_meet
                refine ⟨_, ra18, rc18, rb18, rd18, rfl, rfl, bl17, ?_, ?_, ?_, OwnG.put2 HF.out.1 (fun k hk => by have := HLo.out.1 k hk; omega), OwnG.put2 HF.out.2.1 (fun k hk => by have := HLo.out.2 k hk; omega), HF.out.2.2, (fun k hk => by have := HLo.out.1 k hk; omega), (fun k hk => by have := HLo.out.2 k hk; omega), HE.out⟩
                · simp; exact z18L
                all_goals (simp [go_sem, z18x0, z18x1])
            · go_simp
              obtain ⟨z16x0, z16x1⟩ := box2 (u := .slice none 0 0) (v := .slice none 0 0) w15 32
              have z16F := frzZ2 w15 32
              have z16B := alloc_below w15 (.cells #[.slice none 0 0, .slice none 0 0] 32)
              have z16L := alloc_lt w15 (.cells #[.slice none 0 0, .slice none 0 0] 32)
              have z16M := (hHeld.2.2.2.2.2.2.2).trans (z16B.mono (hHeld.2.2.2.2.2.2.2).size)
              generalize w15.alloc (.cells #[.slice none 0 0, .slice none 0 0] 32) = w16 at *
              refine hK.out _ _ ?_ (fun hHeld => ?_)
              · try dsimp only
                exact HSx.out _ z16M
              clear hK K
              have bl16 : w14.heap.size ≤ w15.heap.size := b15.size
              refine wpAnyH_ready (rs := [3]) (by kernel_rfl) (by simp) ?_
              refine AllReadyH.cons rfl (fun K hK => ?_) AllReadyH.nil
              go_simp
              go_wp2_with (first | (go_at_call 17; refine (HTp.out _).mono ?_; rintro e w17 ⟨rfl, hb17⟩; have b17 := (hHeld.2.2.2.2.2.2.2).trans (hb17.mono (hHeld.2.2.2.2.2.2.2).size)))
              refine hK.out _ _ ?_ (fun hHeld => ?_)
              · try dsimp only
                exact HSx.out _ b17
              clear hK K
              have z17x0 := (hb17.cell z16L).trans z16x0
              have z17x1 := (hb17.cell z16L).trans z16x1
              have z17F : ∀ o, w17.frozen? ⟨w15.heap.size, o, none⟩ = false := fun o => (hb17.frozen z16L).trans (z16F o)
              have z17L : w15.heap.size < w17.heap.size := Nat.lt_of_lt_of_le z16L hb17.size
              clear z16x0 z16x1 z16F
              refine wpAnyH_ready (rs := [4]) (by kernel_rfl) (by simp) ?_
              refine AllReadyH.cons rfl (fun K hK => ?_) AllReadyH.nil
              go_simp
              go_wp2_with (first | (go_at_call 18; refine (HIm.out g15 h15 _ (RowG.later (RowG.later og15.row z16B) hb17) (RowG.later (RowG.later oh15.row z16B) hb17)).mono ?_; rintro e w18 ⟨ra18, rc18, rb18, rd18, rfl, op18, ob18, ne18, hb18⟩; have b18 := (hHeld.2.2.2.2.2.2.2).trans (hb18.mono (hHeld.2.2.2.2.2.2.2).size)))
              refine hK.out _ _ ?_ (fun hHeld => ?_)
              · try dsimp only
                exact HSx.out _ b18
              clear hK K
              have z18x0 := (hb18.cell z17L).trans z17x0
              have z18x1 := (hb18.cell z17L).trans z17x1
              have z18F : ∀ o, w18.frozen? ⟨w15.heap.size, o, none⟩ = false := fun o => (hb18.frozen z17L).trans (z17F o)
              have z18L : w15.heap.size < w18.heap.size := Nat.lt_of_lt_of_le z17L hb18.size
              clear z17x0 z17x1 z17F
              refine wpAnyH_take (i := 5) (oi := ⟨some 79, _, _, _, _, _⟩) (v := ?_) rfl (by kernel_rfl) (by kernel_rfl) (by kernel_rfl) (fun _ _ _ h => h) (Or.inl ⟨by rfl, ?_⟩) (by assumption) ?_
              rotate_left
              · intro w hSw
                try dsimp only at hSw
                go_simp
                try with_reducible rfl
              simp only [Act.put, List.setIfInBounds_toArray, List.set_cons_zero, List.set_cons_succ]
              refine wpAnyH_take (i := 6) (oi := ⟨some 85, _, _, _, _, _⟩) (v := ?_) rfl (by kernel_rfl) (by kernel_rfl) (by kernel_rfl) (fun _ _ _ h => h) (Or.inl ⟨by rfl, ?_⟩) (by assumption) ?_
              rotate_left
              · intro w hSw
                try dsimp only at hSw
                go_simp
                try with_reducible rfl
              simp only [Act.put, List.setIfInBounds_toArray, List.set_cons_zero, List.set_cons_succ]
              refine wpAnyH_take (i := 7) (oi := ⟨some 86, _, _, _, _, _⟩) (v := ?_) rfl (by kernel_rfl) (by kernel_rfl) (by kernel_rfl) (fun _ _ _ h => h) (Or.inl ⟨by rfl, ?_⟩) (by assumption) ?_
              rotate_left
              · intro w hSw
                try dsimp only at hSw
                go_simp
                try with_reducible rfl
              simp only [Act.put, List.setIfInBounds_toArray, List.set_cons_zero, List.set_cons_succ]
              refine wpAnyH_ready (rs := [9]) (by kernel_rfl) (by simp) ?_
              refine AllReadyH.cons rfl (fun K hK => ?_) AllReadyH.nil
              go_simp
              refine hK.out _ _ ?_ (fun hHeld => ?_)
              · try dsimp only
                refine HSx.out _ ?_
                repeat (with_reducible refine Below.setCell ?_ ?_ _; rotate_left; (focus (exact (bl16))))
                exact (hHeld.2.2.2.2.2.2.2)
              clear hK K
              refine wpAnyH_take (i := 10) (oi := ⟨some 15, _, _, _, _, _⟩) (v := ?_) rfl (by kernel_rfl) (by kernel_rfl) (by kernel_rfl) (fun _ _ _ h => h) (Or.inl ⟨by rfl, ?_⟩) (by assumption) ?_
              rotate_left
              · intro w hSw
                try dsimp only at hSw
                go_simp
                try with_reducible rfl
              simp only [Act.put, List.setIfInBounds_toArray, List.set_cons_zero, List.set_cons_succ]
              have HE := hidP (hHeld.2.2.2.2.2.2.2)
              refine wpAnyH_done (by kernel_rfl) ?_ _
              clear hHeld
              have lo := fun k hk => OwnG.lt op18 k hk
              have lo' := fun k hk => OwnG.lt ob18 k hk
              have lb : w14.heap.size ≤ w17.heap.size := by first | exact b17.size | exact z17M.size
              have pl : w15.heap.size < w17.heap.size := z17L
              have HF := hidP (And.intro (OwnG.mono op18 lb) (And.intro (OwnG.mono ob18 lb) ne18))
              have HLo := hidP (And.intro lo lo')
              clear lo lo' op18 ob18 ne18
              go_wp2_with fail
              go_meet
              refine ⟨_, ra18, rc18, rb18, rd18, rfl, rfl, bl16, ?_, ?_, ?_, OwnG.put2 HF.out.1 (fun k hk => by have := HLo.out.1 k hk; omega), OwnG.put2 HF.out.2.1 (fun k hk => by have := HLo.out.2 k hk; omega), HF.out.2.2, (fun k hk => by have := HLo.out.1 k hk; omega), (fun k hk => by have := HLo.out.2 k hk; omega), HE.out⟩
              · simp; exact z18L
              all_goals (simp [go_sem, z18x0, z18x1])
          · go_simp
            obtain ⟨z15x0, z15x1⟩ := box2 (u := .slice none 0 0) (v := .slice none 0 0) w14 32
            have z15F := frzZ2 w14 32
            have z15B := alloc_below w14 (.cells #[.slice none 0 0, .slice none 0 0] 32)
            have z15L := alloc_lt w14 (.cells #[.slice none 0 0, .slice none 0 0] 32)
            have z15x0 := (drew_cell (w14.alloc (.cells #[.slice none 0 0, .slice none 0 0] 32)) _).trans z15x0
            have z15x1 := (drew_cell (w14.alloc (.cells #[.slice none 0 0, .slice none 0 0] 32)) _).trans z15x1
            have z15F := fun o => (drew_frozen (w14.alloc (.cells #[.slice none 0 0, .slice none 0 0] 32)) _).trans (z15F o)
            have z15L := drew_size_lt z15L
            have z15M := z15B.drew
            generalize (w14.alloc (.cells #[.slice none 0 0, .slice none 0 0] 32)).drew = w15 at *
            refine hK.out _ _ ?_ (fun hHeld => ?_)
            · try dsimp only
              exact HSx.out _ z15M
            clear hK K
            have bl15 : w14.heap.size ≤ w14.heap.size := Nat.le_refl _
            refine wpAnyH_ready (rs := [1]) (by kernel_rfl) (by simp) ?_
            refine AllReadyH.cons rfl (fun K hK => ?_) AllReadyH.nil
            go_simp
            go_wp2_with (first | (go_at_call 13; refine (HTo.out _ (acc_w14.out.trans ((hHeld.2.2.2.2.2.2.2).mono acc_w14.out.size))).mono ?_; rintro e w16 ⟨g16, h16, rfl, og16, oh16, gh16, hb16⟩; have b16 := (hHeld.2.2.2.2.2.2.2).trans (hb16.mono (hHeld.2.2.2.2.2.2.2).size)))
            refine hK.out _ _ ?_ (fun hHeld => ?_)
            · try dsimp only
              exact HSx.out _ b16
            clear hK K
            have z16x0 := (hb16.cell z15L).trans z15x0
            have z16x1 := (hb16.cell z15L).trans z15x1
            have z16F : ∀ o, w16.frozen? ⟨w14.heap.size, o, none⟩ = false := fun o => (hb16.frozen z15L).trans (z15F o)
            have z16L : w14.heap.size < w16.heap.size := Nat.lt_of_lt_of_le z15L hb16.size
            clear z15x0 z15x1 z15F
            refine wpAnyH_ready (rs := [3]) (by kernel_rfl) (by simp) ?_
            refine AllReadyH.cons rfl (fun K hK => ?_) AllReadyH.nil
            go_simp
            go_wp2_with (first | (go_at_call 17; refine (HTp.out _).mono ?_; rintro e w17 ⟨rfl, hb17⟩; have b17 := (hHeld.2.2.2.2.2.2.2).trans (hb17.mono (hHeld.2.2.2.2.2.2.2).size)))
            refine hK.out _ _ ?_ (fun hHeld => ?_)
            · try dsimp only
              exact HSx.out _ b17
            clear hK K
            have z17x0 := (hb17.cell z16L).trans z16x0
            have z17x1 := (hb17.cell z16L).trans z16x1
            have z17F : ∀ o, w17.frozen? ⟨w14.heap.size, o, none⟩ = false := fun o => (hb17.frozen z16L).trans (z16F o)
            have z17L : w14.heap.size < w17.heap.size := Nat.lt_of_lt_of_le z16L hb17.size
            clear z16x0 z16x1 z16F
            refine wpAnyH_ready (rs := [4]) (by kernel_rfl) (by simp) ?_
            refine AllReadyH.cons rfl (fun K hK => ?_) AllReadyH.nil
            go_simp
            go_wp2_with (first | (go_at_call 18; refine (HIm.out g16 h16 _ (RowG.later og16.row hb17) (RowG.later oh16.row hb17)).mono ?_; rintro e w18 ⟨ra18, rc18, rb18, rd18, rfl, op18, ob18, ne18, hb18⟩; have b18 := (hHeld.2.2.2.2.2.2.2).trans (hb18.mono (hHeld.2.2.2.2.2.2.2).size)))
            refine hK.out _ _ ?_ (fun hHeld => ?_)
            · try dsimp only
              exact HSx.out _ b18
            clear hK K
            have z18x0 := (hb18.cell z17L).trans z17x0
            have z18x1 := (hb18.cell z17L).trans z17x1
            have z18F : ∀ o, w18.frozen? ⟨w14.heap.size, o, none⟩ = false := fun o => (hb18.frozen z17L).trans (z17F o)
            have z18L : w14.heap.size < w18.heap.size := Nat.lt_of_lt_of_le z17L hb18.size
            clear z17x0 z17x1 z17F
            refine wpAnyH_take (i := 5) (oi := ⟨some 79, _, _, _, _, _⟩) (v := ?_) rfl (by kernel_rfl) (by kernel_rfl) (by kernel_rfl) (fun _ _ _ h => h) (Or.inl ⟨by rfl, ?_⟩) (by assumption) ?_
            rotate_left
            · intro w hSw
              try dsimp only at hSw
              go_simp
              try with_reducible rfl
            simp only [Act.put, List.setIfInBounds_toArray, List.set_cons_zero, List.set_cons_succ]
            refine wpAnyH_take (i := 6) (oi := ⟨some 85, _, _, _, _, _⟩) (v := ?_) rfl (by kernel_rfl) (by kernel_rfl) (by kernel_rfl) (fun _ _ _ h => h) (Or.inl ⟨by rfl, ?_⟩) (by assumption) ?_
            rotate_left
            · intro w hSw
              try dsimp only at hSw
              go_simp
              try with_reducible rfl
            simp only [Act.put, List.setIfInBounds_toArray, List.set_cons_zero, List.set_cons_succ]
            refine wpAnyH_take (i := 7) (oi := ⟨some 86, _, _, _, _, _⟩) (v := ?_) rfl (by kernel_rfl) (by kernel_rfl) (by kernel_rfl) (fun _ _ _ h => h) (Or.inl ⟨by rfl, ?_⟩) (by assumption) ?_
            rotate_left
            · intro w hSw
              try dsimp only at hSw
              go_simp
              try with_reducible rfl
            simp only [Act.put, List.setIfInBounds_toArray, List.set_cons_zero, List.set_cons_succ]
            refine wpAnyH_ready (rs := [9]) (by kernel_rfl) (by simp) ?_
            refine AllReadyH.cons rfl (fun K hK => ?_) AllReadyH.nil
            go_simp
            refine hK.out _ _ ?_ (fun hHeld => ?_)
            · try dsimp only
              refine HSx.out _ ?_
              repeat (with_reducible refine Below.setCell ?_ ?_ _; rotate_left; (focus (exact (bl15))))
              exact (hHeld.2.2.2.2.2.2.2)
            clear hK K
            refine wpAnyH_take (i := 10) (oi := ⟨some 15, _, _, _, _, _⟩) (v := ?_) rfl (by kernel_rfl) (by kernel_rfl) (by kernel_rfl) (fun _ _ _ h => h) (Or.inl ⟨by rfl, ?_⟩) (by assumption) ?_
            rotate_left
            · intro w hSw
              try dsimp only at hSw
              go_simp
              try with_reducible rfl
            simp only [Act.put, List.setIfInBounds_toArray, List.set_cons_zero, List.set_cons_succ]
            have HE := hidP (hHeld.2.2.2.2.2.2.2)
            refine wpAnyH_done (by kernel_rfl) ?_ _
            clear hHeld
            have lo := fun k hk => OwnG.lt op18 k hk
            have lo' := fun k hk => OwnG.lt ob18 k hk
            have lb : w14.heap.size ≤ w17.heap.size := by first | exact b17.size | exact z17M.size
            have pl : w14.heap.size < w17.heap.size := z17L
            have HF := hidP (And.intro (OwnG.mono op18 lb) (And.intro (OwnG.mono ob18 lb) ne18))
            have HLo := hidP (And.intro lo lo')
            clear lo lo' op18 ob18 ne18
            go_wp2_with fail
            go_meet
            refine ⟨_, ra18, rc18, rb18, rd18, rfl, rfl, bl15, ?_, ?_, ?_, OwnG.put2 HF.out.1 (fun k hk => by have := HLo.out.1 k hk; omega), OwnG.put2 HF.out.2.1 (fun k hk => by have := HLo.out.2 k hk; omega), HF.out.2.2, (fun k hk => by have := HLo.out.1 k hk; omega), (fun k hk => by have := HLo.out.2 k hk; omega), HE.out⟩
            · simp; exact z18L
            all_goals (simp [go_sem, z18x0, z18x1])
        case rest =>
          obtain ⟨p3, a3, c3, b3, d3', rfl, rfl, hp3, xL, x0, x1, op3, ob3, ne3, np3, nb3, hX⟩ := hcut
          have oU_1 := hidP op3
          have oV_1 := hidP ob3
          have lp0_wc := (hX.cell lpL_w14).trans lp0_w14
          have lp1_wc := (hX.cell lpL_w14).trans lp1_w14
          have lpL_wc : w.heap.size < wc.heap.size := Nat.lt_of_lt_of_le lpL_w14 hX.size
          have lq0_wc := (hX.cell lqL_w14).trans lq0_w14
          have lq1_wc := (hX.cell lqL_w14).trans lq1_w14
          have lq2_wc := (hX.cell lqL_w14).trans lq2_w14
          have lq3_wc := (hX.cell lqL_w14).trans lq3_w14
          have lq4_wc := (hX.cell lqL_w14).trans lq4_w14
          have lqL_wc : w.heap.size + 1 < wc.heap.size := Nat.lt_of_lt_of_le lqL_w14 hX.size
          have q0_wc := (hX.cell qL_w14).trans q0_w14
          have q1_wc := (hX.cell qL_w14).trans q1_w14
          have qL_wc : p1 < wc.heap.size := Nat.lt_of_lt_of_le qL_w14 hX.size
          have r0_wc := (hX.cell rL_w14).trans r0_w14
          have r1_wc := (hX.cell rL_w14).trans r1_w14
          have rL_wc : p2 < wc.heap.size := Nat.lt_of_lt_of_le rL_w14 hX.size
          have oS_wc := hidP (OwnG.later oS_w14.out hX)
          have oT_wc := hidP (OwnG.later oT_w14.out hX)
          have oI_wc := hidP (OwnG.later oI_w14.out hX)
          have oJ_wc := hidP (OwnG.later oJ_w14.out hX)
          have acc_wc := hidP (acc_w14.out.trans (hX.mono acc_w14.out.size))
          have sz_wc := hX.size
          clear lp0_w14 lp1_w14 lpL_w14 lq0_w14 lq1_w14 lq2_w14 lq3_w14 lq4_w14 lqL_w14 q0_w14 q1_w14 qL_w14 r0_w14 r1_w14 rL_w14 oS_w14 oT_w14 oI_w14 oJ_w14 hX op3 ob3 ne3 np3 nb3 acc_w14
          go_wp2_with fail
          refine (HEr.out _ a3 c3 b3 d3' a1 c1 b1 d1' oU_1.out.row oS_wc.out.row oV_1.out.row oT_wc.out.row).mono ?_
          rintro e w19 ⟨rfl, hb_w19⟩
          have lp0_w19 := (hb_w19.cell lpL_wc).trans lp0_wc
          have lp1_w19 := (hb_w19.cell lpL_wc).trans lp1_wc
          have lpL_w19 : w.heap.size < w19.heap.size := Nat.lt_of_lt_of_le lpL_wc hb_w19.size
          have lq0_w19 := (hb_w19.cell lqL_wc).trans lq0_wc
          have lq1_w19 := (hb_w19.cell lqL_wc).trans lq1_wc
          have lq2_w19 := (hb_w19.cell lqL_wc).trans lq2_wc
          have lq3_w19 := (hb_w19.cell lqL_wc).trans lq3_wc
          have lq4_w19 := (hb_w19.cell lqL_wc).trans lq4_wc
          have lqL_w19 : w.heap.size + 1 < w19.heap.size := Nat.lt_of_lt_of_le lqL_wc hb_w19.size
          have q0_w19 := (hb_w19.cell qL_wc).trans q0_wc
          have q1_w19 := (hb_w19.cell qL_wc).trans q1_wc
          have qL_w19 : p1 < w19.heap.size := Nat.lt_of_lt_of_le qL_wc hb_w19.size
          have r0_w19 := (hb_w19.cell rL_wc).trans r0_wc
          have r1_w19 := (hb_w19.cell rL_wc).trans r1_wc
          have rL_w19 : p2 < w19.heap.size := Nat.lt_of_lt_of_le rL_wc hb_w19.size
          have x0_w19 := (hb_w19.cell xL).trans x0
          have x1_w19 := (hb_w19.cell xL).trans x1
          have xL_w19 : p3 < w19.heap.size := Nat.lt_of_lt_of_le xL hb_w19.size
          have oS_w19 := hidP (OwnG.later oS_wc.out hb_w19)
          have oT_w19 := hidP (OwnG.later oT_wc.out hb_w19)
          have oI_w19 := hidP (OwnG.later oI_wc.out hb_w19)
          have oJ_w19 := hidP (OwnG.later oJ_wc.out hb_w19)
          have oU_w19 := hidP (OwnG.later oU_1.out hb_w19)
          have oV_w19 := hidP (OwnG.later oV_1.out hb_w19)
          have acc_w19 := hidP (acc_wc.out.trans (hb_w19.mono acc_wc.out.size))
          have sz_w19 := hb_w19.size
          clear lp0_wc lp1_wc lpL_wc lq0_wc lq1_wc lq2_wc lq3_wc lq4_wc lqL_wc q0_wc q1_wc qL_wc r0_wc r1_wc rL_wc x0 x1 xL oS_wc oT_wc oI_wc oJ_wc oU_1 oV_1 hb_w19 acc_wc
          go_wp2_with fail
          refine (HHd.out _ a2 c2 b2 d2' oI_w19.out.row oJ_w19.out.row).mono ?_
          rintro e w20 ⟨rfl, hb20⟩
          have lp0_w20 := (hb20.cell lpL_w19).trans lp0_w19
          have lp1_w20 := (hb20.cell lpL_w19).trans lp1_w19
          have lpL_w20 : w.heap.size < w20.heap.size := Nat.lt_of_lt_of_le lpL_w19 hb20.size
          have lq0_w20 := (hb20.cell lqL_w19).trans lq0_w19
          have lq1_w20 := (hb20.cell lqL_w19).trans lq1_w19
          have lq2_w20 := (hb20.cell lqL_w19).trans lq2_w19
          have lq3_w20 := (hb20.cell lqL_w19).trans lq3_w19
          have lq4_w20 := (hb20.cell lqL_w19).trans lq4_w19
          have lqL_w20 : w.heap.size + 1 < w20.heap.size := Nat.lt_of_lt_of_le lqL_w19 hb20.size
          have q0_w20 := (hb20.cell qL_w19).trans q0_w19
          have q1_w20 := (hb20.cell qL_w19).trans q1_w19
          have qL_w20 : p1 < w20.heap.size := Nat.lt_of_lt_of_le qL_w19 hb20.size
          have r0_w20 := (hb20.cell rL_w19).trans r0_w19
          have r1_w20 := (hb20.cell rL_w19).trans r1_w19
          have rL_w20 : p2 < w20.heap.size := Nat.lt_of_lt_of_le rL_w19 hb20.size
          have x0_w20 := (hb20.cell xL_w19).trans x0_w19
          have x1_w20 := (hb20.cell xL_w19).trans x1_w19
          have xL_w20 : p3 < w20.heap.size := Nat.lt_of_lt_of_le xL_w19 hb20.size
          have oS_w20 := hidP (OwnG.later oS_w19.out hb20)
          have oT_w20 := hidP (OwnG.later oT_w19.out hb20)
          have oI_w20 := hidP (OwnG.later oI_w19.out hb20)
          have oJ_w20 := hidP (OwnG.later oJ_w19.out hb20)
          have oU_w20 := hidP (OwnG.later oU_w19.out hb20)
          have oV_w20 := hidP (OwnG.later oV_w19.out hb20)
          have acc_w20 := hidP (acc_w19.out.trans (hb20.mono acc_w19.out.size))
          have sz_w20 := hb20.size
          clear lp0_w19 lp1_w19 lpL_w19 lq0_w19 lq1_w19 lq2_w19 lq3_w19 lq4_w19 lqL_w19 q0_w19 q1_w19 qL_w19 r0_w19 r1_w19 rL_w19 x0_w19 x1_w19 xL_w19 oS_w19 oT_w19 oI_w19 oJ_w19 oU_w19 oV_w19 hb20 acc_w19
          go_wp2_with fail
          go_ret
          exact ⟨rfl, acc_w20.out⟩
  · rw [szT_no ht] at HSz
    clear hP hK hnp hnb hst ht
    go_enter Try.func5, Try.ntmps5
    go_wp2_with fail
    obtain ⟨u0, u1⟩ := box2 (u := .slice ap np cp) (v := .slice ab nb cb) w 26
    have uB := alloc_below w (.cells #[.slice ap np cp, .slice ab nb cb] 26)
    have uL := alloc_lt w (.cells #[.slice ap np cp, .slice ab nb cb] 26)
    have uS : (w.alloc (.cells #[.slice ap np cp, .slice ab nb cb] 26)).heap.size = w.heap.size + 1 := by simp
    generalize w.alloc (.cells #[.slice ap np cp, .slice ab nb cb] 26) = W1 at *
    obtain ⟨y0, y1, y2, y3, y4⟩ := boxPl (q := pq) W1 41
    have yB := alloc_below W1 (.cells #[.bool pq.p.s, .int .i64 pq.p.H.toInt, .int .i64 pq.p.L.toInt, .int .i64 pq.p.b, .int .i64 pq.n] 41)
    have yL := alloc_lt W1 (.cells #[.bool pq.p.s, .int .i64 pq.p.H.toInt, .int .i64 pq.p.L.toInt, .int .i64 pq.p.b, .int .i64 pq.n] 41)
    have yS : (W1.alloc (.cells #[.bool pq.p.s, .int .i64 pq.p.H.toInt, .int .i64 pq.p.L.toInt, .int .i64 pq.p.b, .int .i64 pq.n] 41)).heap.size = W1.heap.size + 1 := by simp
    generalize W1.alloc (.cells #[.bool pq.p.s, .int .i64 pq.p.H.toInt, .int .i64 pq.p.L.toInt, .int .i64 pq.p.b, .int .i64 pq.n] 41) = W2 at *
    rw [uS] at y0 y1 y2 y3 y4 yL yS
    have B1 := hidP (uB.trans (yB.mono uB.size))
    clear uB yB
    refine (HSz.out _ B1.out).mono ?_
    rintro e w2 ⟨rfl, hb2⟩
    go_wp2_with fail
    go_ret
    exact ⟨rfl, B1.out.trans (hb2.mono B1.out.size)⟩

end Go.Proofs.Ythbpehpnikknlaa

namespace Go.Proofs.Ythbpehpnikknlaa
open Go.RowKit

theorem cell_set5 {w : World} {x o0 o1 o2 o3 o4 b o : Nat} {u0 u1 u2 u3 u4 v : Value} (h : w.cell? ⟨b, o, none⟩ = some v) (hb : b ≠ x) : (((((w.setCell ⟨x, o0, none⟩ u0).setCell ⟨x, o1, none⟩ u1).setCell ⟨x, o2, none⟩ u2).setCell ⟨x, o3, none⟩ u3).setCell ⟨x, o4, none⟩ u4).cell? ⟨b, o, none⟩ = some v := by
  rw [World.cell?_of_block (heap_setCell_other _ ⟨x, o4, none⟩ b _ (by simpa using hb)), World.cell?_of_block (heap_setCell_other _ ⟨x, o3, none⟩ b _ (by simpa using hb)), World.cell?_of_block (heap_setCell_other _ ⟨x, o2, none⟩ b _ (by simpa using hb)), World.cell?_of_block (heap_setCell_other _ ⟨x, o1, none⟩ b _ (by simpa using hb)), World.cell?_of_block (heap_setCell_other _ ⟨x, o0, none⟩ b _ (by simpa using hb))]; exact h
theorem frz_set5 {w : World} {x o0 o1 o2 o3 o4 b o : Nat} {u0 u1 u2 u3 u4 : Value} (h : w.frozen? ⟨b, o, none⟩ = false) (hb : b ≠ x) : (((((w.setCell ⟨x, o0, none⟩ u0).setCell ⟨x, o1, none⟩ u1).setCell ⟨x, o2, none⟩ u2).setCell ⟨x, o3, none⟩ u3).setCell ⟨x, o4, none⟩ u4).frozen? ⟨b, o, none⟩ = false := by
  rw [World.frozen?_of_block (heap_setCell_other _ ⟨x, o4, none⟩ b _ (by simpa using hb)), World.frozen?_of_block (heap_setCell_other _ ⟨x, o3, none⟩ b _ (by simpa using hb)), World.frozen?_of_block (heap_setCell_other _ ⟨x, o2, none⟩ b _ (by simpa using hb)), World.frozen?_of_block (heap_setCell_other _ ⟨x, o1, none⟩ b _ (by simpa using hb)), World.frozen?_of_block (heap_setCell_other _ ⟨x, o0, none⟩ b _ (by simpa using hb))]; exact h
theorem set_new (ps : List Pl) (q : Pl) (m : Nat) (h : m ≤ ps.length) : ((ps ++ [q]).take (m + 1) ++ ps.drop m).set m q = ps.take m ++ q :: ps.drop m := by
  have hl : ((ps ++ [q]).take m).length = m := by rw [List.length_take, List.length_append]; simp; omega
  rw [List.take_succ_eq_append_getElem (by simp; omega), List.append_assoc, List.set_append_right _ _ (by omega), hl, Nat.sub_self, List.take_append_of_le_length h]
  rfl

theorem set_mv (ps : List Pl) (p q : Pl) (i : Nat) (hq : ps[i]? = some q) : ((ps ++ [p]).take (i + 1 + 1) ++ ps.drop (i + 1)).set (i + 1) q = (ps ++ [p]).take (i + 1) ++ ps.drop i := by
  have hi : i < ps.length := (List.getElem?_eq_some_iff.1 hq).1
  have hl : ((ps ++ [p]).take (i + 1)).length = i + 1 := by rw [List.length_take, List.length_append]; simp; omega
  rw [List.take_succ_eq_append_getElem (i := i + 1) (by simp; omega), List.append_assoc, List.set_append_right _ _ (by omega), hl, Nat.sub_self, List.drop_eq_getElem_cons hi, (List.getElem?_eq_some_iff.1 hq).2]
  rfl

set_option maxRecDepth 10000 in
set_option maxHeartbeats 4000000 in
theorem sAdd_e (pq : Pl) (g h : Nat) (np nb : Nat) (ps : List Pl) (bs : List Bk) (w : World) (hnp : np = ps.length) (hnb : nb = bs.length) (hP : RowG KPl w (some ⟨g, 0, none⟩) ps) (hK : RowG KBk w (some ⟨h, 0, none⟩) bs) (hl : np ≤ 1048576) (hl' : nb ≤ 1048576) (hst : ∀ q ∈ bs, q.t.size ≤ 9223372036854775807) (hr : planB ps bs = true) (hk : okPl pq = true) (h20 : np < 20) (hpk : ∀ x ∈ ps, x.p.pk = true) (hqk : pq.p.pk = true) (hmid : ∀ (i j : Nat) (q r : Pl), i < j → ps[i]? = some q → ps[j]? = some r → 0 < cmpP q.p pq.p → 0 < cmpP r.p pq.p) :
    Calls Try.prog 16 #[.agg #[.slice (some ⟨g, 0, none⟩) np np, .slice (some ⟨h, 0, none⟩) nb nb], .agg #[.bool pq.p.s, .int .i64 pq.p.H.toInt, .int .i64 pq.p.L.toInt, .int .i64 pq.p.b, .int .i64 pq.n]] w fun e w' => ((∃ (j : Nat) (q : Pl), ps[j]? = some q ∧ ovP q.p pq.p = true) ∧ ∃ a c b d, e = .returned (.tuple #[.agg #[.slice a np c, .slice b nb d], .int .i64 (3)]) ∧ OwnG KPl 48 w' w.heap.size (.slice a np c) (ps) ∧ OwnG KBk 56 w' w.heap.size (.slice b nb d) (bs) ∧ (∀ k, (Value.slice a np c).ownBlock = some k → (Value.slice b nb d).ownBlock ≠ some k) ∧ Below w.heap.size w w') ∨ (∃ m : Nat, m ≤ np ∧ (∀ (j : Nat) (q : Pl), ps[j]? = some q → ovP q.p pq.p = false) ∧ (∀ (j : Nat) (q : Pl), m ≤ j → ps[j]? = some q → 0 < cmpP q.p pq.p) ∧ (0 < m → ∃ q : Pl, ps[m - 1]? = some q ∧ ¬ 0 < cmpP q.p pq.p) ∧ ∃ a c b d, e = .returned (.tuple #[.agg #[.slice a (np + 1) c, .slice b nb d], .int .i64 (0)]) ∧ OwnG KPl 48 w' w.heap.size (.slice a (np + 1) c) ((ps.take m ++ pq :: ps.drop m)) ∧ OwnG KBk 56 w' w.heap.size (.slice b nb d) (bs) ∧ (∀ k, (Value.slice a (np + 1) c).ownBlock = some k → (Value.slice b nb d).ownBlock ≠ some k) ∧ Below w.heap.size w w') := by
  have HOw := hidP (fun W h' => l5Copy_any (some ⟨g, 0, none⟩) np np (some ⟨h, 0, none⟩) nb nb ps bs W hnp hnb (hP.later h') (hK.later h') (fun e => by cases e) (fun e => by cases e) hl hl')
  have HPO := hidP (fun W h' => sPlanOk_any (some ⟨g, 0, none⟩) np np (some ⟨h, 0, none⟩) nb nb ps bs W hnp hnb (hP.later h') (hK.later h') (by omega) (by omega) hst)
  have HPk := hidP (fun W => sPoolOk_any pq W)
  have HOv := hidP (fun (q : Pl) => sOverlaps_any q.p.s q.p.H q.p.L q.p.b pq.p.s pq.p.H pq.p.L pq.p.b)
  change Hid (∀ (q : Pl) (w : World), Calls Try.prog 39 #[.agg #[.bool q.p.s, .int .i64 q.p.H.toInt, .int .i64 q.p.L.toInt, .int .i64 q.p.b], .agg #[.bool pq.p.s, .int .i64 pq.p.H.toInt, .int .i64 pq.p.L.toInt, .int .i64 pq.p.b]] w fun e w' => e = .returned (.bool (ovP q.p pq.p)) ∧ Below w.heap.size w w') at HOv
  have HCm := hidP (fun (q : Pl) (hq : q ∈ ps) => sCmpP q.p pq.p (hpk q hq) hqk)
  have HN := hidP (And.intro hnp hnb)
  clear hpk hqk
  have HRP := hidP hP
  clear hP hK hnp hnb hst
  rw [hr] at HPO
  rw [hk] at HPk
  have g20' : ((np : Int) == 20) = false := by rw [beq_eq_false_iff_ne]; omega
  go_enter Try.func16, Try.ntmps16
  go_wp2_with fail
  have uF := frz2 w 32 (.slice (some ⟨g, 0, none⟩) np np) (.slice (some ⟨h, 0, none⟩) nb nb)
  obtain ⟨u0, u1⟩ := box2 (u := .slice (some ⟨g, 0, none⟩) np np) (v := .slice (some ⟨h, 0, none⟩) nb nb) w 32
  have uB := alloc_below w (.cells #[.slice (some ⟨g, 0, none⟩) np np, .slice (some ⟨h, 0, none⟩) nb nb] 32)
  have uL := alloc_lt w (.cells #[.slice (some ⟨g, 0, none⟩) np np, .slice (some ⟨h, 0, none⟩) nb nb] 32)
  have uS : (w.alloc (.cells #[.slice (some ⟨g, 0, none⟩) np np, .slice (some ⟨h, 0, none⟩) nb nb] 32)).heap.size = w.heap.size + 1 := by simp
  generalize w.alloc (.cells #[.slice (some ⟨g, 0, none⟩) np np, .slice (some ⟨h, 0, none⟩) nb nb] 32) = W1 at *
  obtain ⟨y0, y1, y2, y3, y4⟩ := boxPl (q := pq) W1 48
  have yB := alloc_below W1 (.cells #[.bool pq.p.s, .int .i64 pq.p.H.toInt, .int .i64 pq.p.L.toInt, .int .i64 pq.p.b, .int .i64 pq.n] 48)
  have yL := alloc_lt W1 (.cells #[.bool pq.p.s, .int .i64 pq.p.H.toInt, .int .i64 pq.p.L.toInt, .int .i64 pq.p.b, .int .i64 pq.n] 48)
  have yS : (W1.alloc (.cells #[.bool pq.p.s, .int .i64 pq.p.H.toInt, .int .i64 pq.p.L.toInt, .int .i64 pq.p.b, .int .i64 pq.n] 48)).heap.size = W1.heap.size + 1 := by simp
  generalize W1.alloc (.cells #[.bool pq.p.s, .int .i64 pq.p.H.toInt, .int .i64 pq.p.L.toInt, .int .i64 pq.p.b, .int .i64 pq.n] 48) = W2 at *
  rw [uS] at y0 y1 y2 y3 y4 yL yS
  have kF := frz2 W2 32 (.slice none 0 0) (.slice none 0 0)
  obtain ⟨k0, k1⟩ := box2 (u := .slice none 0 0) (v := .slice none 0 0) W2 32
  have kB := alloc_below W2 (.cells #[.slice none 0 0, .slice none 0 0] 32)
  have kL := alloc_lt W2 (.cells #[.slice none 0 0, .slice none 0 0] 32)
  have kS : (W2.alloc (.cells #[.slice none 0 0, .slice none 0 0] 32)).heap.size = W2.heap.size + 1 := by simp
  generalize W2.alloc (.cells #[.slice none 0 0, .slice none 0 0] 32) = W3 at *
  rw [yS] at k0 k1 kL kS
  rw [yS] at kF
  have l0 : w.heap.size < W2.heap.size := by omega
  have l1 : w.heap.size + 1 < W2.heap.size := by omega
  have U0 := (kB.cell l0).trans ((yB.cell uL).trans u0)
  have U1 := (kB.cell l0).trans ((yB.cell uL).trans u1)
  have UF : ∀ o, W3.frozen? ⟨w.heap.size, o, none⟩ = false := fun o => (kB.frozen l0).trans ((yB.frozen uL).trans (uF o))
  have Y0 := (kB.cell l1).trans y0
  have Y1 := (kB.cell l1).trans y1
  have Y2 := (kB.cell l1).trans y2
  have Y3 := (kB.cell l1).trans y3
  have Y4 := (kB.cell l1).trans y4
  have acc0 := hidP ((uB.trans (yB.mono uB.size)).trans (kB.mono (Nat.le_trans uB.size yB.size)))
  have UL : w.heap.size < W3.heap.size := by omega
  have YL : w.heap.size + 1 < W3.heap.size := by omega
  have kL3 : w.heap.size + 1 + 1 < W3.heap.size := by omega
  have UL9 := UL
  have kL9 := kL3
  clear uB yB kB uS yS kS u0 u1 y0 y1 y2 y3 y4 uL yL kL uF l0 l1
  refine (HOw.out _ acc0.out).mono ?_
  rintro e w4 ⟨a, c, b, d, rfl, op, ob, hne, hb4⟩
  have sz4 := hb4.size
  have pb0_w4 := (hb4.cell UL).trans U0
  have pb1_w4 := (hb4.cell UL).trans U1
  have pbF_w4 : ∀ o, w4.frozen? ⟨w.heap.size, o, none⟩ = false := fun o => (hb4.frozen UL).trans (UF o)
  have pbL_w4 : w.heap.size < w4.heap.size := Nat.lt_of_lt_of_le UL hb4.size
  have at0_w4 := (hb4.cell YL).trans Y0
  have at1_w4 := (hb4.cell YL).trans Y1
  have at2_w4 := (hb4.cell YL).trans Y2
  have at3_w4 := (hb4.cell YL).trans Y3
  have at4_w4 := (hb4.cell YL).trans Y4
  have atL_w4 : w.heap.size + 1 < w4.heap.size := Nat.lt_of_lt_of_le YL hb4.size
  have rs0_w4 := (hb4.cell kL3).trans k0
  have rs1_w4 := (hb4.cell kL3).trans k1
  have rsF_w4 : ∀ o, w4.frozen? ⟨w.heap.size + 1 + 1, o, none⟩ = false := fun o => (hb4.frozen kL3).trans (kF o)
  have rsL_w4 : w.heap.size + 1 + 1 < w4.heap.size := Nat.lt_of_lt_of_le kL3 hb4.size
  have acc_w4 := hidP (acc0.out.trans (hb4.mono acc0.out.size))
  have w43c := hb4.size
  have HLB4 := hidP (fun j hj => (OwnG.lt ob j hj).2)
  have HLA4 := hidP (fun j hj => (OwnG.lt op j hj).2)
  have oP_w4 := hidP op
  have oB_w4 := hidP ob
  have HNE := hidP hne
  clear UF U0 U1 UL Y0 Y1 Y2 Y3 Y4 YL kF k0 k1 kL3 acc0 hb4 op ob hne
  go_wp2_with fail
  have oF := frz2 w4 32 (.slice a np c) (.slice b nb d)
  obtain ⟨o0, o1⟩ := box2 (u := .slice a np c) (v := .slice b nb d) w4 32
  have oB := alloc_below w4 (.cells #[.slice a np c, .slice b nb d] 32)
  have oL := alloc_lt w4 (.cells #[.slice a np c, .slice b nb d] 32)
  have oS : (w4.alloc (.cells #[.slice a np c, .slice b nb d] 32)).heap.size = w4.heap.size + 1 := by simp
  generalize w4.alloc (.cells #[.slice a np c, .slice b nb d] 32) = W5 at *
  have hb5 := oB
  have sz5 := oB.size
  have pb0_W5 := (hb5.cell pbL_w4).trans pb0_w4
  have pb1_W5 := (hb5.cell pbL_w4).trans pb1_w4
  have pbF_W5 : ∀ o, W5.frozen? ⟨w.heap.size, o, none⟩ = false := fun o => (hb5.frozen pbL_w4).trans (pbF_w4 o)
  have pbL_W5 : w.heap.size < W5.heap.size := Nat.lt_of_lt_of_le pbL_w4 hb5.size
  have at0_W5 := (hb5.cell atL_w4).trans at0_w4
  have at1_W5 := (hb5.cell atL_w4).trans at1_w4
  have at2_W5 := (hb5.cell atL_w4).trans at2_w4
  have at3_W5 := (hb5.cell atL_w4).trans at3_w4
  have at4_W5 := (hb5.cell atL_w4).trans at4_w4
  have atL_W5 : w.heap.size + 1 < W5.heap.size := Nat.lt_of_lt_of_le atL_w4 hb5.size
  have rs0_W5 := (hb5.cell rsL_w4).trans rs0_w4
  have rs1_W5 := (hb5.cell rsL_w4).trans rs1_w4
  have rsF_W5 : ∀ o, W5.frozen? ⟨w.heap.size + 1 + 1, o, none⟩ = false := fun o => (hb5.frozen rsL_w4).trans (rsF_w4 o)
  have rsL_W5 : w.heap.size + 1 + 1 < W5.heap.size := Nat.lt_of_lt_of_le rsL_w4 hb5.size
  have oP_W5 := hidP (OwnG.later oP_w4.out hb5)
  have oB_W5 := hidP (OwnG.later oB_w4.out hb5)
  have acc_W5 := hidP (acc_w4.out.trans (hb5.mono acc_w4.out.size))
  clear pbF_w4 pb0_w4 pb1_w4 pbL_w4 at0_w4 at1_w4 at2_w4 at3_w4 at4_w4 atL_w4 rsF_w4 rs0_w4 rs1_w4 rsL_w4 oP_w4 oB_w4 acc_w4 hb5 oB oS
  refine (HPO.out _ acc_W5.out).mono ?_
  rintro e w6 ⟨rfl, hb6⟩
  have sz6 := hb6.size
  have pb0_w6 := (hb6.cell pbL_W5).trans pb0_W5
  have pb1_w6 := (hb6.cell pbL_W5).trans pb1_W5
  have pbF_w6 : ∀ o, w6.frozen? ⟨w.heap.size, o, none⟩ = false := fun o => (hb6.frozen pbL_W5).trans (pbF_W5 o)
  have pbL_w6 : w.heap.size < w6.heap.size := Nat.lt_of_lt_of_le pbL_W5 hb6.size
  have at0_w6 := (hb6.cell atL_W5).trans at0_W5
  have at1_w6 := (hb6.cell atL_W5).trans at1_W5
  have at2_w6 := (hb6.cell atL_W5).trans at2_W5
  have at3_w6 := (hb6.cell atL_W5).trans at3_W5
  have at4_w6 := (hb6.cell atL_W5).trans at4_W5
  have atL_w6 : w.heap.size + 1 < w6.heap.size := Nat.lt_of_lt_of_le atL_W5 hb6.size
  have rs0_w6 := (hb6.cell rsL_W5).trans rs0_W5
  have rs1_w6 := (hb6.cell rsL_W5).trans rs1_W5
  have rsF_w6 : ∀ o, w6.frozen? ⟨w.heap.size + 1 + 1, o, none⟩ = false := fun o => (hb6.frozen rsL_W5).trans (rsF_W5 o)
  have rsL_w6 : w.heap.size + 1 + 1 < w6.heap.size := Nat.lt_of_lt_of_le rsL_W5 hb6.size
  have ot0_w6 := (hb6.cell oL).trans o0
  have ot1_w6 := (hb6.cell oL).trans o1
  have otF_w6 : ∀ o, w6.frozen? ⟨w4.heap.size, o, none⟩ = false := fun o => (hb6.frozen oL).trans (oF o)
  have otL_w6 : w4.heap.size < w6.heap.size := Nat.lt_of_lt_of_le oL hb6.size
  have oP_w6 := hidP (OwnG.later oP_W5.out hb6)
  have oB_w6 := hidP (OwnG.later oB_W5.out hb6)
  have acc_w6 := hidP (acc_W5.out.trans (hb6.mono acc_W5.out.size))
  clear pbF_W5 pb0_W5 pb1_W5 pbL_W5 at0_W5 at1_W5 at2_W5 at3_W5 at4_W5 atL_W5 rsF_W5 rs0_W5 rs1_W5 rsL_W5 oF o0 o1 oL oP_W5 oB_W5 acc_W5 hb6
  go_wp2_with fail
  refine (HPk.out _).mono ?_
  rintro e w7 ⟨rfl, hb7⟩
  have sz7 := hb7.size
  have pb0_w7 := (hb7.cell pbL_w6).trans pb0_w6
  have pb1_w7 := (hb7.cell pbL_w6).trans pb1_w6
  have pbF_w7 : ∀ o, w7.frozen? ⟨w.heap.size, o, none⟩ = false := fun o => (hb7.frozen pbL_w6).trans (pbF_w6 o)
  have pbL_w7 : w.heap.size < w7.heap.size := Nat.lt_of_lt_of_le pbL_w6 hb7.size
  have at0_w7 := (hb7.cell atL_w6).trans at0_w6
  have at1_w7 := (hb7.cell atL_w6).trans at1_w6
  have at2_w7 := (hb7.cell atL_w6).trans at2_w6
  have at3_w7 := (hb7.cell atL_w6).trans at3_w6
  have at4_w7 := (hb7.cell atL_w6).trans at4_w6
  have atL_w7 : w.heap.size + 1 < w7.heap.size := Nat.lt_of_lt_of_le atL_w6 hb7.size
  have rs0_w7 := (hb7.cell rsL_w6).trans rs0_w6
  have rs1_w7 := (hb7.cell rsL_w6).trans rs1_w6
  have rsF_w7 : ∀ o, w7.frozen? ⟨w.heap.size + 1 + 1, o, none⟩ = false := fun o => (hb7.frozen rsL_w6).trans (rsF_w6 o)
  have rsL_w7 : w.heap.size + 1 + 1 < w7.heap.size := Nat.lt_of_lt_of_le rsL_w6 hb7.size
  have ot0_w7 := (hb7.cell otL_w6).trans ot0_w6
  have ot1_w7 := (hb7.cell otL_w6).trans ot1_w6
  have otF_w7 : ∀ o, w7.frozen? ⟨w4.heap.size, o, none⟩ = false := fun o => (hb7.frozen otL_w6).trans (otF_w6 o)
  have otL_w7 : w4.heap.size < w7.heap.size := Nat.lt_of_lt_of_le otL_w6 hb7.size
  have oP_w7 := hidP (OwnG.later oP_w6.out hb7)
  have oB_w7 := hidP (OwnG.later oB_w6.out hb7)
  have acc_w7 := hidP (acc_w6.out.trans (hb7.mono acc_w6.out.size))
  clear pbF_w6 pb0_w6 pb1_w6 pbL_w6 at0_w6 at1_w6 at2_w6 at3_w6 at4_w6 atL_w6 rsF_w6 rs0_w6 rs1_w6 rsL_w6 otF_w6 ot0_w6 ot1_w6 otL_w6 oP_w6 oB_w6 acc_w6 hb7
  have one : OwnG KPl 48 (w7.alloc (.cells #[.bool pq.p.s, .int .i64 pq.p.H.toInt, .int .i64 pq.p.L.toInt, .int .i64 pq.p.b, .int .i64 pq.n] 48)) 0 (.slice (some ⟨w7.heap.size, 0, none⟩) 1 1) [pq] := own_oneG KPl w7 0 _ pq (Nat.zero_le _)
  have aB := alloc_below w7 (.cells #[.bool pq.p.s, .int .i64 pq.p.H.toInt, .int .i64 pq.p.L.toInt, .int .i64 pq.p.b, .int .i64 pq.n] 48)
  have aS : (w7.alloc (.cells #[.bool pq.p.s, .int .i64 pq.p.H.toInt, .int .i64 pq.p.L.toInt, .int .i64 pq.p.b, .int .i64 pq.n] 48)).heap.size = w7.heap.size + 1 := by simp
  have HZ := hidP (And.intro one (And.intro aB (And.intro (OwnG.later oP_w7.out aB) aS)))
  clear one aB aS
  go_wp2_with (
    at_builtin
    refine wpList_appG Try.tyPl _ rfl (.tmp 31) (.tmp 33) 29 rfl W3.heap.size a np c 1 ps [pq] (.slice (some ⟨w7.heap.size, 0, none⟩) 1 1) rfl HN.out.1 rfl HZ.out.2.2.1 rfl (src_rowG Try.tyPl.1 1 1 (by show 0 < 5; omega) rfl HZ.out.1.row (fun h => by cases h)) (by omega) (by simp; omega) ?_
    intro a9 c9 w9 ho9 hg9 ht9
    obtain ⟨gg, rfl⟩ : ∃ gg, a9 = some ⟨gg, 0, none⟩ := by
      rcases ho9.2 with ⟨hv, _⟩ | ⟨gg, cap', cur, hv, _⟩
      · simp at hv
      · simp at hv; exact ⟨gg, hv.1⟩
    have lg9 := OwnG.lt ho9 gg rfl
    have hgg : gg ≠ w4.heap.size := by
      rcases ht9 with h | h
      · have := HLA4.out gg (by rw [← h]; rfl); omega
      · simp at h; have := HZ.out.2.2.2; omega
    have hBg : ∀ j, (Value.slice b nb d).ownBlock = some j → j ≠ gg := by
      intro j hj e
      subst e
      rcases ht9 with h | h
      · exact HNE.out _ (by rw [← h]; rfl) hj
      · simp at h; have := HLB4.out _ hj; have := HZ.out.2.2.2; omega
    have lo := fun j hj => OwnG.lt oP_w7.out j hj
    have pb0_w9 := (World.cell?_of_block (hg9.block (w.heap.size) (Nat.lt_of_lt_of_le pbL_w7 HZ.out.2.1.size) (fun he => by have hl := lo _ he.symm; omega))).trans ((HZ.out.2.1.cell pbL_w7).trans pb0_w7)
    have pb1_w9 := (World.cell?_of_block (hg9.block (w.heap.size) (Nat.lt_of_lt_of_le pbL_w7 HZ.out.2.1.size) (fun he => by have hl := lo _ he.symm; omega))).trans ((HZ.out.2.1.cell pbL_w7).trans pb1_w7)
    have pbL_w9 : w.heap.size < w9.heap.size := Nat.lt_of_lt_of_le pbL_w7 (Nat.le_trans HZ.out.2.1.size hg9.size)
    have at0_w9 := (World.cell?_of_block (hg9.block (w.heap.size + 1) (Nat.lt_of_lt_of_le atL_w7 HZ.out.2.1.size) (fun he => by have hl := lo _ he.symm; omega))).trans ((HZ.out.2.1.cell atL_w7).trans at0_w7)
    have at1_w9 := (World.cell?_of_block (hg9.block (w.heap.size + 1) (Nat.lt_of_lt_of_le atL_w7 HZ.out.2.1.size) (fun he => by have hl := lo _ he.symm; omega))).trans ((HZ.out.2.1.cell atL_w7).trans at1_w7)
    have at2_w9 := (World.cell?_of_block (hg9.block (w.heap.size + 1) (Nat.lt_of_lt_of_le atL_w7 HZ.out.2.1.size) (fun he => by have hl := lo _ he.symm; omega))).trans ((HZ.out.2.1.cell atL_w7).trans at2_w7)
    have at3_w9 := (World.cell?_of_block (hg9.block (w.heap.size + 1) (Nat.lt_of_lt_of_le atL_w7 HZ.out.2.1.size) (fun he => by have hl := lo _ he.symm; omega))).trans ((HZ.out.2.1.cell atL_w7).trans at3_w7)
    have at4_w9 := (World.cell?_of_block (hg9.block (w.heap.size + 1) (Nat.lt_of_lt_of_le atL_w7 HZ.out.2.1.size) (fun he => by have hl := lo _ he.symm; omega))).trans ((HZ.out.2.1.cell atL_w7).trans at4_w7)
    have atL_w9 : w.heap.size + 1 < w9.heap.size := Nat.lt_of_lt_of_le atL_w7 (Nat.le_trans HZ.out.2.1.size hg9.size)
    have rs0_w9 := (World.cell?_of_block (hg9.block (w.heap.size + 1 + 1) (Nat.lt_of_lt_of_le rsL_w7 HZ.out.2.1.size) (fun he => by have hl := lo _ he.symm; omega))).trans ((HZ.out.2.1.cell rsL_w7).trans rs0_w7)
    have rs1_w9 := (World.cell?_of_block (hg9.block (w.heap.size + 1 + 1) (Nat.lt_of_lt_of_le rsL_w7 HZ.out.2.1.size) (fun he => by have hl := lo _ he.symm; omega))).trans ((HZ.out.2.1.cell rsL_w7).trans rs1_w7)
    have rsF_w9 : ∀ o, w9.frozen? ⟨w.heap.size + 1 + 1, o, none⟩ = false := fun o => (World.frozen?_of_block (hg9.block (w.heap.size + 1 + 1) (Nat.lt_of_lt_of_le rsL_w7 HZ.out.2.1.size) (fun he => by have hl := lo _ he.symm; omega))).trans ((HZ.out.2.1.frozen rsL_w7).trans (rsF_w7 o))
    have rsL_w9 : w.heap.size + 1 + 1 < w9.heap.size := Nat.lt_of_lt_of_le rsL_w7 (Nat.le_trans HZ.out.2.1.size hg9.size)
    have ot0_w9 := (World.cell?_of_block (hg9.block (w4.heap.size) (Nat.lt_of_lt_of_le otL_w7 HZ.out.2.1.size) (fun he => by have hl := HLA4.out _ he.symm; omega))).trans ((HZ.out.2.1.cell otL_w7).trans ot0_w7)
    have ot1_w9 := (World.cell?_of_block (hg9.block (w4.heap.size) (Nat.lt_of_lt_of_le otL_w7 HZ.out.2.1.size) (fun he => by have hl := HLA4.out _ he.symm; omega))).trans ((HZ.out.2.1.cell otL_w7).trans ot1_w7)
    have otF_w9 : ∀ o, w9.frozen? ⟨w4.heap.size, o, none⟩ = false := fun o => (World.frozen?_of_block (hg9.block (w4.heap.size) (Nat.lt_of_lt_of_le otL_w7 HZ.out.2.1.size) (fun he => by have hl := HLA4.out _ he.symm; omega))).trans ((HZ.out.2.1.frozen otL_w7).trans (otF_w7 o))
    have otL_w9 : w4.heap.size < w9.heap.size := Nat.lt_of_lt_of_le otL_w7 (Nat.le_trans HZ.out.2.1.size hg9.size)
    have oB_w9 := OwnG.grown (OwnG.later oB_w7.out HZ.out.2.1) hg9 (fun j hj e => HNE.out j e hj)
    have acc_w9 := (acc_w7.out.trans (HZ.out.2.1.mono acc_w7.out.size)).grown hg9 (Nat.le_trans acc_w7.out.size HZ.out.2.1.size) (fun j e => by have hl := (lo j e).1; omega)
    have sz9 : w7.heap.size ≤ w9.heap.size := Nat.le_trans HZ.out.2.1.size hg9.size
    have oPV : Hid (OwnG KPl 48 (w9.setCell ⟨w4.heap.size, 0, none⟩ (.slice (some ⟨gg, 0, none⟩) (np + 1) c9)) W3.heap.size (.slice (some ⟨gg, 0, none⟩) (np + 1) c9) (ps ++ [pq])) := hidP (OwnG.grown ho9 (grown_cellG w9 w4.heap.size 0 (.slice (some ⟨gg, 0, none⟩) (np + 1) c9)) (fun j hj e => by simp [Value.ownBlock] at hj e; omega))
    have oBV : Hid (OwnG KBk 56 (w9.setCell ⟨w4.heap.size, 0, none⟩ (.slice (some ⟨gg, 0, none⟩) (np + 1) c9)) W3.heap.size (.slice b nb d) bs) := hidP (OwnG.grown oB_w9 (grown_cellG w9 w4.heap.size 0 (.slice (some ⟨gg, 0, none⟩) (np + 1) c9)) (fun j hj e => by have := HLB4.out j hj; simp at e; omega))
    have accV : Hid (Below w.heap.size w (w9.setCell ⟨w4.heap.size, 0, none⟩ (.slice (some ⟨gg, 0, none⟩) (np + 1) c9))) := hidP (Below.setCell (p := ⟨w4.heap.size, 0, none⟩) acc_w9 (show w.heap.size ≤ w4.heap.size by omega) (.slice (some ⟨gg, 0, none⟩) (np + 1) c9))
    have szV : (w9.setCell ⟨w4.heap.size, 0, none⟩ (.slice (some ⟨gg, 0, none⟩) (np + 1) c9)).heap.size = w9.heap.size := by simp
    have pb0 : (w9.setCell ⟨w4.heap.size, 0, none⟩ (.slice (some ⟨gg, 0, none⟩) (np + 1) c9)).cell? ⟨w.heap.size, 0, none⟩ = _ := cell_set1 pb0_w9 (by omega)
    have pb1 : (w9.setCell ⟨w4.heap.size, 0, none⟩ (.slice (some ⟨gg, 0, none⟩) (np + 1) c9)).cell? ⟨w.heap.size, 1, none⟩ = _ := cell_set1 pb1_w9 (by omega)
    have at0 : (w9.setCell ⟨w4.heap.size, 0, none⟩ (.slice (some ⟨gg, 0, none⟩) (np + 1) c9)).cell? ⟨w.heap.size + 1, 0, none⟩ = _ := cell_set1 at0_w9 (by omega)
    have at1 : (w9.setCell ⟨w4.heap.size, 0, none⟩ (.slice (some ⟨gg, 0, none⟩) (np + 1) c9)).cell? ⟨w.heap.size + 1, 1, none⟩ = _ := cell_set1 at1_w9 (by omega)
    have at2 : (w9.setCell ⟨w4.heap.size, 0, none⟩ (.slice (some ⟨gg, 0, none⟩) (np + 1) c9)).cell? ⟨w.heap.size + 1, 2, none⟩ = _ := cell_set1 at2_w9 (by omega)
    have at3 : (w9.setCell ⟨w4.heap.size, 0, none⟩ (.slice (some ⟨gg, 0, none⟩) (np + 1) c9)).cell? ⟨w.heap.size + 1, 3, none⟩ = _ := cell_set1 at3_w9 (by omega)
    have at4 : (w9.setCell ⟨w4.heap.size, 0, none⟩ (.slice (some ⟨gg, 0, none⟩) (np + 1) c9)).cell? ⟨w.heap.size + 1, 4, none⟩ = _ := cell_set1 at4_w9 (by omega)
    have rs0 : (w9.setCell ⟨w4.heap.size, 0, none⟩ (.slice (some ⟨gg, 0, none⟩) (np + 1) c9)).cell? ⟨w.heap.size + 1 + 1, 0, none⟩ = _ := cell_set1 rs0_w9 (by omega)
    have rs1 : (w9.setCell ⟨w4.heap.size, 0, none⟩ (.slice (some ⟨gg, 0, none⟩) (np + 1) c9)).cell? ⟨w.heap.size + 1 + 1, 1, none⟩ = _ := cell_set1 rs1_w9 (by omega)
    have rsF : ∀ o, (w9.setCell ⟨w4.heap.size, 0, none⟩ (.slice (some ⟨gg, 0, none⟩) (np + 1) c9)).frozen? ⟨w.heap.size + 1 + 1, o, none⟩ = false := fun o => frz_set1 (rsF_w9 o) (by omega)
    have ot0 : (w9.setCell ⟨w4.heap.size, 0, none⟩ (.slice (some ⟨gg, 0, none⟩) (np + 1) c9)).cell? ⟨w4.heap.size, 0, none⟩ = some (.slice (some ⟨gg, 0, none⟩) (np + 1) c9) := by simp [go_sem, ot0_w9]
    have ot1 : (w9.setCell ⟨w4.heap.size, 0, none⟩ (.slice (some ⟨gg, 0, none⟩) (np + 1) c9)).cell? ⟨w4.heap.size, 1, none⟩ = some (.slice b nb d) := by simp [go_sem, ot1_w9]
    have HBG := hidP hBg
    have HGG := hidP hgg
    have LG9 := hidP lg9
    clear pb0_w7 pb1_w7 at0_w7 at1_w7 at2_w7 at3_w7 at4_w7 rs0_w7 rs1_w7 ot0_w7 ot1_w7 pbL_w7 atL_w7 rsL_w7 otL_w7 pbF_w7 rsF_w7 otF_w7 lo ho9 hg9 ht9 hBg hgg lg9 oP_w7 oB_w7 acc_w7 oB_w9 acc_w9)
  clear pb0_w9 pb1_w9 at0_w9 at1_w9 at2_w9 at3_w9 at4_w9 rs0_w9 rs1_w9 ot0_w9 ot1_w9 rsF_w9 otF_w9
  generalize (w9.setCell ⟨w4.heap.size, 0, none⟩ (.slice (some ⟨gg, 0, none⟩) (np + 1) c9)) = V at *
  have pbL : w.heap.size < V.heap.size := by omega
  have atL : w.heap.size + 1 < V.heap.size := by omega
  have rsL : w.heap.size + 1 + 1 < V.heap.size := by omega
  have otL : w4.heap.size < V.heap.size := by omega
  clear pbL_w9 atL_w9 rsL_w9 otL_w9 szV
  go_loopw [7, 8] (fun t7 t8 wr => ∃ (k m : Nat) (z : Int), t7 = .int .i64 m ∧ t8 = .int .i64 z ∧ z = (k : Int) - 1 ∧ k ≤ m ∧ m ≤ np ∧ (∀ (j : Nat) (q : Pl), k ≤ j → ps[j]? = some q → ovP q.p pq.p = false) ∧ (∀ (j : Nat) (q : Pl), m ≤ j → ps[j]? = some q → 0 < cmpP q.p pq.p) ∧ (k < m → ∃ q : Pl, ps[m - 1]? = some q ∧ ¬ 0 < cmpP q.p pq.p) ∧ OwnG KPl 48 wr W3.heap.size (.slice (some ⟨gg, 0, none⟩) (np + 1) c9) ((ps ++ [pq]).take (m + 1) ++ ps.drop m) ∧ V.grownBy wr (some gg)) (fun _ t8 _ => (intOf t8 + 1).toNat)
  case atStart => exact ⟨np, np, (np : Int) - 1, rfl, by go_num, rfl, Nat.le_refl _, Nat.le_refl _, (fun j q hj hq => by have := (List.getElem?_eq_some_iff.1 hq).1; have := HN.out.1; omega), (fun j q hj hq => by have := (List.getElem?_eq_some_iff.1 hq).1; have := HN.out.1; omega), (fun h => absurd h (Nat.lt_irrefl _)), by rw [List.take_of_length_le (by rw [List.length_append]; have := HN.out.1; simp; omega), List.drop_of_length_le (by have := HN.out.1; omega), List.append_nil]; exact oPV.out, World.grownBy.refl _ _⟩
  case round =>
    obtain ⟨k, m, z, rfl, rfl, hz, hkm, hmn, hfree, hup, hdn, hown, hgr⟩ := hrel
    have accr := accV.out.grown hgr accV.out.size (fun j e => by simp at e; have := LG9.out.1; omega)
    have pb0r := (World.cell?_of_block (hgr.block (w.heap.size) pbL (fun e => by simp at e; have := LG9.out.1; omega))).trans pb0
    have pb1r := (World.cell?_of_block (hgr.block (w.heap.size) pbL (fun e => by simp at e; have := LG9.out.1; omega))).trans pb1
    have pbLr : w.heap.size < wr.heap.size := Nat.lt_of_lt_of_le pbL hgr.size
    have at0r := (World.cell?_of_block (hgr.block (w.heap.size + 1) atL (fun e => by simp at e; have := LG9.out.1; omega))).trans at0
    have at1r := (World.cell?_of_block (hgr.block (w.heap.size + 1) atL (fun e => by simp at e; have := LG9.out.1; omega))).trans at1
    have at2r := (World.cell?_of_block (hgr.block (w.heap.size + 1) atL (fun e => by simp at e; have := LG9.out.1; omega))).trans at2
    have at3r := (World.cell?_of_block (hgr.block (w.heap.size + 1) atL (fun e => by simp at e; have := LG9.out.1; omega))).trans at3
    have at4r := (World.cell?_of_block (hgr.block (w.heap.size + 1) atL (fun e => by simp at e; have := LG9.out.1; omega))).trans at4
    have atLr : w.heap.size + 1 < wr.heap.size := Nat.lt_of_lt_of_le atL hgr.size
    have rs0r := (World.cell?_of_block (hgr.block (w.heap.size + 1 + 1) rsL (fun e => by simp at e; have := LG9.out.1; omega))).trans rs0
    have rs1r := (World.cell?_of_block (hgr.block (w.heap.size + 1 + 1) rsL (fun e => by simp at e; have := LG9.out.1; omega))).trans rs1
    have rsFr : ∀ o, wr.frozen? ⟨w.heap.size + 1 + 1, o, none⟩ = false := fun o => (World.frozen?_of_block (hgr.block (w.heap.size + 1 + 1) rsL (fun e => by simp at e; have := LG9.out.1; omega))).trans (rsF o)
    have rsLr : w.heap.size + 1 + 1 < wr.heap.size := Nat.lt_of_lt_of_le rsL hgr.size
    have ot0r := (World.cell?_of_block (hgr.block (w4.heap.size) otL (fun e => by simp at e; exact HGG.out e.symm))).trans ot0
    have ot1r := (World.cell?_of_block (hgr.block (w4.heap.size) otL (fun e => by simp at e; exact HGG.out e.symm))).trans ot1
    have otLr : w4.heap.size < wr.heap.size := Nat.lt_of_lt_of_le otL hgr.size
    have oBr := hidP (OwnG.grown oBV.out hgr (fun j hj e => HBG.out j hj (by simpa using e.symm)))
    have hlen : ((ps ++ [pq]).take (m + 1) ++ ps.drop m).length = np + 1 := by rw [List.length_append, List.length_take, List.length_drop, List.length_append]; have := HN.out.1; simp; omega
    clear pb0 pb1 at0 at1 at2 at3 at4 rs0 rs1 ot0 ot1 rsF pbL atL rsL otL
    have HX := hidP (And.intro hfree (And.intro hup (And.intro hdn (And.intro hown (And.intro hgr accr)))))
    have HLn := hidP hlen
    rcases k with _ | i
    · have hz' : z = -1 := by omega
      subst hz'
      obtain ⟨q', hgL, hq', x0, x1, x2, x3, x4⟩ := rowPl0 hown m (by rw [hlen]; omega)
      obtain ⟨f0, f1, f2, f3, f4⟩ := frzPl hown m
      have hput := putPl hown hlen.symm m (by omega) pq
      rw [set_new ps pq m (by have := HN.out.1; omega)] at hput
      have HPu := hidP hput
      have rs0x : (((((wr.setCell ⟨gg, m * 5, none⟩ (.bool pq.p.s)).setCell ⟨gg, m * 5 + 1, none⟩ (.int .i64 pq.p.H.toInt)).setCell ⟨gg, m * 5 + 2, none⟩ (.int .i64 pq.p.L.toInt)).setCell ⟨gg, m * 5 + 3, none⟩ (.int .i64 pq.p.b)).setCell ⟨gg, m * 5 + 4, none⟩ (.int .i64 pq.n)).cell? ⟨w.heap.size + 1 + 1, 0, none⟩ = _ := cell_set5 rs0r (by have := LG9.out.1; omega)
      have rs1x : (((((wr.setCell ⟨gg, m * 5, none⟩ (.bool pq.p.s)).setCell ⟨gg, m * 5 + 1, none⟩ (.int .i64 pq.p.H.toInt)).setCell ⟨gg, m * 5 + 2, none⟩ (.int .i64 pq.p.L.toInt)).setCell ⟨gg, m * 5 + 3, none⟩ (.int .i64 pq.p.b)).setCell ⟨gg, m * 5 + 4, none⟩ (.int .i64 pq.n)).cell? ⟨w.heap.size + 1 + 1, 1, none⟩ = _ := cell_set5 rs1r (by have := LG9.out.1; omega)
      have ot0x : (((((wr.setCell ⟨gg, m * 5, none⟩ (.bool pq.p.s)).setCell ⟨gg, m * 5 + 1, none⟩ (.int .i64 pq.p.H.toInt)).setCell ⟨gg, m * 5 + 2, none⟩ (.int .i64 pq.p.L.toInt)).setCell ⟨gg, m * 5 + 3, none⟩ (.int .i64 pq.p.b)).setCell ⟨gg, m * 5 + 4, none⟩ (.int .i64 pq.n)).cell? ⟨w4.heap.size, 0, none⟩ = _ := cell_set5 ot0r (fun e => HGG.out e.symm)
      have ot1x : (((((wr.setCell ⟨gg, m * 5, none⟩ (.bool pq.p.s)).setCell ⟨gg, m * 5 + 1, none⟩ (.int .i64 pq.p.H.toInt)).setCell ⟨gg, m * 5 + 2, none⟩ (.int .i64 pq.p.L.toInt)).setCell ⟨gg, m * 5 + 3, none⟩ (.int .i64 pq.p.b)).setCell ⟨gg, m * 5 + 4, none⟩ (.int .i64 pq.n)).cell? ⟨w4.heap.size, 1, none⟩ = _ := cell_set5 ot1r (fun e => HGG.out e.symm)
      have rsFx : ∀ o, (((((wr.setCell ⟨gg, m * 5, none⟩ (.bool pq.p.s)).setCell ⟨gg, m * 5 + 1, none⟩ (.int .i64 pq.p.H.toInt)).setCell ⟨gg, m * 5 + 2, none⟩ (.int .i64 pq.p.L.toInt)).setCell ⟨gg, m * 5 + 3, none⟩ (.int .i64 pq.p.b)).setCell ⟨gg, m * 5 + 4, none⟩ (.int .i64 pq.n)).frozen? ⟨w.heap.size + 1 + 1, o, none⟩ = false := fun o => frz_set5 (rsFr o) (by have := LG9.out.1; omega)
      have oBx := hidP (OwnG.grown oBr.out (grown_five (w := wr) (g := gg) (a := m * 5) (b := m * 5 + 1) (c := m * 5 + 2) (d := m * 5 + 3) (e := m * 5 + 4) (v0 := .bool pq.p.s) (v1 := .int .i64 pq.p.H.toInt) (v2 := .int .i64 pq.p.L.toInt) (v3 := .int .i64 pq.p.b) (v4 := .int .i64 pq.n)) (fun j hj e => HBG.out j hj (by simpa using e.symm)))
      have accx := hidP (accr.grown (grown_five (w := wr) (g := gg) (a := m * 5) (b := m * 5 + 1) (c := m * 5 + 2) (d := m * 5 + 3) (e := m * 5 + 4) (v0 := .bool pq.p.s) (v1 := .int .i64 pq.p.H.toInt) (v2 := .int .i64 pq.p.L.toInt) (v3 := .int .i64 pq.p.b) (v4 := .int .i64 pq.n)) accr.size (fun j e => by simp at e; have := LG9.out.1; omega))
      have m0 : (0 : Int) ≤ (m : Int) := by omega
      have m1 : (m : Int) < (np : Int) + 1 := by omega
      have m2 : m < np + 1 := by omega
      clear hz hfree hup hdn hown hgr accr hput hq' hlen
      go_wp2_with fail
      refine bodyPost_ret (v := .tuple #[.agg #[.slice (some ⟨gg, 0, none⟩) (np + 1) c9, .slice b nb d], .int .i64 0]) (by simp [results, Try.results16, go_sem, rs0x, rs1x]) rfl (Or.inr ⟨m, hmn, (fun j q h => HX.out.1 j q (Nat.zero_le _) h), HX.out.2.1, HX.out.2.2.1, _, _, _, _, rfl, (OwnG.set2 HPu.out kL9).mono (Nat.le_of_lt UL9), (OwnG.set2 oBx.out kL9).mono (Nat.le_of_lt UL9), (fun k h1 h2 => HBG.out k h2 (by simpa [Value.ownBlock] using h1.symm)), below_set2 accx.out (by omega)⟩)
    · have hz' : z = (i : Int) := by omega
      subst hz'
      obtain ⟨p', o', q, ha, hpLr, hq, c0r, c1r, c2r, c3r, c4r⟩ := rowPl (HRP.out.later accr) i (by have := HN.out.1; omega)
      simp only [Option.some.injEq, Addr.mk.injEq, and_true] at ha
      obtain ⟨rfl, rfl⟩ := ha
      rw [Nat.zero_add] at c0r c1r c2r c3r c4r
      have hmem : q ∈ ps := List.mem_of_getElem? hq
      have HOq := hidP (HOv.out q)
      have HCq := hidP (HCm.out q hmem)
      have HQ := hidP hq
      have ACC := hidP accr
      have OWR := hidP hown
      have GRR := hidP hgr
      have i0 : (0 : Int) ≤ (i : Int) := by omega
      have i1 : (i : Int) < (np : Int) := by omega
      have wi : IntKind.i64.wrap ((i : Int) + 1) = (i : Int) + 1 := by rw [IntKind.wrap_i64]; omega
      clear hz hfree hup hdn hown hgr accr hlen hq hmem
      by_cases hov : ovP q.p pq.p = true
      · rw [hov] at HOq
        go_wp2_with fail
        have HSx : Hid (∀ x, Below wr.heap.size wr x → (x.cell? ⟨w.heap.size, 0, none⟩ = some (.slice (some ⟨g, 0, none⟩) np np) ∧ x.cell? ⟨g, i * 5, none⟩ = some (.bool q.p.s) ∧ x.cell? ⟨g, i * 5 + 1, none⟩ = some (.int .i64 q.p.H.toInt) ∧ x.cell? ⟨g, i * 5 + 2, none⟩ = some (.int .i64 q.p.L.toInt) ∧ x.cell? ⟨g, i * 5 + 3, none⟩ = some (.int .i64 q.p.b) ∧ x.cell? ⟨w.heap.size + 1, 0, none⟩ = some (.bool pq.p.s) ∧ x.cell? ⟨w.heap.size + 1, 1, none⟩ = some (.int .i64 pq.p.H.toInt) ∧ x.cell? ⟨w.heap.size + 1, 2, none⟩ = some (.int .i64 pq.p.L.toInt) ∧ x.cell? ⟨w.heap.size + 1, 3, none⟩ = some (.int .i64 pq.p.b) ∧ Below wr.heap.size wr x)) := hidP fun x h =>
          ⟨(h.cell pbLr).trans pb0r, (h.cell hpLr).trans c0r, (h.cell hpLr).trans c1r, (h.cell hpLr).trans c2r, (h.cell hpLr).trans c3r, (h.cell atLr).trans at0r, (h.cell atLr).trans at1r, (h.cell atLr).trans at2r, (h.cell atLr).trans at3r, h⟩
        refine wp_region_held_drew (S := (fun x => x.cell? ⟨w.heap.size, 0, none⟩ = some (.slice (some ⟨g, 0, none⟩) np np) ∧ x.cell? ⟨g, i * 5, none⟩ = some (.bool q.p.s) ∧ x.cell? ⟨g, i * 5 + 1, none⟩ = some (.int .i64 q.p.H.toInt) ∧ x.cell? ⟨g, i * 5 + 2, none⟩ = some (.int .i64 q.p.L.toInt) ∧ x.cell? ⟨g, i * 5 + 3, none⟩ = some (.int .i64 q.p.b) ∧ x.cell? ⟨w.heap.size + 1, 0, none⟩ = some (.bool pq.p.s) ∧ x.cell? ⟨w.heap.size + 1, 1, none⟩ = some (.int .i64 pq.p.H.toInt) ∧ x.cell? ⟨w.heap.size + 1, 2, none⟩ = some (.int .i64 pq.p.L.toInt) ∧ x.cell? ⟨w.heap.size + 1, 3, none⟩ = some (.int .i64 pq.p.b) ∧ Below wr.heap.size wr x)) (by kernel_rfl) ?_ (fun hHeld => ?_)
        · try dsimp only
          exact HSx.out _ ((Below.refl _ _).drew)
        refine wpAnyH_take (i := 0) (oi := ⟨some 44, _, _, _, _, _⟩) (v := ?_) rfl (by kernel_rfl) (by kernel_rfl) (by kernel_rfl) (fun _ _ _ h => h) (Or.inl ⟨by rfl, ?_⟩) (by assumption) ?_
        rotate_left
        · intro w hSw
          try dsimp only at hSw
          go_simp
          try with_reducible rfl
        simp only [Act.put, List.setIfInBounds_toArray, List.set_cons_zero, List.set_cons_succ]
        refine wpAnyH_take (i := 1) (oi := ⟨some 45, _, _, _, _, _⟩) (v := ?_) rfl (by kernel_rfl) (by kernel_rfl) (by kernel_rfl) (fun _ _ _ h => h) (Or.inl ⟨by rfl, ?_⟩) (by assumption) ?_
        rotate_left
        · intro w hSw
          try dsimp only at hSw
          go_simp
          try with_reducible rfl
        simp only [Act.put, List.setIfInBounds_toArray, List.set_cons_zero, List.set_cons_succ]
        refine wpAnyH_take (i := 2) (oi := ⟨some 46, _, _, _, _, _⟩) (v := ?_) rfl (by kernel_rfl) (by kernel_rfl) (by kernel_rfl) (fun _ _ _ h => h) (Or.inl ⟨by rfl, ?_⟩) (by assumption) ?_
        rotate_left
        · intro w hSw
          try dsimp only at hSw
          go_simp
          try with_reducible rfl
        simp only [Act.put, List.setIfInBounds_toArray, List.set_cons_zero, List.set_cons_succ]
        refine wpAnyH_take (i := 3) (oi := ⟨some 47, _, _, _, _, _⟩) (v := ?_) rfl (by kernel_rfl) (by kernel_rfl) (by kernel_rfl) (fun _ _ _ h => h) (Or.inl ⟨by rfl, ?_⟩) (by assumption) ?_
        rotate_left
        · intro w hSw
          try dsimp only at hSw
          go_simp
          try with_reducible rfl
        simp only [Act.put, List.setIfInBounds_toArray, List.set_cons_zero, List.set_cons_succ]
        refine wpAnyH_take (i := 4) (oi := ⟨some 48, _, _, _, _, _⟩) (v := ?_) rfl (by kernel_rfl) (by kernel_rfl) (by kernel_rfl) (fun _ _ _ h => h) (Or.inl ⟨by rfl, ?_⟩) (by assumption) ?_
        rotate_left
        · intro w hSw
          try dsimp only at hSw
          go_simp
          try with_reducible rfl
        simp only [Act.put, List.setIfInBounds_toArray, List.set_cons_zero, List.set_cons_succ]
        refine wpAnyH_take (i := 5) (oi := ⟨some 49, _, _, _, _, _⟩) (v := ?_) rfl (by kernel_rfl) (by kernel_rfl) (by kernel_rfl) (fun _ _ _ h => h) (Or.inl ⟨by rfl, ?_⟩) (by assumption) ?_
        rotate_left
        · intro w hSw
          try dsimp only at hSw
          go_simp
          try with_reducible rfl
        simp only [Act.put, List.setIfInBounds_toArray, List.set_cons_zero, List.set_cons_succ]
        refine wpAnyH_take (i := 6) (oi := ⟨some 50, _, _, _, _, _⟩) (v := ?_) rfl (by kernel_rfl) (by kernel_rfl) (by kernel_rfl) (fun _ _ _ h => h) (Or.inl ⟨by rfl, ?_⟩) (by assumption) ?_
        rotate_left
        · intro w hSw
          try dsimp only at hSw
          go_simp
          try with_reducible rfl
        simp only [Act.put, List.setIfInBounds_toArray, List.set_cons_zero, List.set_cons_succ]
        refine wpAnyH_take (i := 7) (oi := ⟨some 51, _, _, _, _, _⟩) (v := ?_) rfl (by kernel_rfl) (by kernel_rfl) (by kernel_rfl) (fun _ _ _ h => h) (Or.inl ⟨by rfl, ?_⟩) (by assumption) ?_
        rotate_left
        · intro w hSw
          try dsimp only at hSw
          go_simp
          try with_reducible rfl
        simp only [Act.put, List.setIfInBounds_toArray, List.set_cons_zero, List.set_cons_succ]
        refine wpAnyH_ready (rs := [8]) (by kernel_rfl) (by simp) ?_
        refine AllReadyH.cons rfl (fun K hK => ?_) AllReadyH.nil
        go_simp
        go_wp2_with (first | (go_at_call 39; refine (HOq.out _).mono ?_; rintro e w11 ⟨rfl, hb11⟩; have b11 := (hHeld.2.2.2.2.2.2.2.2.2).trans (hb11.mono (hHeld.2.2.2.2.2.2.2.2.2).size)))
        refine hK.out _ _ ?_ (fun hHeld => ?_)
        · try dsimp only
          exact HSx.out _ b11
        clear hK K
        have HE := hidP (hHeld.2.2.2.2.2.2.2.2.2)
        refine wpAnyH_done (by kernel_rfl) ?_ _
        clear hHeld
        have hxs := HE.out
        have pb0s := (hxs.cell pbLr).trans pb0r
        have pb1s := (hxs.cell pbLr).trans pb1r
        have pbLs : w.heap.size < w11.heap.size := Nat.lt_of_lt_of_le pbLr hxs.size
        have rs0s := (hxs.cell rsLr).trans rs0r
        have rs1s := (hxs.cell rsLr).trans rs1r
        have rsFs : ∀ o, w11.frozen? ⟨w.heap.size + 1 + 1, o, none⟩ = false := fun o => (hxs.frozen rsLr).trans (rsFr o)
        have rsLs : w.heap.size + 1 + 1 < w11.heap.size := Nat.lt_of_lt_of_le rsLr hxs.size
        clear hxs
        go_wp2_with fail
        refine (HOw.out _ (ACC.out.trans (HE.out.mono ACC.out.size))).mono ?_
        rintro e w12 ⟨a', c', b', d', rfl, op', ob', ne', hb12⟩
        have rs0t := (hb12.cell rsLs).trans rs0s
        have rs1t := (hb12.cell rsLs).trans rs1s
        have rsFt : ∀ o, w12.frozen? ⟨w.heap.size + 1 + 1, o, none⟩ = false := fun o => (hb12.frozen rsLs).trans (rsFs o)
        have HF := hidP (And.intro op' (And.intro ob' (And.intro ne' ((ACC.out.trans (HE.out.mono ACC.out.size)).trans (hb12.mono (ACC.out.trans (HE.out.mono ACC.out.size)).size)))))
        have uLs : w.heap.size < w11.heap.size := pbLs
        clear op' ob' ne' hb12
        go_wp2_with fail
        refine bodyPost_ret (v := .tuple #[.agg #[.slice a' np c', .slice b' nb d'], .int .i64 3]) (by simp [results, Try.results16, go_sem, rs0t, rs1t]) rfl (Or.inl ⟨⟨i, q, HQ.out, hov⟩, _, _, _, _, rfl, (OwnG.set2 HF.out.1 rsLs).mono (Nat.le_of_lt uLs), (OwnG.set2 HF.out.2.1 rsLs).mono (Nat.le_of_lt uLs), HF.out.2.2.1, below_set2 HF.out.2.2.2 (by omega)⟩)
      · have hov' : ovP q.p pq.p = false := by simpa using hov
        rw [hov'] at HOq
        by_cases hcp : 0 < cmpP q.p pq.p
        · have dcp : decide (0 < cmpP q.p pq.p) = true := decide_eq_true hcp
          have hm : m = i + 1 := by
            rcases Nat.lt_or_ge (i + 1) m with h | h
            · obtain ⟨q2, h1, h2⟩ := HX.out.2.2.1 h
              exact absurd (hmid i (m - 1) q q2 (by omega) HQ.out h1 hcp) h2
            · omega
          subst hm
          go_wp2_with fail
          have HSx : Hid (∀ x, Below wr.heap.size wr x → (x.cell? ⟨w.heap.size, 0, none⟩ = some (.slice (some ⟨g, 0, none⟩) np np) ∧ x.cell? ⟨g, i * 5, none⟩ = some (.bool q.p.s) ∧ x.cell? ⟨g, i * 5 + 1, none⟩ = some (.int .i64 q.p.H.toInt) ∧ x.cell? ⟨g, i * 5 + 2, none⟩ = some (.int .i64 q.p.L.toInt) ∧ x.cell? ⟨g, i * 5 + 3, none⟩ = some (.int .i64 q.p.b) ∧ x.cell? ⟨w.heap.size + 1, 0, none⟩ = some (.bool pq.p.s) ∧ x.cell? ⟨w.heap.size + 1, 1, none⟩ = some (.int .i64 pq.p.H.toInt) ∧ x.cell? ⟨w.heap.size + 1, 2, none⟩ = some (.int .i64 pq.p.L.toInt) ∧ x.cell? ⟨w.heap.size + 1, 3, none⟩ = some (.int .i64 pq.p.b) ∧ Below wr.heap.size wr x)) := hidP fun x h =>
            ⟨(h.cell pbLr).trans pb0r, (h.cell hpLr).trans c0r, (h.cell hpLr).trans c1r, (h.cell hpLr).trans c2r, (h.cell hpLr).trans c3r, (h.cell atLr).trans at0r, (h.cell atLr).trans at1r, (h.cell atLr).trans at2r, (h.cell atLr).trans at3r, h⟩
          refine wp_region_held_drew (S := (fun x => x.cell? ⟨w.heap.size, 0, none⟩ = some (.slice (some ⟨g, 0, none⟩) np np) ∧ x.cell? ⟨g, i * 5, none⟩ = some (.bool q.p.s) ∧ x.cell? ⟨g, i * 5 + 1, none⟩ = some (.int .i64 q.p.H.toInt) ∧ x.cell? ⟨g, i * 5 + 2, none⟩ = some (.int .i64 q.p.L.toInt) ∧ x.cell? ⟨g, i * 5 + 3, none⟩ = some (.int .i64 q.p.b) ∧ x.cell? ⟨w.heap.size + 1, 0, none⟩ = some (.bool pq.p.s) ∧ x.cell? ⟨w.heap.size + 1, 1, none⟩ = some (.int .i64 pq.p.H.toInt) ∧ x.cell? ⟨w.heap.size + 1, 2, none⟩ = some (.int .i64 pq.p.L.toInt) ∧ x.cell? ⟨w.heap.size + 1, 3, none⟩ = some (.int .i64 pq.p.b) ∧ Below wr.heap.size wr x)) (by kernel_rfl) ?_ (fun hHeld => ?_)
          · try dsimp only
            exact HSx.out _ ((Below.refl _ _).drew)
          refine wpAnyH_take (i := 0) (oi := ⟨some 44, _, _, _, _, _⟩) (v := ?_) rfl (by kernel_rfl) (by kernel_rfl) (by kernel_rfl) (fun _ _ _ h => h) (Or.inl ⟨by rfl, ?_⟩) (by assumption) ?_
          rotate_left
          · intro w hSw
            try dsimp only at hSw
            go_simp
            try with_reducible rfl
          simp only [Act.put, List.setIfInBounds_toArray, List.set_cons_zero, List.set_cons_succ]
          refine wpAnyH_take (i := 1) (oi := ⟨some 45, _, _, _, _, _⟩) (v := ?_) rfl (by kernel_rfl) (by kernel_rfl) (by kernel_rfl) (fun _ _ _ h => h) (Or.inl ⟨by rfl, ?_⟩) (by assumption) ?_
          rotate_left
          · intro w hSw
            try dsimp only at hSw
            go_simp
            try with_reducible rfl
          simp only [Act.put, List.setIfInBounds_toArray, List.set_cons_zero, List.set_cons_succ]
          refine wpAnyH_take (i := 2) (oi := ⟨some 46, _, _, _, _, _⟩) (v := ?_) rfl (by kernel_rfl) (by kernel_rfl) (by kernel_rfl) (fun _ _ _ h => h) (Or.inl ⟨by rfl, ?_⟩) (by assumption) ?_
          rotate_left
          · intro w hSw
            try dsimp only at hSw
            go_simp
            try with_reducible rfl
          simp only [Act.put, List.setIfInBounds_toArray, List.set_cons_zero, List.set_cons_succ]
          refine wpAnyH_take (i := 3) (oi := ⟨some 47, _, _, _, _, _⟩) (v := ?_) rfl (by kernel_rfl) (by kernel_rfl) (by kernel_rfl) (fun _ _ _ h => h) (Or.inl ⟨by rfl, ?_⟩) (by assumption) ?_
          rotate_left
          · intro w hSw
            try dsimp only at hSw
            go_simp
            try with_reducible rfl
          simp only [Act.put, List.setIfInBounds_toArray, List.set_cons_zero, List.set_cons_succ]
          refine wpAnyH_take (i := 4) (oi := ⟨some 48, _, _, _, _, _⟩) (v := ?_) rfl (by kernel_rfl) (by kernel_rfl) (by kernel_rfl) (fun _ _ _ h => h) (Or.inl ⟨by rfl, ?_⟩) (by assumption) ?_
          rotate_left
          · intro w hSw
            try dsimp only at hSw
            go_simp
            try with_reducible rfl
          simp only [Act.put, List.setIfInBounds_toArray, List.set_cons_zero, List.set_cons_succ]
          refine wpAnyH_take (i := 5) (oi := ⟨some 49, _, _, _, _, _⟩) (v := ?_) rfl (by kernel_rfl) (by kernel_rfl) (by kernel_rfl) (fun _ _ _ h => h) (Or.inl ⟨by rfl, ?_⟩) (by assumption) ?_
          rotate_left
          · intro w hSw
            try dsimp only at hSw
            go_simp
            try with_reducible rfl
          simp only [Act.put, List.setIfInBounds_toArray, List.set_cons_zero, List.set_cons_succ]
          refine wpAnyH_take (i := 6) (oi := ⟨some 50, _, _, _, _, _⟩) (v := ?_) rfl (by kernel_rfl) (by kernel_rfl) (by kernel_rfl) (fun _ _ _ h => h) (Or.inl ⟨by rfl, ?_⟩) (by assumption) ?_
          rotate_left
          · intro w hSw
            try dsimp only at hSw
            go_simp
            try with_reducible rfl
          simp only [Act.put, List.setIfInBounds_toArray, List.set_cons_zero, List.set_cons_succ]
          refine wpAnyH_take (i := 7) (oi := ⟨some 51, _, _, _, _, _⟩) (v := ?_) rfl (by kernel_rfl) (by kernel_rfl) (by kernel_rfl) (fun _ _ _ h => h) (Or.inl ⟨by rfl, ?_⟩) (by assumption) ?_
          rotate_left
          · intro w hSw
            try dsimp only at hSw
            go_simp
            try with_reducible rfl
          simp only [Act.put, List.setIfInBounds_toArray, List.set_cons_zero, List.set_cons_succ]
          refine wpAnyH_ready (rs := [8]) (by kernel_rfl) (by simp) ?_
          refine AllReadyH.cons rfl (fun K hK => ?_) AllReadyH.nil
          go_simp
          go_wp2_with (first | (go_at_call 39; refine (HOq.out _).mono ?_; rintro e w11 ⟨rfl, hb11⟩; have b11 := (hHeld.2.2.2.2.2.2.2.2.2).trans (hb11.mono (hHeld.2.2.2.2.2.2.2.2.2).size)))
          refine hK.out _ _ ?_ (fun hHeld => ?_)
          · try dsimp only
            exact HSx.out _ b11
          clear hK K
          have HE := hidP (hHeld.2.2.2.2.2.2.2.2.2)
          refine wpAnyH_done (by kernel_rfl) ?_ _
          clear hHeld
          have hxs := HE.out
          have pb0s := (hxs.cell pbLr).trans pb0r
          have pb1s := (hxs.cell pbLr).trans pb1r
          have pbLs : w.heap.size < w11.heap.size := Nat.lt_of_lt_of_le pbLr hxs.size
          have at0s := (hxs.cell atLr).trans at0r
          have at1s := (hxs.cell atLr).trans at1r
          have at2s := (hxs.cell atLr).trans at2r
          have at3s := (hxs.cell atLr).trans at3r
          have at4s := (hxs.cell atLr).trans at4r
          have atLs : w.heap.size + 1 < w11.heap.size := Nat.lt_of_lt_of_le atLr hxs.size
          have rs0s := (hxs.cell rsLr).trans rs0r
          have rs1s := (hxs.cell rsLr).trans rs1r
          have rsFs : ∀ o, w11.frozen? ⟨w.heap.size + 1 + 1, o, none⟩ = false := fun o => (hxs.frozen rsLr).trans (rsFr o)
          have rsLs : w.heap.size + 1 + 1 < w11.heap.size := Nat.lt_of_lt_of_le rsLr hxs.size
          have ot0s := (hxs.cell otLr).trans ot0r
          have ot1s := (hxs.cell otLr).trans ot1r
          have otLs : w4.heap.size < w11.heap.size := Nat.lt_of_lt_of_le otLr hxs.size
          have c0s := (hxs.cell hpLr).trans c0r
          have c1s := (hxs.cell hpLr).trans c1r
          have c2s := (hxs.cell hpLr).trans c2r
          have c3s := (hxs.cell hpLr).trans c3r
          have c4s := (hxs.cell hpLr).trans c4r
          have hpLs : g < w11.heap.size := Nat.lt_of_lt_of_le hpLr hxs.size
          clear hxs
          have HE11 := HE
          clear HE HSx
          go_wp2_with fail
          have HSx : Hid (∀ x, Below w11.heap.size w11 x → (x.cell? ⟨w.heap.size, 0, none⟩ = some (.slice (some ⟨g, 0, none⟩) np np) ∧ x.cell? ⟨g, i * 5, none⟩ = some (.bool q.p.s) ∧ x.cell? ⟨g, i * 5 + 1, none⟩ = some (.int .i64 q.p.H.toInt) ∧ x.cell? ⟨g, i * 5 + 2, none⟩ = some (.int .i64 q.p.L.toInt) ∧ x.cell? ⟨g, i * 5 + 3, none⟩ = some (.int .i64 q.p.b) ∧ x.cell? ⟨w.heap.size + 1, 0, none⟩ = some (.bool pq.p.s) ∧ x.cell? ⟨w.heap.size + 1, 1, none⟩ = some (.int .i64 pq.p.H.toInt) ∧ x.cell? ⟨w.heap.size + 1, 2, none⟩ = some (.int .i64 pq.p.L.toInt) ∧ x.cell? ⟨w.heap.size + 1, 3, none⟩ = some (.int .i64 pq.p.b) ∧ Below w11.heap.size w11 x)) := hidP fun x h =>
            ⟨(h.cell pbLs).trans pb0s, (h.cell hpLs).trans c0s, (h.cell hpLs).trans c1s, (h.cell hpLs).trans c2s, (h.cell hpLs).trans c3s, (h.cell atLs).trans at0s, (h.cell atLs).trans at1s, (h.cell atLs).trans at2s, (h.cell atLs).trans at3s, h⟩
          refine wp_region_held_drew (S := (fun x => x.cell? ⟨w.heap.size, 0, none⟩ = some (.slice (some ⟨g, 0, none⟩) np np) ∧ x.cell? ⟨g, i * 5, none⟩ = some (.bool q.p.s) ∧ x.cell? ⟨g, i * 5 + 1, none⟩ = some (.int .i64 q.p.H.toInt) ∧ x.cell? ⟨g, i * 5 + 2, none⟩ = some (.int .i64 q.p.L.toInt) ∧ x.cell? ⟨g, i * 5 + 3, none⟩ = some (.int .i64 q.p.b) ∧ x.cell? ⟨w.heap.size + 1, 0, none⟩ = some (.bool pq.p.s) ∧ x.cell? ⟨w.heap.size + 1, 1, none⟩ = some (.int .i64 pq.p.H.toInt) ∧ x.cell? ⟨w.heap.size + 1, 2, none⟩ = some (.int .i64 pq.p.L.toInt) ∧ x.cell? ⟨w.heap.size + 1, 3, none⟩ = some (.int .i64 pq.p.b) ∧ Below w11.heap.size w11 x)) (by kernel_rfl) ?_ (fun hHeld => ?_)
          · try dsimp only
            exact HSx.out _ ((Below.refl _ _).drew)
          refine wpAnyH_take (i := 0) (oi := ⟨some 55, _, _, _, _, _⟩) (v := ?_) rfl (by kernel_rfl) (by kernel_rfl) (by kernel_rfl) (fun _ _ _ h => h) (Or.inl ⟨by rfl, ?_⟩) (by assumption) ?_
          rotate_left
          · intro w hSw
            try dsimp only at hSw
            go_simp
            try with_reducible rfl
          simp only [Act.put, List.setIfInBounds_toArray, List.set_cons_zero, List.set_cons_succ]
          refine wpAnyH_take (i := 1) (oi := ⟨some 56, _, _, _, _, _⟩) (v := ?_) rfl (by kernel_rfl) (by kernel_rfl) (by kernel_rfl) (fun _ _ _ h => h) (Or.inl ⟨by rfl, ?_⟩) (by assumption) ?_
          rotate_left
          · intro w hSw
            try dsimp only at hSw
            go_simp
            try with_reducible rfl
          simp only [Act.put, List.setIfInBounds_toArray, List.set_cons_zero, List.set_cons_succ]
          refine wpAnyH_take (i := 2) (oi := ⟨some 57, _, _, _, _, _⟩) (v := ?_) rfl (by kernel_rfl) (by kernel_rfl) (by kernel_rfl) (fun _ _ _ h => h) (Or.inl ⟨by rfl, ?_⟩) (by assumption) ?_
          rotate_left
          · intro w hSw
            try dsimp only at hSw
            go_simp
            try with_reducible rfl
          simp only [Act.put, List.setIfInBounds_toArray, List.set_cons_zero, List.set_cons_succ]
          refine wpAnyH_take (i := 3) (oi := ⟨some 58, _, _, _, _, _⟩) (v := ?_) rfl (by kernel_rfl) (by kernel_rfl) (by kernel_rfl) (fun _ _ _ h => h) (Or.inl ⟨by rfl, ?_⟩) (by assumption) ?_
          rotate_left
          · intro w hSw
            try dsimp only at hSw
            go_simp
            try with_reducible rfl
          simp only [Act.put, List.setIfInBounds_toArray, List.set_cons_zero, List.set_cons_succ]
          refine wpAnyH_take (i := 4) (oi := ⟨some 59, _, _, _, _, _⟩) (v := ?_) rfl (by kernel_rfl) (by kernel_rfl) (by kernel_rfl) (fun _ _ _ h => h) (Or.inl ⟨by rfl, ?_⟩) (by assumption) ?_
          rotate_left
          · intro w hSw
            try dsimp only at hSw
            go_simp
            try with_reducible rfl
          simp only [Act.put, List.setIfInBounds_toArray, List.set_cons_zero, List.set_cons_succ]
          refine wpAnyH_take (i := 5) (oi := ⟨some 60, _, _, _, _, _⟩) (v := ?_) rfl (by kernel_rfl) (by kernel_rfl) (by kernel_rfl) (fun _ _ _ h => h) (Or.inl ⟨by rfl, ?_⟩) (by assumption) ?_
          rotate_left
          · intro w hSw
            try dsimp only at hSw
            go_simp
            try with_reducible rfl
          simp only [Act.put, List.setIfInBounds_toArray, List.set_cons_zero, List.set_cons_succ]
          refine wpAnyH_take (i := 6) (oi := ⟨some 61, _, _, _, _, _⟩) (v := ?_) rfl (by kernel_rfl) (by kernel_rfl) (by kernel_rfl) (fun _ _ _ h => h) (Or.inl ⟨by rfl, ?_⟩) (by assumption) ?_
          rotate_left
          · intro w hSw
            try dsimp only at hSw
            go_simp
            try with_reducible rfl
          simp only [Act.put, List.setIfInBounds_toArray, List.set_cons_zero, List.set_cons_succ]
          refine wpAnyH_take (i := 7) (oi := ⟨some 62, _, _, _, _, _⟩) (v := ?_) rfl (by kernel_rfl) (by kernel_rfl) (by kernel_rfl) (fun _ _ _ h => h) (Or.inl ⟨by rfl, ?_⟩) (by assumption) ?_
          rotate_left
          · intro w hSw
            try dsimp only at hSw
            go_simp
            try with_reducible rfl
          simp only [Act.put, List.setIfInBounds_toArray, List.set_cons_zero, List.set_cons_succ]
          refine wpAnyH_ready (rs := [8]) (by kernel_rfl) (by simp) ?_
          refine AllReadyH.cons rfl (fun K hK => ?_) AllReadyH.nil
          go_simp
          go_wp2_with (first | (go_at_call 38; refine (HCq.out _).mono ?_; rintro e w13 ⟨rfl, hb13⟩; have b13 := (hHeld.2.2.2.2.2.2.2.2.2).trans (hb13.mono (hHeld.2.2.2.2.2.2.2.2.2).size)))
          refine hK.out _ _ ?_ (fun hHeld => ?_)
          · try dsimp only
            exact HSx.out _ b13
          clear hK K
          refine wpAnyH_take (i := 9) (oi := ⟨some 64, _, _, _, _, _⟩) (v := ?_) rfl (by kernel_rfl) (by kernel_rfl) (by kernel_rfl) (fun _ _ _ h => h) (Or.inl ⟨by rfl, ?_⟩) (by assumption) ?_
          rotate_left
          · intro w hSw
            try dsimp only at hSw
            go_simp
            try with_reducible rfl
          simp only [Act.put, List.setIfInBounds_toArray, List.set_cons_zero, List.set_cons_succ]
          have HE := hidP (hHeld.2.2.2.2.2.2.2.2.2)
          refine wpAnyH_done (by kernel_rfl) ?_ _
          clear hHeld
          have hxu := HE.out
          have pb0u := (hxu.cell pbLs).trans pb0s
          have pb1u := (hxu.cell pbLs).trans pb1s
          have pbLu : w.heap.size < w13.heap.size := Nat.lt_of_lt_of_le pbLs hxu.size
          have at0u := (hxu.cell atLs).trans at0s
          have at1u := (hxu.cell atLs).trans at1s
          have at2u := (hxu.cell atLs).trans at2s
          have at3u := (hxu.cell atLs).trans at3s
          have at4u := (hxu.cell atLs).trans at4s
          have atLu : w.heap.size + 1 < w13.heap.size := Nat.lt_of_lt_of_le atLs hxu.size
          have rs0u := (hxu.cell rsLs).trans rs0s
          have rs1u := (hxu.cell rsLs).trans rs1s
          have rsFu : ∀ o, w13.frozen? ⟨w.heap.size + 1 + 1, o, none⟩ = false := fun o => (hxu.frozen rsLs).trans (rsFs o)
          have rsLu : w.heap.size + 1 + 1 < w13.heap.size := Nat.lt_of_lt_of_le rsLs hxu.size
          have ot0u := (hxu.cell otLs).trans ot0s
          have ot1u := (hxu.cell otLs).trans ot1s
          have otLu : w4.heap.size < w13.heap.size := Nat.lt_of_lt_of_le otLs hxu.size
          have c0u := (hxu.cell hpLs).trans c0s
          have c1u := (hxu.cell hpLs).trans c1s
          have c2u := (hxu.cell hpLs).trans c2s
          have c3u := (hxu.cell hpLs).trans c3s
          have c4u := (hxu.cell hpLs).trans c4s
          have hpLu : g < w13.heap.size := Nat.lt_of_lt_of_le hpLs hxu.size
          clear hxu
          have OW := OwnG.later (OwnG.later OWR.out HE11.out) HE.out
          obtain ⟨J, hJ⟩ : ∃ J, J = i + 1 := ⟨_, rfl⟩
          rw [← hJ] at OW HLn
          have hJi : (i : Int) + 1 = (J : Int) := by omega
          have wJ : IntKind.i64.wrap (J : Int) = (J : Int) := by rw [IntKind.wrap_i64]; omega
          have hJ0 : (0 : Int) ≤ (J : Int) := by omega
          have hJ1 : (J : Int) < (np : Int) + 1 := by omega
          have hJ2 : J < np + 1 := by omega
          obtain ⟨q', hgL, hq', x0, x1, x2, x3, x4⟩ := rowPl0 OW J (by rw [HLn.out]; omega)
          obtain ⟨f0, f1, f2, f3, f4⟩ := frzPl OW J
          have hput := putPl OW HLn.out.symm J (by omega) q
          have HPu := hidP hput
          have HJ := hidP hJ
          have HG13 := hidP ((GRR.out.trans (below_grown' HE11.out _)).trans (below_grown' HE.out _))
          clear hJ OW hput hq' wi
          go_wp2_with fail
          go_region
          all_goals
            go_wp2_with fail
            go_roundw
            case rel =>
              have hset : ((ps ++ [pq]).take (J + 1) ++ ps.drop J).set J q = (ps ++ [pq]).take (i + 1) ++ ps.drop i := by rw [HJ.out]; exact set_mv ps pq q i HQ.out
              have h := HPu.out.drewG
              rw [hset] at h
              refine ⟨i, i, (i : Int) - 1, rfl, by go_num, rfl, Nat.le_refl _, by omega, fun j q' hj hq' => ?_, fun j q' hj hq' => ?_, fun h => absurd h (Nat.lt_irrefl _), h, (HG13.out.trans grown_five).trans grown_drew⟩
              · by_cases hji : j = i
                · subst hji
                  have := HQ.out.symm.trans hq'
                  simp only [Option.some.injEq] at this
                  rw [← this]; exact hov'
                · exact HX.out.1 j q' (by omega) hq'
              · by_cases hji : j = i
                · subst hji
                  have := HQ.out.symm.trans hq'
                  simp only [Option.some.injEq] at this
                  rw [← this]; exact hcp
                · exact HX.out.2.1 j q' (by omega) hq'
            case measure => simp [intOf]
        · have dcp : decide (0 < cmpP q.p pq.p) = false := decide_eq_false hcp
          go_wp2_with fail
          have HSx : Hid (∀ x, Below wr.heap.size wr x → (x.cell? ⟨w.heap.size, 0, none⟩ = some (.slice (some ⟨g, 0, none⟩) np np) ∧ x.cell? ⟨g, i * 5, none⟩ = some (.bool q.p.s) ∧ x.cell? ⟨g, i * 5 + 1, none⟩ = some (.int .i64 q.p.H.toInt) ∧ x.cell? ⟨g, i * 5 + 2, none⟩ = some (.int .i64 q.p.L.toInt) ∧ x.cell? ⟨g, i * 5 + 3, none⟩ = some (.int .i64 q.p.b) ∧ x.cell? ⟨w.heap.size + 1, 0, none⟩ = some (.bool pq.p.s) ∧ x.cell? ⟨w.heap.size + 1, 1, none⟩ = some (.int .i64 pq.p.H.toInt) ∧ x.cell? ⟨w.heap.size + 1, 2, none⟩ = some (.int .i64 pq.p.L.toInt) ∧ x.cell? ⟨w.heap.size + 1, 3, none⟩ = some (.int .i64 pq.p.b) ∧ Below wr.heap.size wr x)) := hidP fun x h =>
            ⟨(h.cell pbLr).trans pb0r, (h.cell hpLr).trans c0r, (h.cell hpLr).trans c1r, (h.cell hpLr).trans c2r, (h.cell hpLr).trans c3r, (h.cell atLr).trans at0r, (h.cell atLr).trans at1r, (h.cell atLr).trans at2r, (h.cell atLr).trans at3r, h⟩
          refine wp_region_held_drew (S := (fun x => x.cell? ⟨w.heap.size, 0, none⟩ = some (.slice (some ⟨g, 0, none⟩) np np) ∧ x.cell? ⟨g, i * 5, none⟩ = some (.bool q.p.s) ∧ x.cell? ⟨g, i * 5 + 1, none⟩ = some (.int .i64 q.p.H.toInt) ∧ x.cell? ⟨g, i * 5 + 2, none⟩ = some (.int .i64 q.p.L.toInt) ∧ x.cell? ⟨g, i * 5 + 3, none⟩ = some (.int .i64 q.p.b) ∧ x.cell? ⟨w.heap.size + 1, 0, none⟩ = some (.bool pq.p.s) ∧ x.cell? ⟨w.heap.size + 1, 1, none⟩ = some (.int .i64 pq.p.H.toInt) ∧ x.cell? ⟨w.heap.size + 1, 2, none⟩ = some (.int .i64 pq.p.L.toInt) ∧ x.cell? ⟨w.heap.size + 1, 3, none⟩ = some (.int .i64 pq.p.b) ∧ Below wr.heap.size wr x)) (by kernel_rfl) ?_ (fun hHeld => ?_)
          · try dsimp only
            exact HSx.out _ ((Below.refl _ _).drew)
          refine wpAnyH_take (i := 0) (oi := ⟨some 44, _, _, _, _, _⟩) (v := ?_) rfl (by kernel_rfl) (by kernel_rfl) (by kernel_rfl) (fun _ _ _ h => h) (Or.inl ⟨by rfl, ?_⟩) (by assumption) ?_
          rotate_left
          · intro w hSw
            try dsimp only at hSw
            go_simp
            try with_reducible rfl
          simp only [Act.put, List.setIfInBounds_toArray, List.set_cons_zero, List.set_cons_succ]
          refine wpAnyH_take (i := 1) (oi := ⟨some 45, _, _, _, _, _⟩) (v := ?_) rfl (by kernel_rfl) (by kernel_rfl) (by kernel_rfl) (fun _ _ _ h => h) (Or.inl ⟨by rfl, ?_⟩) (by assumption) ?_
          rotate_left
          · intro w hSw
            try dsimp only at hSw
            go_simp
            try with_reducible rfl
          simp only [Act.put, List.setIfInBounds_toArray, List.set_cons_zero, List.set_cons_succ]
          refine wpAnyH_take (i := 2) (oi := ⟨some 46, _, _, _, _, _⟩) (v := ?_) rfl (by kernel_rfl) (by kernel_rfl) (by kernel_rfl) (fun _ _ _ h => h) (Or.inl ⟨by rfl, ?_⟩) (by assumption) ?_
          rotate_left
          · intro w hSw
            try dsimp only at hSw
            go_simp
            try with_reducible rfl
          simp only [Act.put, List.setIfInBounds_toArray, List.set_cons_zero, List.set_cons_succ]
          refine wpAnyH_take (i := 3) (oi := ⟨some 47, _, _, _, _, _⟩) (v := ?_) rfl (by kernel_rfl) (by kernel_rfl) (by kernel_rfl) (fun _ _ _ h => h) (Or.inl ⟨by rfl, ?_⟩) (by assumption) ?_
          rotate_left
          · intro w hSw
            try dsimp only at hSw
            go_simp
            try with_reducible rfl
          simp only [Act.put, List.setIfInBounds_toArray, List.set_cons_zero, List.set_cons_succ]
          refine wpAnyH_take (i := 4) (oi := ⟨some 48, _, _, _, _, _⟩) (v := ?_) rfl (by kernel_rfl) (by kernel_rfl) (by kernel_rfl) (fun _ _ _ h => h) (Or.inl ⟨by rfl, ?_⟩) (by assumption) ?_
          rotate_left
          · intro w hSw
            try dsimp only at hSw
            go_simp
            try with_reducible rfl
          simp only [Act.put, List.setIfInBounds_toArray, List.set_cons_zero, List.set_cons_succ]
          refine wpAnyH_take (i := 5) (oi := ⟨some 49, _, _, _, _, _⟩) (v := ?_) rfl (by kernel_rfl) (by kernel_rfl) (by kernel_rfl) (fun _ _ _ h => h) (Or.inl ⟨by rfl, ?_⟩) (by assumption) ?_
          rotate_left
          · intro w hSw
            try dsimp only at hSw
            go_simp
            try with_reducible rfl
          simp only [Act.put, List.setIfInBounds_toArray, List.set_cons_zero, List.set_cons_succ]
          refine wpAnyH_take (i := 6) (oi := ⟨some 50, _, _, _, _, _⟩) (v := ?_) rfl (by kernel_rfl) (by kernel_rfl) (by kernel_rfl) (fun _ _ _ h => h) (Or.inl ⟨by rfl, ?_⟩) (by assumption) ?_
          rotate_left
          · intro w hSw
            try dsimp only at hSw
            go_simp
            try with_reducible rfl
          simp only [Act.put, List.setIfInBounds_toArray, List.set_cons_zero, List.set_cons_succ]
          refine wpAnyH_take (i := 7) (oi := ⟨some 51, _, _, _, _, _⟩) (v := ?_) rfl (by kernel_rfl) (by kernel_rfl) (by kernel_rfl) (fun _ _ _ h => h) (Or.inl ⟨by rfl, ?_⟩) (by assumption) ?_
          rotate_left
          · intro w hSw
            try dsimp only at hSw
            go_simp
            try with_reducible rfl
          simp only [Act.put, List.setIfInBounds_toArray, List.set_cons_zero, List.set_cons_succ]
          refine wpAnyH_ready (rs := [8]) (by kernel_rfl) (by simp) ?_
          refine AllReadyH.cons rfl (fun K hK => ?_) AllReadyH.nil
          go_simp
          go_wp2_with (first | (go_at_call 39; refine (HOq.out _).mono ?_; rintro e w11 ⟨rfl, hb11⟩; have b11 := (hHeld.2.2.2.2.2.2.2.2.2).trans (hb11.mono (hHeld.2.2.2.2.2.2.2.2.2).size)))
          refine hK.out _ _ ?_ (fun hHeld => ?_)
          · try dsimp only
            exact HSx.out _ b11
          clear hK K
          have HE := hidP (hHeld.2.2.2.2.2.2.2.2.2)
          refine wpAnyH_done (by kernel_rfl) ?_ _
          clear hHeld
          have hxs := HE.out
          have pb0s := (hxs.cell pbLr).trans pb0r
          have pb1s := (hxs.cell pbLr).trans pb1r
          have pbLs : w.heap.size < w11.heap.size := Nat.lt_of_lt_of_le pbLr hxs.size
          have at0s := (hxs.cell atLr).trans at0r
          have at1s := (hxs.cell atLr).trans at1r
          have at2s := (hxs.cell atLr).trans at2r
          have at3s := (hxs.cell atLr).trans at3r
          have at4s := (hxs.cell atLr).trans at4r
          have atLs : w.heap.size + 1 < w11.heap.size := Nat.lt_of_lt_of_le atLr hxs.size
          have rs0s := (hxs.cell rsLr).trans rs0r
          have rs1s := (hxs.cell rsLr).trans rs1r
          have rsFs : ∀ o, w11.frozen? ⟨w.heap.size + 1 + 1, o, none⟩ = false := fun o => (hxs.frozen rsLr).trans (rsFr o)
          have rsLs : w.heap.size + 1 + 1 < w11.heap.size := Nat.lt_of_lt_of_le rsLr hxs.size
          have ot0s := (hxs.cell otLr).trans ot0r
          have ot1s := (hxs.cell otLr).trans ot1r
          have otLs : w4.heap.size < w11.heap.size := Nat.lt_of_lt_of_le otLr hxs.size
          have c0s := (hxs.cell hpLr).trans c0r
          have c1s := (hxs.cell hpLr).trans c1r
          have c2s := (hxs.cell hpLr).trans c2r
          have c3s := (hxs.cell hpLr).trans c3r
          have c4s := (hxs.cell hpLr).trans c4r
          have hpLs : g < w11.heap.size := Nat.lt_of_lt_of_le hpLr hxs.size
          clear hxs
          have HE11 := HE
          clear HE HSx
          go_wp2_with fail
          have HSx : Hid (∀ x, Below w11.heap.size w11 x → (x.cell? ⟨w.heap.size, 0, none⟩ = some (.slice (some ⟨g, 0, none⟩) np np) ∧ x.cell? ⟨g, i * 5, none⟩ = some (.bool q.p.s) ∧ x.cell? ⟨g, i * 5 + 1, none⟩ = some (.int .i64 q.p.H.toInt) ∧ x.cell? ⟨g, i * 5 + 2, none⟩ = some (.int .i64 q.p.L.toInt) ∧ x.cell? ⟨g, i * 5 + 3, none⟩ = some (.int .i64 q.p.b) ∧ x.cell? ⟨w.heap.size + 1, 0, none⟩ = some (.bool pq.p.s) ∧ x.cell? ⟨w.heap.size + 1, 1, none⟩ = some (.int .i64 pq.p.H.toInt) ∧ x.cell? ⟨w.heap.size + 1, 2, none⟩ = some (.int .i64 pq.p.L.toInt) ∧ x.cell? ⟨w.heap.size + 1, 3, none⟩ = some (.int .i64 pq.p.b) ∧ Below w11.heap.size w11 x)) := hidP fun x h =>
            ⟨(h.cell pbLs).trans pb0s, (h.cell hpLs).trans c0s, (h.cell hpLs).trans c1s, (h.cell hpLs).trans c2s, (h.cell hpLs).trans c3s, (h.cell atLs).trans at0s, (h.cell atLs).trans at1s, (h.cell atLs).trans at2s, (h.cell atLs).trans at3s, h⟩
          refine wp_region_held_drew (S := (fun x => x.cell? ⟨w.heap.size, 0, none⟩ = some (.slice (some ⟨g, 0, none⟩) np np) ∧ x.cell? ⟨g, i * 5, none⟩ = some (.bool q.p.s) ∧ x.cell? ⟨g, i * 5 + 1, none⟩ = some (.int .i64 q.p.H.toInt) ∧ x.cell? ⟨g, i * 5 + 2, none⟩ = some (.int .i64 q.p.L.toInt) ∧ x.cell? ⟨g, i * 5 + 3, none⟩ = some (.int .i64 q.p.b) ∧ x.cell? ⟨w.heap.size + 1, 0, none⟩ = some (.bool pq.p.s) ∧ x.cell? ⟨w.heap.size + 1, 1, none⟩ = some (.int .i64 pq.p.H.toInt) ∧ x.cell? ⟨w.heap.size + 1, 2, none⟩ = some (.int .i64 pq.p.L.toInt) ∧ x.cell? ⟨w.heap.size + 1, 3, none⟩ = some (.int .i64 pq.p.b) ∧ Below w11.heap.size w11 x)) (by kernel_rfl) ?_ (fun hHeld => ?_)
          · try dsimp only
            exact HSx.out _ ((Below.refl _ _).drew)
          refine wpAnyH_take (i := 0) (oi := ⟨some 55, _, _, _, _, _⟩) (v := ?_) rfl (by kernel_rfl) (by kernel_rfl) (by kernel_rfl) (fun _ _ _ h => h) (Or.inl ⟨by rfl, ?_⟩) (by assumption) ?_
          rotate_left
          · intro w hSw
            try dsimp only at hSw
            go_simp
            try with_reducible rfl
          simp only [Act.put, List.setIfInBounds_toArray, List.set_cons_zero, List.set_cons_succ]
          refine wpAnyH_take (i := 1) (oi := ⟨some 56, _, _, _, _, _⟩) (v := ?_) rfl (by kernel_rfl) (by kernel_rfl) (by kernel_rfl) (fun _ _ _ h => h) (Or.inl ⟨by rfl, ?_⟩) (by assumption) ?_
          rotate_left
          · intro w hSw
            try dsimp only at hSw
            go_simp
            try with_reducible rfl
          simp only [Act.put, List.setIfInBounds_toArray, List.set_cons_zero, List.set_cons_succ]
          refine wpAnyH_take (i := 2) (oi := ⟨some 57, _, _, _, _, _⟩) (v := ?_) rfl (by kernel_rfl) (by kernel_rfl) (by kernel_rfl) (fun _ _ _ h => h) (Or.inl ⟨by rfl, ?_⟩) (by assumption) ?_
          rotate_left
          · intro w hSw
            try dsimp only at hSw
            go_simp
            try with_reducible rfl
          simp only [Act.put, List.setIfInBounds_toArray, List.set_cons_zero, List.set_cons_succ]
          refine wpAnyH_take (i := 3) (oi := ⟨some 58, _, _, _, _, _⟩) (v := ?_) rfl (by kernel_rfl) (by kernel_rfl) (by kernel_rfl) (fun _ _ _ h => h) (Or.inl ⟨by rfl, ?_⟩) (by assumption) ?_
          rotate_left
          · intro w hSw
            try dsimp only at hSw
            go_simp
            try with_reducible rfl
          simp only [Act.put, List.setIfInBounds_toArray, List.set_cons_zero, List.set_cons_succ]
          refine wpAnyH_take (i := 4) (oi := ⟨some 59, _, _, _, _, _⟩) (v := ?_) rfl (by kernel_rfl) (by kernel_rfl) (by kernel_rfl) (fun _ _ _ h => h) (Or.inl ⟨by rfl, ?_⟩) (by assumption) ?_
          rotate_left
          · intro w hSw
            try dsimp only at hSw
            go_simp
            try with_reducible rfl
          simp only [Act.put, List.setIfInBounds_toArray, List.set_cons_zero, List.set_cons_succ]
          refine wpAnyH_take (i := 5) (oi := ⟨some 60, _, _, _, _, _⟩) (v := ?_) rfl (by kernel_rfl) (by kernel_rfl) (by kernel_rfl) (fun _ _ _ h => h) (Or.inl ⟨by rfl, ?_⟩) (by assumption) ?_
          rotate_left
          · intro w hSw
            try dsimp only at hSw
            go_simp
            try with_reducible rfl
          simp only [Act.put, List.setIfInBounds_toArray, List.set_cons_zero, List.set_cons_succ]
          refine wpAnyH_take (i := 6) (oi := ⟨some 61, _, _, _, _, _⟩) (v := ?_) rfl (by kernel_rfl) (by kernel_rfl) (by kernel_rfl) (fun _ _ _ h => h) (Or.inl ⟨by rfl, ?_⟩) (by assumption) ?_
          rotate_left
          · intro w hSw
            try dsimp only at hSw
            go_simp
            try with_reducible rfl
          simp only [Act.put, List.setIfInBounds_toArray, List.set_cons_zero, List.set_cons_succ]
          refine wpAnyH_take (i := 7) (oi := ⟨some 62, _, _, _, _, _⟩) (v := ?_) rfl (by kernel_rfl) (by kernel_rfl) (by kernel_rfl) (fun _ _ _ h => h) (Or.inl ⟨by rfl, ?_⟩) (by assumption) ?_
          rotate_left
          · intro w hSw
            try dsimp only at hSw
            go_simp
            try with_reducible rfl
          simp only [Act.put, List.setIfInBounds_toArray, List.set_cons_zero, List.set_cons_succ]
          refine wpAnyH_ready (rs := [8]) (by kernel_rfl) (by simp) ?_
          refine AllReadyH.cons rfl (fun K hK => ?_) AllReadyH.nil
          go_simp
          go_wp2_with (first | (go_at_call 38; refine (HCq.out _).mono ?_; rintro e w13 ⟨rfl, hb13⟩; have b13 := (hHeld.2.2.2.2.2.2.2.2.2).trans (hb13.mono (hHeld.2.2.2.2.2.2.2.2.2).size)))
          refine hK.out _ _ ?_ (fun hHeld => ?_)
          · try dsimp only
            exact HSx.out _ b13
          clear hK K
          refine wpAnyH_take (i := 9) (oi := ⟨some 64, _, _, _, _, _⟩) (v := ?_) rfl (by kernel_rfl) (by kernel_rfl) (by kernel_rfl) (fun _ _ _ h => h) (Or.inl ⟨by rfl, ?_⟩) (by assumption) ?_
          rotate_left
          · intro w hSw
            try dsimp only at hSw
            go_simp
            try with_reducible rfl
          simp only [Act.put, List.setIfInBounds_toArray, List.set_cons_zero, List.set_cons_succ]
          have HE := hidP (hHeld.2.2.2.2.2.2.2.2.2)
          refine wpAnyH_done (by kernel_rfl) ?_ _
          clear hHeld
          go_wp2_with fail
          go_roundw
          case rel =>
            refine ⟨i, m, (i : Int) - 1, rfl, by go_num, rfl, by omega, hmn, fun j q' hj hq' => ?_, HX.out.2.1, fun h => ?_, OwnG.later (OwnG.later OWR.out HE11.out) HE.out, (GRR.out.trans (below_grown' HE11.out _)).trans (below_grown' HE.out _)⟩
            · by_cases hji : j = i
              · subst hji
                have := HQ.out.symm.trans hq'
                simp only [Option.some.injEq] at this
                rw [← this]; exact hov'
              · exact HX.out.1 j q' (by omega) hq'
            · by_cases hmi : m = i + 1
              · exact ⟨q, by rw [hmi]; exact HQ.out, by omega⟩
              · obtain ⟨q2, h1, h2⟩ := HX.out.2.2.1 (by omega)
                exact ⟨q2, h1, by omega⟩
          case measure => simp [intOf]

end Go.Proofs.Ythbpehpnikknlaa

namespace Go.Proofs.Ythbpehpnikknlaa
open Go.RowKit

theorem cmpW_swap (a b : Int) : cmpW a b = - cmpW b a := by
  unfold cmpW
  by_cases h : a < b
  · rw [if_pos h, if_neg (by omega), if_pos h]
  · by_cases h2 : b < a
    · rw [if_neg h, if_pos h2, if_pos h2]; rfl
    · rw [if_neg h, if_neg h2, if_neg h2, if_neg h]; rfl
theorem cmpP_swap (p q : Pf) : cmpP p q = - cmpP q p := by
  unfold cmpP
  rw [cmpW_swap (keyN p.s p.H p.L : Int) (keyN q.s q.H q.L : Int), cmpW_swap p.b q.b]
  generalize cmpW (keyN q.s q.H q.L : Int) (keyN p.s p.H p.L : Int) = x
  generalize cmpW q.b p.b = y
  unfold orI
  by_cases h : x = 0
  · subst h; rfl
  · have h1 : (x != 0) = true := bne_iff_ne.2 h
    have h2 : (-x != 0) = true := bne_iff_ne.2 (by omega)
    rw [if_pos h1, if_pos h2]
theorem cmp_tri {p q : Pf} (hp : p.pk = true) (hq : q.pk = true) (ho : ovP p q = false) (h : ¬ cmpP p q < 0) : cmpP q p < 0 := by
  rw [cmp_neg] at h ⊢
  have hw : ¬ (p.s = q.s ∧ p.ad = q.ad ∧ p.b = q.b) := by
    rintro ⟨e1, e2, e3⟩
    have : winP p q = true := (win_iff hp hq).2 ⟨e1, by omega, by omega, by rw [e2]; exact Nat.lt_add_of_pos_right (Nat.two_pow_pos _)⟩
    unfold ovP at ho
    rw [this] at ho
    cases ho
  cases hx : p.s <;> cases hy : q.s <;> simp [hx, hy] at h hw ⊢ <;> omega
theorem srt_uniq (c : Pl → Pl → Int) : ∀ (S R : List Pl), S.Pairwise (fun x y => c x y < 0) → R.Perm S → Srt c R → R = S
  | [], R, _, hp, _ => List.Perm.eq_nil hp
  | s :: S, [], _, hp, _ => by have := hp.length_eq; simp at this
  | s :: S, r :: R, hs, hp, hr => by
      unfold Srt at hr
      rw [List.pairwise_cons] at hs hr
      have hrs : r = s := by
        apply Classical.byContradiction
        intro hne
        have h1 : r ∈ s :: S := hp.subset (List.mem_cons_self)
        have h2 : s ∈ r :: R := hp.symm.subset (List.mem_cons_self)
        have h1' : r ∈ S := by rcases List.mem_cons.1 h1 with e | e; exact absurd e hne; exact e
        have h2' : s ∈ R := by rcases List.mem_cons.1 h2 with e | e; exact absurd e.symm hne; exact e
        exact hr.1 s h2' (hs.1 r h1')
      subst hrs
      rw [srt_uniq c S R hs.2 (List.Perm.cons_inv hp) hr.2]
theorem pw_fol_srt {R : List Pl} (h : R.Pairwise (fun q r => fol q.p r.p)) : Srt (fun x y => cmpP x.p y.p) R := by
  unfold Srt
  refine h.imp (fun {x y} e => ?_)
  have h1 := fol_cmp e
  have h2 := cmpP_swap x.p y.p
  show ¬ cmpP y.p x.p < 0
  omega
theorem add_pw {ps : List Pl} {pq : Pl} (hd : Dsj ps) (hq : pq.p.pk = true) (m : Nat) (h1 : ∀ (j : Nat) (q : Pl), ps[j]? = some q → ovP q.p pq.p = false) (h2 : ∀ (j : Nat) (q : Pl), m ≤ j → ps[j]? = some q → 0 < cmpP q.p pq.p) (h3 : ∀ (j : Nat) (q : Pl), j < m → ps[j]? = some q → ¬ 0 < cmpP q.p pq.p) :
    (ps.take m ++ pq :: ps.drop m).Pairwise (fun q r => fol q.p r.p) := by
  have a1 : ∀ q ∈ ps.take m, fol q.p pq.p := by
    intro q hq'
    obtain ⟨j, hj, e⟩ := List.getElem_of_mem hq'
    rw [List.length_take] at hj
    rw [List.getElem_take] at e
    have e' : ps[j]? = some q := by rw [← e]; exact List.getElem?_eq_getElem (by omega)
    have n1 := h3 j q (by omega) e'
    have o1 := h1 j q e'
    have k1 := okPl_pk (hd.2 q (List.mem_of_getElem? e'))
    refine fol_of k1 hq (Classical.byContradiction fun hc => ?_) o1
    have := cmp_tri k1 hq o1 hc
    have := cmpP_swap q.p pq.p
    omega
  have a2 : ∀ q ∈ ps.drop m, fol pq.p q.p := by
    intro q hq'
    obtain ⟨j, hj, e⟩ := List.getElem_of_mem hq'
    rw [List.length_drop] at hj
    rw [List.getElem_drop] at e
    have e' : ps[m + j]? = some q := by rw [← e]; exact List.getElem?_eq_getElem (by omega)
    have n1 := h2 (m + j) q (by omega) e'
    have o1 := h1 (m + j) q e'
    have k1 := okPl_pk (hd.2 q (List.mem_of_getElem? e'))
    have := cmpP_swap q.p pq.p
    exact fol_of hq k1 (by omega) (by rw [ov_symm]; exact o1)
  have hpw := hd.1
  rw [← List.take_append_drop m ps, List.pairwise_append] at hpw
  rw [List.pairwise_append]
  refine ⟨hpw.1, List.pairwise_cons.2 ⟨a2, hpw.2.1⟩, fun a ha b hb => ?_⟩
  rcases List.mem_cons.1 hb with e | e
  · subst e; exact a1 a ha
  · exact hpw.2.2 a ha b e
theorem add_perm (ps : List Pl) (pq : Pl) (m : Nat) : (ps.take m ++ pq :: ps.drop m).Perm (ps ++ [pq]) := by
  refine List.perm_middle.trans ?_
  rw [List.take_append_drop]
  exact (List.perm_append_singleton pq ps).symm
theorem add_mid {ps : List Pl} {pq : Pl} (hd : Dsj ps) : ∀ (i j : Nat) (q r : Pl), i < j → ps[i]? = some q → ps[j]? = some r → 0 < cmpP q.p pq.p → 0 < cmpP r.p pq.p := by
  intro i j q r hij hi hj h
  have hi' := List.getElem?_eq_some_iff.1 hi
  have hj' := List.getElem?_eq_some_iff.1 hj
  obtain ⟨li, ei⟩ := hi'
  obtain ⟨lj, ej⟩ := hj'
  have hf : fol q.p r.p := by
    have := List.pairwise_iff_getElem.1 hd.1 i j li lj hij
    rw [ei, ej] at this; exact this
  have c1 := fol_cmp hf
  have s1 := cmpP_swap q.p pq.p
  have s2 := cmpP_swap r.p pq.p
  have c2 : cmpP pq.p q.p < 0 := by omega
  have c3 : cmpP pq.p r.p < 0 := by
    rw [cmp_neg] at c1 c2 ⊢
    cases hx : q.p.s <;> cases hy : r.p.s <;> cases hz : pq.p.s <;> simp [hx, hy, hz] at c1 c2 ⊢ <;> omega
  omega
theorem add_place {ps : List Pl} {pq : Pl} (hd : Dsj ps) (m : Nat) (h3 : 0 < m → ∃ q : Pl, ps[m - 1]? = some q ∧ ¬ 0 < cmpP q.p pq.p) : ∀ (j : Nat) (q : Pl), j < m → ps[j]? = some q → ¬ 0 < cmpP q.p pq.p := by
  intro j q hj e hc
  obtain ⟨r, er, hr⟩ := h3 (by omega)
  by_cases h : j = m - 1
  · subst h; rw [e] at er; cases er; exact hr hc
  · exact hr (add_mid hd j (m - 1) q r (by omega) e er hc)
/-- Where the pool comes in, there is such a place. -/
theorem add_some (ps : List Pl) (pq : Pl) : ∀ k : Nat, k ≤ ps.length → (∀ (j : Nat) (q : Pl), k ≤ j → ps[j]? = some q → 0 < cmpP q.p pq.p) → ∃ m, m ≤ ps.length ∧ (∀ (j : Nat) (q : Pl), m ≤ j → ps[j]? = some q → 0 < cmpP q.p pq.p) ∧ (0 < m → ∃ q : Pl, ps[m - 1]? = some q ∧ ¬ 0 < cmpP q.p pq.p)
  | 0, _, h => ⟨0, Nat.zero_le _, h, fun c => absurd c (by omega)⟩
  | k + 1, hk, h => by
      have ek : ps[k]? = some ps[k] := List.getElem?_eq_getElem (by omega)
      by_cases hc : 0 < cmpP (ps[k]).p pq.p
      · refine add_some ps pq k (by omega) (fun j q hj e => ?_)
        by_cases hjk : j = k
        · subst hjk; rw [ek] at e; cases e; exact hc
        · exact h j q (by omega) e
      · exact ⟨k + 1, hk, h, fun _ => ⟨_, ek, hc⟩⟩
theorem add_both (pq : Pl) (np nb : Nat) (ps : List Pl) (bs : List Bk) (hnp : np = ps.length) (hnb : nb = bs.length) (hl : np ≤ 1048576) (hl' : nb ≤ 1048576) (hst : ∀ q ∈ bs, q.t.size ≤ 9223372036854775807) :
    ∃ (PS : List Pl) (NP : Nat) (BS : List Bk) (NB : Nat) (C : Int), NP = PS.length ∧ NB = BS.length ∧ NP ≤ 1048577 ∧ NB ≤ 1048577 ∧ (∀ (g h : Nat) (W : World), RowG KPl W (some ⟨g, 0, none⟩) ps → RowG KBk W (some ⟨h, 0, none⟩) bs → Calls Try.prog 16 #[.agg #[.slice (some ⟨g, 0, none⟩) np np, .slice (some ⟨h, 0, none⟩) nb nb], .agg #[.bool pq.p.s, .int .i64 pq.p.H.toInt, .int .i64 pq.p.L.toInt, .int .i64 pq.p.b, .int .i64 pq.n]] W fun e w' => ∃ a c b d, e = .returned (.tuple #[.agg #[.slice a NP c, .slice b NB d], .int .i64 C]) ∧ OwnG KPl 48 w' W.heap.size (.slice a NP c) PS ∧ OwnG KBk 56 w' W.heap.size (.slice b NB d) BS ∧ (∀ k, (Value.slice a NP c).ownBlock = some k → (Value.slice b NB d).ownBlock ≠ some k) ∧ Below W.heap.size W w') ∧ (∀ (g h : Nat) (W : World), RowG KPl W (some ⟨g, 0, none⟩) ps → RowG KBk W (some ⟨h, 0, none⟩) bs → Calls Try.prog 18 #[.agg #[.slice (some ⟨g, 0, none⟩) np np, .slice (some ⟨h, 0, none⟩) nb nb], .agg #[.bool pq.p.s, .int .i64 pq.p.H.toInt, .int .i64 pq.p.L.toInt, .int .i64 pq.p.b, .int .i64 pq.n]] W fun e w' => ∃ a c b d, e = .returned (.tuple #[.agg #[.slice a NP c, .slice b NB d], .int .i64 C]) ∧ OwnG KPl 48 w' W.heap.size (.slice a NP c) PS ∧ OwnG KBk 56 w' W.heap.size (.slice b NB d) BS ∧ (∀ k, (Value.slice a NP c).ownBlock = some k → (Value.slice b NB d).ownBlock ≠ some k) ∧ Below W.heap.size W w') := by
  by_cases hr : planB ps bs = true
  · have hd : Dsj ps := by
      have h0 := hr
      unfold planB at h0
      simp only [Bool.and_eq_true, decide_eq_true_eq] at h0
      exact (pools_dsj ps none (fun p e => by cases e) h0.2.1).1
    have h20 : np ≤ 20 := by
      have h0 := hr
      unfold planB at h0
      simp only [Bool.and_eq_true, decide_eq_true_eq] at h0
      have := h0.1.1
      omega
    by_cases hk : okPl pq = true
    · by_cases hn : np = 20
      · exact ⟨ps, np, bs, nb, 2, hnp, hnb, by omega, by omega, fun g h W e1 e2 => sAdd_c pq g h np nb ps bs W hnp hnb e1 e2 hl hl' hst hr hk hn, fun g h W e1 e2 => iAdd_c pq g h np nb ps bs W hnp hnb e1 e2 hl hl' hst hr hk hn⟩
      · have hn' : np < 20 := by omega
        have hqk := okPl_pk hk
        have hpk : ∀ x ∈ ps, x.p.pk = true := fun x hx => okPl_pk (hd.2 x hx)
        have hSp := fun g h W e1 e2 => sAdd_e pq g h np nb ps bs W hnp hnb e1 e2 hl hl' hst hr hk hn' hpk hqk (add_mid hd)
        by_cases ho : ps.any (fun x => ovP x.p pq.p) = true
        · refine ⟨ps, np, bs, nb, 3, hnp, hnb, by omega, by omega, fun g h W e1 e2 => ?_, fun g h W e1 e2 => iAdd_d pq g h np nb ps bs W hnp hnb e1 e2 hl hl' hst hr hk hn' ho⟩
          refine (hSp g h W e1 e2).mono (fun e w' hpost => ?_)
          rcases hpost with ⟨_, hgood⟩ | ⟨m, _, hno, _⟩
          · exact hgood
          · rw [List.any_eq_true] at ho
            obtain ⟨x, hx, hov⟩ := ho
            obtain ⟨j, hj, ex⟩ := List.getElem_of_mem hx
            have := hno j x (by rw [← ex]; exact List.getElem?_eq_getElem hj)
            rw [this] at hov; cases hov
        · have ho' : ps.any (fun x => ovP x.p pq.p) = false := by simpa using ho
          have hno : ∀ (j : Nat) (q : Pl), ps[j]? = some q → ovP q.p pq.p = false := by
            intro j q e
            have hm := List.mem_of_getElem? e
            cases hov : ovP q.p pq.p with
            | false => rfl
            | true => exact absurd (List.any_eq_true.2 ⟨q, hm, hov⟩) ho
          obtain ⟨m, hm, m1, m2⟩ := add_some ps pq ps.length (Nat.le_refl _) (fun j q hj e => by rw [List.getElem?_eq_none hj] at e; cases e)
          have hpw := add_pw hd hqk m hno m1 (add_place hd m m2)
          have hS : ∀ R : List Pl, R.Perm (ps ++ [pq]) → Srt (fun x y => cmpP x.p y.p) R → R = ps.take m ++ pq :: ps.drop m := fun R hp hs =>
            srt_uniq _ _ R (hpw.imp (fun h => fol_cmp h)) (hp.trans (add_perm ps pq m).symm) hs
          refine ⟨ps.take m ++ pq :: ps.drop m, np + 1, bs, nb, 0, by rw [(add_perm ps pq m).length_eq, List.length_append, hnp]; rfl, hnb, by omega, by omega, fun g h W e1 e2 => ?_, fun g h W e1 e2 => iAdd_e pq g h np nb ps bs W hnp hnb e1 e2 hl hl' hst hr hk hn' ho' (fun x hx => ?_) _ hS⟩
          · refine (hSp g h W e1 e2).mono (fun e w' hpost => ?_)
            rcases hpost with ⟨⟨j, q, e', hov⟩, _⟩ | ⟨m', _, _, n1, n2, hgood⟩
            · rw [hno j q e'] at hov; cases hov
            · have hpw' := add_pw hd hqk m' hno n1 (add_place hd m' n2)
              rw [hS _ (add_perm ps pq m') (pw_fol_srt hpw')] at hgood
              exact hgood
          · rcases List.mem_append.1 hx with h' | h'
            · exact hpk x h'
            · rw [List.mem_singleton.1 h']; exact hqk
    · have hk' : okPl pq = false := by simpa using hk
      exact ⟨ps, np, bs, nb, 1, hnp, hnb, by omega, by omega, fun g h W e1 e2 => sAdd_b pq g h np nb ps bs W hnp hnb e1 e2 hl hl' hst hr hk', fun g h W e1 e2 => iAdd_b pq g h np nb ps bs W hnp hnb e1 e2 hl hl' hst hr hk'⟩
  · have hr' : planB ps bs = false := by simpa using hr
    exact ⟨ps, np, bs, nb, 1, hnp, hnb, by omega, by omega, fun g h W e1 e2 => sAdd_a pq g h np nb ps bs W hnp hnb e1 e2 hl hl' hst hr', fun g h W e1 e2 => iAdd_a pq g h np nb ps bs W hnp hnb e1 e2 hl hl' hst hr'⟩

end Go.Proofs.Ythbpehpnikknlaa

namespace Go.Proofs.Ythbpehpnikknlaa
open Go.ChangeShapes Go.WideShapes Go.ChangeAt Go.RowKit Go.Joins Go.Deep

set_option maxRecDepth 100000 in
/-- One pool that came in. -/
theorem openOnePl {H : Type} {enc : TypeId × Value → H} {W : World} {r : Reach} {b0 : Nat} {v : Value} {d : DataW H} {p : List MemPlace} (hv : Value.okWide Try.prog W r b0 41 v)
    (h : DataW.Trod enc Try.prog W 0 (fun _ => true) true 41 v d p) : ∃ q : Pl, v = .agg #[.bool q.p.s, .int .i64 q.p.H.toInt, .int .i64 q.p.L.toInt, .int .i64 q.p.b, .int .i64 q.n] := by
  obtain ⟨cs, rfl, hsz⟩ := okWide_struct Try.underlying41 hv
  obtain ⟨fuel, hf⟩ := h
  rw [Try.cellsPl] at hsz
  have hf' : DataW.trod enc Try.prog W 0 (fun _ => true) true fuel 41 cs.toList = some (d, p) := by simpa [Value.cells] using hf
  obtain ⟨q, e⟩ := ofPl (by simpa using hsz) hf'
  have e2 : cs = #[.bool q.p.s, .int .i64 q.p.H.toInt, .int .i64 q.p.L.toInt, .int .i64 q.p.b, .int .i64 q.n] := by
    apply Array.toList_inj.1
    rw [e]; rfl
  exact ⟨q, by rw [e2]⟩

set_option maxRecDepth 100000 in
theorem addPool_lifted (os : Os) (started : os.Started) (H : Type) (enc : TypeId × Value → H) :
    ReturnsInHanded {} Try.checked os 5 .any (Rows.fnExactAddPoolSpec.pre6 enc Try.prog Try.f5 Rows.fnExactAddPoolRow.domain false) (Rows.fnExactAddPoolSpec.post enc Try.prog Try.f5 false true false false) := by
  refine returnsInHanded_of_change (C := Try.checked) Try.ownP started (by kernel_rfl) Try.func5
    (ChangeSpec.witness6 (enc := enc) (C := Try.checked) false ⟨#[], #[.agg #[.slice none 0 0, .slice none 0 0], .agg #[.bool false, .int .i64 0, .int .i64 0, .int .i64 0, .int .i64 0]], []⟩ 8 (by kernel_rfl) (by kernel_rfl) (by kernel_rfl) (by kernel_rfl)) ?_
  intro W base args ds gs before hval0 hW _ _
  have hval : ∀ (j : Nat) t v, Try.f5.params[j]? = some t → args[j]? = some v → Value.okWide Try.prog W .any base t v := hval0
  have hW' := hW
  obtain ⟨p, q, hA0, hV, rfl, _, _⟩ := hW
  have hA : DataW.TrodAll enc Try.prog W 0 (fun _ => true) true Try.f5.params.toList args.toList ds p := hA0
  rw [Try.params5] at hA hval
  obtain ⟨v0, v1, d0, d1, p0, p1, rfl, rfl, rfl, h0, h1⟩ := trodAll_two hA
  obtain ⟨rfl, rfl⟩ := trodVars_none hV
  obtain ⟨ap, np, cp, ab, nb, cb, ps, bs, rfl, hnp, hnb, hP, hK, h9, h9', hst⟩ := openPlan (hval 0 26 v0 rfl rfl) h0
  obtain ⟨pq, rfl⟩ := openOnePl (hval 1 41 v1 rfl rfl) h1
  clear hA0 hval0
  simp only [List.append_nil] at hW'
  have hlt0 : ∀ x ∈ p0, x.block < W.heap.size := fun x hx => hW'.lt x (List.mem_append_left _ hx)
  have hlt1 : ∀ x ∈ p1, x.block < W.heap.size := fun x hx => hW'.lt x (List.mem_append_right _ hx)
  have law := lawAddPool pq ap np cp ab nb cb ps bs W hnp hnb hP hK h9 h9' hst (fun hl hl' => add_both pq np nb ps bs hnp hnb hl hl' hst)
  refine law.mono fun e W' ⟨he, hb⟩ => ?_
  subst he
  exact ⟨_, rfl, ⟨_, _, _, [], p0 ++ p1, [], hW', trodAll_mk1 (shut_bool Try.underlying4 true), trodAll_mk2 (Below.trod Try.laidOutP (by kernel_rfl) (of_decide_eq_true (by kernel_rfl)) h0 hb hlt0) (Below.trod Try.laidOutP (by kernel_rfl) (of_decide_eq_true (by kernel_rfl)) h1 hb hlt1), rfl, hb.frame _, fun h => by cases h⟩⟩

theorem addPool_holds : Rows.FnExactAddPoolSaid :=
  OpenClaim.holds_of_wide 5 Try.f5 rfl rfl rfl rfl rfl rfl rfl ⟨rfl, rfl, rfl, rfl, rfl⟩ rfl rfl rfl rfl rfl (by kernel_rfl) Try.func5 (by kernel_rfl)
    (of_decide_eq_true (by kernel_rfl)) (by unfold Func.isWrapper; rw [if_neg (of_decide_eq_false (by kernel_rfl))]; exact ⟨rfl, rfl⟩)
    (fun os started H enc _ => addPool_lifted os started H enc)

end Go.Proofs.Ythbpehpnikknlaa
