/-
  For every plan and every prefix the two DropPool answer alike, in rows of their own, and leave the plan as it was, so the exact law of DropPool returns true; no condition.
-/
import Derived.Test.YthbpehpnikknlaaMDropB
import Derived.ProofKit
import Derived.Lib.SmallJoins
import Derived.Carry
import Derived.Deep.Slices
import Derived.ChangeMaps5
import Derived.Deep.DeepCutAuto
namespace Go.Proofs.Ythbpehpnikknlaa
open Go.ChangeShapes Go.WideShapes Go.ChangeAt Go.RowKit Go.Joins Go.Deep

theorem slice_of {H : Type} {enc : TypeId × Value → H} {W : World} {t e : TypeId} {n : Nat} {u : Value} {y : DataW H × List MemPlace} (ht : Try.prog.underlying t = some (.slice e)) (h : DataW.trod enc Try.prog W 0 (fun _ => true) true n t [u] = some y) : ∃ a l c, u = .slice a l c := by
  rcases open_slice ht h with ⟨hcs, _⟩ | ⟨a', len', cap', m, n', D, Plc, hcs, _⟩
  · simp at hcs; exact ⟨_, _, _, hcs⟩
  · simp at hcs; exact ⟨_, _, _, hcs⟩
theorem Try.cellsPn : Try.prog.cellsOf 26 = 2 := by kernel_rfl
set_option maxRecDepth 100000 in
/-- A plan that came in. -/
theorem openPlan {H : Type} {enc : TypeId × Value → H} {W : World} {r : Reach} {b0 : Nat} {v : Value} {d : DataW H} {p : List MemPlace} (hv : Value.okWide Try.prog W r b0 26 v)
    (h : DataW.Trod enc Try.prog W 0 (fun _ => true) true 26 v d p) : ∃ (ap : Option Addr) (np cp : Nat) (ab : Option Addr) (nb cb : Nat) (ps : List Pl) (bs : List Bk), v = .agg #[.slice ap np cp, .slice ab nb cb] ∧ np = ps.length ∧ nb = bs.length ∧ RowG KPl W ap ps ∧ RowG KBk W ab bs ∧ np ≤ 9223372036854775807 ∧ nb ≤ 9223372036854775807 ∧ ∀ q ∈ bs, q.t.size ≤ 9223372036854775807 := by
  obtain ⟨v0, v1, y0, y1, n, rfl, rfl, rfl, t0, t1⟩ := open_agg2 Try.underlying26 (by kernel_rfl) Try.cellsPn hv h
  obtain ⟨ap, np, cp, rfl⟩ := slice_of Try.underlying23 t0
  obtain ⟨ab, nb, cb, rfl⟩ := slice_of Try.underlying24 t1
  obtain ⟨ps, e1, l1, r1⟩ := openPl (enc := enc) (W := W) (a := ap) (len := np) (cap := cp) (d := y0.1) (p := y0.2) ⟨n, by simpa [Value.cells] using t0⟩
  obtain ⟨bs, e2, l2, r2, s2⟩ := openBk2 (enc := enc) (W := W) (a := ab) (len := nb) (cap := cb) (d := y1.1) (p := y1.2) ⟨n, by simpa [Value.cells] using t1⟩
  exact ⟨ap, np, cp, ab, nb, cb, ps, bs, rfl, e1.symm, e2.symm, r1, r2, l1, l2, s2⟩

theorem trodAll_nil {H : Type} {enc : TypeId × Value → H} {P : Program} {W : World} {base : Nat} {sp : Nat → Bool} {held : Bool} {ts : List TypeId} {vs : List Value} {ds : List (DataW H)} {p : List MemPlace} (h : DataW.TrodAll enc P W base sp held ts vs ds (p ++ [])) : DataW.TrodAll enc P W base sp held ts vs ds p := by
  rw [List.append_nil] at h; exact h
theorem drew_cell (w : World) (a : Addr) : w.drew.cell? a = w.cell? a := rfl
theorem drew_frozen (w : World) (a : Addr) : w.drew.frozen? a = w.frozen? a := rfl
theorem drew_size_lt {w : World} {n : Nat} (h : n < w.heap.size) : n < w.drew.heap.size := h
theorem OwnG.put2 {α : Type} {K : Kd α} {t : TypeId} {w : World} {B x : Nat} {v u u' : Value} {ps : List α} (h : OwnG K t w B v ps) (hx : ∀ k, v.ownBlock = some k → k ≠ x) : OwnG K t ((w.setCell ⟨x, 0, none⟩ u).setCell ⟨x, 1, none⟩ u') B v ps :=
  OwnG.grown (OwnG.grown h (grown_cellG w x 0 u) (fun k hk e => hx k hk (by simpa using e.symm))) (grown_cellG _ x 1 u') (fun k hk e => hx k hk (by simpa using e.symm))
theorem frzZ2 (w : World) (t : TypeId) (o : Nat) : (w.alloc (.cells #[.slice none 0 0, .slice none 0 0] t)).frozen? ⟨w.heap.size, o, none⟩ = false := frz2 w t _ _ o

set_option maxRecDepth 10000 in
set_option maxHeartbeats 8000000 in
theorem lawDropPool (pt : Pf) (ap : Option Addr) (np cp : Nat) (ab : Option Addr) (nb cb : Nat) (ps : List Pl) (bs : List Bk) (w : World) (hnp : np = ps.length) (hnb : nb = bs.length) (hP : RowG KPl w ap ps) (hK : RowG KBk w ab bs) (h9 : np ≤ 9223372036854775807) (h9' : nb ≤ 9223372036854775807) (hst : ∀ q ∈ bs, q.t.size ≤ 9223372036854775807) :
    Calls Try.prog 6 #[.agg #[.slice ap np cp, .slice ab nb cb], .agg #[.bool pt.s, .int .i64 pt.H.toInt, .int .i64 pt.L.toInt, .int .i64 pt.b]] w fun e w' => e = .returned (.bool true) ∧ Below w.heap.size w w' := by
  have HSz := hidP (fun W h => szPlan_any ap np cp ab nb cb ps bs W hnp hnb (hK.later h) h9 h9' hst)
  by_cases ht : totP ps bs ≤ 1048576
  · rw [szT_yes ht] at HSz
    have hl : np ≤ 1048576 := by unfold totP at ht; omega
    have hl' : nb ≤ 1048576 := by unfold totP at ht; omega
    have HTo := hidP (fun W h => toPlan_any ap np cp ab nb cb ps bs W hnp hnb (hP.later h) (hK.later h) hl hl')
    have HTp := hidP (toPrefix_any pt.s pt.H.toInt pt.L.toInt pt.b)
    obtain ⟨PS, NP, BS, NB, C, hNP, hNB, hL1, hL2, hSpec, hImpl⟩ := drop_both pt np nb ps bs hnp hnb hl hl' hst
    have HSp := hidP hSpec
    have HIm := hidP hImpl
    have HEq := hidP (fun W g h g' h' e1 e2 e3 e4 => eqPlan_same (some ⟨g, 0, none⟩) (some ⟨g', 0, none⟩) np np np (some ⟨h, 0, none⟩) (some ⟨h', 0, none⟩) nb nb nb ps bs W hnp hnb e1 e2 e3 e4 (by omega) (by omega))
    have HEr := hidP (fun W a c b d a' c' b' d' e1 e2 e3 e4 => eqPlan_same a a' NP c c' b b' NB d d' PS BS W hNP hNB e1 e2 e3 e4 (by omega) (by omega))
    have HMk := hidP (fun W g h B o1 o2 ne => markPlan_any (some ⟨g, 0, none⟩) np np (some ⟨h, 0, none⟩) nb nb ps bs B 1 W hnp hnb o1 o2 ne (by omega) (by omega) (by omega) (by omega))
    have HMr := hidP (fun W a c b d B o1 o2 ne => markPlan_any a NP c b NB d PS BS B 1 W hNP hNB o1 o2 ne (by omega) (by omega) (by omega) (by omega))
    have HHd := hidP (fun W a c b d e1 e2 => heldPlan_any a NP c b NB d 1 W e1 e2 (by omega) (by omega) (by omega) (by omega))
    have d1 : decide (1048576 - totP ps bs < 0) = false := decide_eq_false (by omega)
    have d2 : ¬ (1048576 - totP ps bs < 0) := by omega
    generalize 1048576 - totP ps bs = z at *
    have d3 : decide ((1 : Int) + 5 * (np : Int) + 5 * (nb : Int) < 0) = false := decide_eq_false (by omega)
    have d4 : ¬ ((1 : Int) + 5 * (np : Int) + 5 * (nb : Int) < 0) := by omega
    have d5 : decide ((1 : Int) + 5 * (NP : Int) + 5 * (NB : Int) < 0) = false := decide_eq_false (by omega)
    have d6 : ¬ ((1 : Int) + 5 * (NP : Int) + 5 * (NB : Int) < 0) := by omega
    clear hP hK hnp hnb hst ht hNP hNB hSpec hImpl
    go_enter Try.func6, Try.ntmps6
    go_wp2_with fail
    obtain ⟨u0, u1⟩ := box2 (u := .slice ap np cp) (v := .slice ab nb cb) w 26
    have uB := alloc_below w (.cells #[.slice ap np cp, .slice ab nb cb] 26)
    have uL := alloc_lt w (.cells #[.slice ap np cp, .slice ab nb cb] 26)
    have uS : (w.alloc (.cells #[.slice ap np cp, .slice ab nb cb] 26)).heap.size = w.heap.size + 1 := by simp
    generalize w.alloc (.cells #[.slice ap np cp, .slice ab nb cb] 26) = W1 at *
    obtain ⟨y0, y1, y2, y3⟩ := box4 (p := pt) W1 39
    have yB := alloc_below W1 (.cells #[.bool pt.s, .int .i64 pt.H.toInt, .int .i64 pt.L.toInt, .int .i64 pt.b] 39)
    have yL := alloc_lt W1 (.cells #[.bool pt.s, .int .i64 pt.H.toInt, .int .i64 pt.L.toInt, .int .i64 pt.b] 39)
    have yS : (W1.alloc (.cells #[.bool pt.s, .int .i64 pt.H.toInt, .int .i64 pt.L.toInt, .int .i64 pt.b] 39)).heap.size = W1.heap.size + 1 := by simp
    generalize W1.alloc (.cells #[.bool pt.s, .int .i64 pt.H.toInt, .int .i64 pt.L.toInt, .int .i64 pt.b] 39) = W2 at *
    rw [uS] at y0 y1 y2 y3 yL yS
    have s0 := (yB.cell uL).trans u0
    have s1 := (yB.cell uL).trans u1
    have sL : w.heap.size < W2.heap.size := by omega
    have accW := hidP (uB.trans (yB.mono uB.size))
    clear uB uS yB yS u0 u1 uL
    refine (HSz.out _ accW.out).mono ?_
    rintro e w2 ⟨rfl, hb2⟩
    have lp0_w2 := (hb2.cell sL).trans s0
    have lp1_w2 := (hb2.cell sL).trans s1
    have lpL_w2 : w.heap.size < w2.heap.size := Nat.lt_of_lt_of_le sL hb2.size
    have lq0_w2 := (hb2.cell yL).trans y0
    have lq1_w2 := (hb2.cell yL).trans y1
    have lq2_w2 := (hb2.cell yL).trans y2
    have lq3_w2 := (hb2.cell yL).trans y3
    have lqL_w2 : w.heap.size + 1 < w2.heap.size := Nat.lt_of_lt_of_le yL hb2.size
    have acc_w2 := hidP (accW.out.trans (hb2.mono accW.out.size))
    have sz_w2 := hb2.size
    clear s0 s1 sL y0 y1 y2 y3 yL hb2 accW
    go_upto_region 5 with fail
    go_cut [6, 7] (fun t6 t7 X => ∃ (p : Nat) (a : Option Addr) (c : Nat) (b : Option Addr) (d : Nat), t6 = .pointer (some ⟨p, 0, none⟩) ∧ t7 = .int .i64 C ∧ w2.heap.size ≤ p ∧ p < X.heap.size ∧ X.cell? ⟨p, 0, none⟩ = some (.slice a NP c) ∧ X.cell? ⟨p, 1, none⟩ = some (.slice b NB d) ∧ OwnG KPl 48 X w2.heap.size (.slice a NP c) PS ∧ OwnG KBk 56 X w2.heap.size (.slice b NB d) BS ∧ (∀ k, (Value.slice a NP c).ownBlock = some k → (Value.slice b NB d).ownBlock ≠ some k) ∧ (∀ k, (Value.slice a NP c).ownBlock = some k → k ≠ p) ∧ (∀ k, (Value.slice b NB d).ownBlock = some k → k ≠ p) ∧ Below w2.heap.size w2 X)
    case first =>
      have HSx : Hid (∀ x, Below w2.heap.size w2 x → (x.cell? ⟨w.heap.size, 0, none⟩ = some (.slice ap np cp) ∧ x.cell? ⟨w.heap.size, 1, none⟩ = some (.slice ab nb cb) ∧ x.cell? ⟨w.heap.size + 1, 0, none⟩ = some (.bool pt.s) ∧ x.cell? ⟨w.heap.size + 1, 1, none⟩ = some (.int .i64 pt.H.toInt) ∧ x.cell? ⟨w.heap.size + 1, 2, none⟩ = some (.int .i64 pt.L.toInt) ∧ x.cell? ⟨w.heap.size + 1, 3, none⟩ = some (.int .i64 pt.b) ∧ Below w2.heap.size w2 x)) := hidP fun x h =>
        ⟨(h.cell lpL_w2).trans lp0_w2, (h.cell lpL_w2).trans lp1_w2, (h.cell lqL_w2).trans lq0_w2, (h.cell lqL_w2).trans lq1_w2, (h.cell lqL_w2).trans lq2_w2, (h.cell lqL_w2).trans lq3_w2, h⟩
      refine wp_region_held_drew (S := (fun x => x.cell? ⟨w.heap.size, 0, none⟩ = some (.slice ap np cp) ∧ x.cell? ⟨w.heap.size, 1, none⟩ = some (.slice ab nb cb) ∧ x.cell? ⟨w.heap.size + 1, 0, none⟩ = some (.bool pt.s) ∧ x.cell? ⟨w.heap.size + 1, 1, none⟩ = some (.int .i64 pt.H.toInt) ∧ x.cell? ⟨w.heap.size + 1, 2, none⟩ = some (.int .i64 pt.L.toInt) ∧ x.cell? ⟨w.heap.size + 1, 3, none⟩ = some (.int .i64 pt.b) ∧ Below w2.heap.size w2 x)) (by kernel_rfl) ?_ (fun hHeld => ?_)
      · try dsimp only
        exact HSx.out _ (Below.refl _ _).drew
      refine wpAnyH_take (i := 0) (oi := ⟨some 22, _, _, _, _, _⟩) (v := ?_) rfl (by kernel_rfl) (by kernel_rfl) (by kernel_rfl) (fun _ _ _ h => h) (Or.inl ⟨by rfl, ?_⟩) (by assumption) ?_
      rotate_left
      · intro w hSw
        try dsimp only at hSw
        go_simp
        try with_reducible rfl
      simp only [Act.put, List.setIfInBounds_toArray, List.set_cons_zero, List.set_cons_succ]
      refine wpAnyH_take (i := 2) (oi := ⟨some 24, _, _, _, _, _⟩) (v := ?_) rfl (by kernel_rfl) (by kernel_rfl) (by kernel_rfl) (fun _ _ _ h => h) (Or.inl ⟨by rfl, ?_⟩) (by assumption) ?_
      rotate_left
      · intro w hSw
        try dsimp only at hSw
        go_simp
        try with_reducible rfl
      simp only [Act.put, List.setIfInBounds_toArray, List.set_cons_zero, List.set_cons_succ]
      refine wpAnyH_ready (rs := [1, 8]) (by kernel_rfl) (by simp) ?_
      refine AllReadyH.cons rfl (fun K hK => ?_) (AllReadyH.cons rfl (fun K hK => ?_) AllReadyH.nil)
      · go_simp
        go_wp2_with (first | (go_at_call 13; refine (HTo.out _ (acc_w2.out.trans ((hHeld.2.2.2.2.2.2).mono acc_w2.out.size))).mono ?_; rintro e w3 ⟨g3, h3, rfl, og3, oh3, gh3, hb3⟩; have b3 := (hHeld.2.2.2.2.2.2).trans (hb3.mono (hHeld.2.2.2.2.2.2).size)))
        refine hK.out _ _ ?_ (fun hHeld => ?_)
        · try dsimp only
          exact HSx.out _ b3
        clear hK K
        refine wpAnyH_ready (rs := [3, 8]) (by kernel_rfl) (by simp) ?_
        refine AllReadyH.cons rfl (fun K hK => ?_) (AllReadyH.cons rfl (fun K hK => ?_) AllReadyH.nil)
        · go_simp
          go_wp2_with (first | (go_at_call 22; refine (HTp.out _).mono ?_; rintro e w4 ⟨rfl, hb4⟩; have b4 := (hHeld.2.2.2.2.2.2).trans (hb4.mono (hHeld.2.2.2.2.2.2).size)))
          refine hK.out _ _ ?_ (fun hHeld => ?_)
          · try dsimp only
            exact HSx.out _ b4
          clear hK K
          refine wpAnyH_ready (rs := [4, 8]) (by kernel_rfl) (by simp) ?_
          refine AllReadyH.cons rfl (fun K hK => ?_) (AllReadyH.cons rfl (fun K hK => ?_) AllReadyH.nil)
          · go_simp
            go_wp2_with (first | (go_at_call 21; refine (HSp.out g3 h3 _ (RowG.later og3.row hb4) (RowG.later oh3.row hb4)).mono ?_; rintro e w5 ⟨ra5, rc5, rb5, rd5, rfl, op5, ob5, ne5, hb5⟩; have b5 := (hHeld.2.2.2.2.2.2).trans (hb5.mono (hHeld.2.2.2.2.2.2).size)))
            refine hK.out _ _ ?_ (fun hHeld => ?_)
            · try dsimp only
              exact HSx.out _ b5
            clear hK K
            refine wpAnyH_take (i := 5) (oi := ⟨some 21, _, _, _, _, _⟩) (v := ?_) rfl (by kernel_rfl) (by kernel_rfl) (by kernel_rfl) (fun _ _ _ h => h) (Or.inl ⟨by rfl, ?_⟩) (by assumption) ?_
            rotate_left
            · intro w hSw
              try dsimp only at hSw
              go_simp
              try with_reducible rfl
            simp only [Act.put, List.setIfInBounds_toArray, List.set_cons_zero, List.set_cons_succ]
            refine wpAnyH_take (i := 6) (oi := ⟨some 27, _, _, _, _, _⟩) (v := ?_) rfl (by kernel_rfl) (by kernel_rfl) (by kernel_rfl) (fun _ _ _ h => h) (Or.inl ⟨by rfl, ?_⟩) (by assumption) ?_
            rotate_left
            · intro w hSw
              try dsimp only at hSw
              go_simp
              try with_reducible rfl
            simp only [Act.put, List.setIfInBounds_toArray, List.set_cons_zero, List.set_cons_succ]
            refine wpAnyH_take (i := 7) (oi := ⟨some 28, _, _, _, _, _⟩) (v := ?_) rfl (by kernel_rfl) (by kernel_rfl) (by kernel_rfl) (fun _ _ _ h => h) (Or.inl ⟨by rfl, ?_⟩) (by assumption) ?_
            rotate_left
            · intro w hSw
              try dsimp only at hSw
              go_simp
              try with_reducible rfl
            simp only [Act.put, List.setIfInBounds_toArray, List.set_cons_zero, List.set_cons_succ]
            refine wpAnyH_ready (rs := [8]) (by kernel_rfl) (by simp) ?_
            refine AllReadyH.cons rfl (fun K hK => ?_) AllReadyH.nil
            go_simp
            obtain ⟨z6x0, z6x1⟩ := box2 (u := .slice none 0 0) (v := .slice none 0 0) w5 32
            have z6F := frzZ2 w5 32
            have z6B := alloc_below w5 (.cells #[.slice none 0 0, .slice none 0 0] 32)
            have z6L := alloc_lt w5 (.cells #[.slice none 0 0, .slice none 0 0] 32)
            have z6M := (hHeld.2.2.2.2.2.2).trans (z6B.mono (hHeld.2.2.2.2.2.2).size)
            generalize w5.alloc (.cells #[.slice none 0 0, .slice none 0 0] 32) = w6 at *
            refine hK.out _ _ ?_ (fun hHeld => ?_)
            · try dsimp only
              exact HSx.out _ z6M
            clear hK K
            have bl6 : w2.heap.size ≤ w5.heap.size := b5.size
            refine wpAnyH_ready (rs := [9]) (by kernel_rfl) (by simp) ?_
            refine AllReadyH.cons rfl (fun K hK => ?_) AllReadyH.nil
            go_simp
            refine hK.out _ _ ?_ (fun hHeld => ?_)
            · try dsimp only
              refine HSx.out _ ?_
              repeat (with_reducible refine Below.setCell ?_ ?_ _; rotate_left; (focus (exact (bl6))))
              exact (hHeld.2.2.2.2.2.2)
            clear hK K
            refine wpAnyH_take (i := 10) (oi := ⟨some 7, _, _, _, _, _⟩) (v := ?_) rfl (by kernel_rfl) (by kernel_rfl) (by kernel_rfl) (fun _ _ _ h => h) (Or.inl ⟨by rfl, ?_⟩) (by assumption) ?_
            rotate_left
            · intro w hSw
              try dsimp only at hSw
              go_simp
              try with_reducible rfl
            simp only [Act.put, List.setIfInBounds_toArray, List.set_cons_zero, List.set_cons_succ]
            have HE := hidP (hHeld.2.2.2.2.2.2)
            refine wpAnyH_done (by kernel_rfl) ?_ _
            clear hHeld
            have lo := fun k hk => OwnG.lt op5 k hk
            have lo' := fun k hk => OwnG.lt ob5 k hk
            have lb : w2.heap.size ≤ w4.heap.size := by first | exact b4.size | exact z4M.size
            have HF := hidP (And.intro (OwnG.mono (OwnG.later op5 z6B) lb) (And.intro (OwnG.mono (OwnG.later ob5 z6B) lb) ne5))
            have HLo := hidP (And.intro lo lo')
            clear lo lo' op5 ob5 ne5
            go_wp2_with fail
            go_meet
            refine ⟨_, ra5, rc5, rb5, rd5, rfl, rfl, bl6, ?_, ?_, ?_, OwnG.put2 HF.out.1 (fun k hk => by have := HLo.out.1 k hk; omega), OwnG.put2 HF.out.2.1 (fun k hk => by have := HLo.out.2 k hk; omega), HF.out.2.2, (fun k hk => by have := HLo.out.1 k hk; omega), (fun k hk => by have := HLo.out.2 k hk; omega), HE.out⟩
            · simp; exact z6L
            all_goals (simp [go_sem, z6x0, z6x1])
          · go_simp
            obtain ⟨z5x0, z5x1⟩ := box2 (u := .slice none 0 0) (v := .slice none 0 0) w4 32
            have z5F := frzZ2 w4 32
            have z5B := alloc_below w4 (.cells #[.slice none 0 0, .slice none 0 0] 32)
            have z5L := alloc_lt w4 (.cells #[.slice none 0 0, .slice none 0 0] 32)
            have z5M := (hHeld.2.2.2.2.2.2).trans (z5B.mono (hHeld.2.2.2.2.2.2).size)
            generalize w4.alloc (.cells #[.slice none 0 0, .slice none 0 0] 32) = w5 at *
            refine hK.out _ _ ?_ (fun hHeld => ?_)
            · try dsimp only
              exact HSx.out _ z5M
            clear hK K
            have bl5 : w2.heap.size ≤ w4.heap.size := b4.size
            refine wpAnyH_ready (rs := [4]) (by kernel_rfl) (by simp) ?_
            refine AllReadyH.cons rfl (fun K hK => ?_) AllReadyH.nil
            go_simp
            go_wp2_with (first | (go_at_call 21; refine (HSp.out g3 h3 _ (RowG.later (RowG.later og3.row hb4) z5B) (RowG.later (RowG.later oh3.row hb4) z5B)).mono ?_; rintro e w6 ⟨ra6, rc6, rb6, rd6, rfl, op6, ob6, ne6, hb6⟩; have b6 := (hHeld.2.2.2.2.2.2).trans (hb6.mono (hHeld.2.2.2.2.2.2).size)))
            refine hK.out _ _ ?_ (fun hHeld => ?_)
            · try dsimp only
              exact HSx.out _ b6
            clear hK K
            have z6x0 := (hb6.cell z5L).trans z5x0
            have z6x1 := (hb6.cell z5L).trans z5x1
            have z6F : ∀ o, w6.frozen? ⟨w4.heap.size, o, none⟩ = false := fun o => (hb6.frozen z5L).trans (z5F o)
            have z6L : w4.heap.size < w6.heap.size := Nat.lt_of_lt_of_le z5L hb6.size
            clear z5x0 z5x1 z5F
            refine wpAnyH_take (i := 5) (oi := ⟨some 21, _, _, _, _, _⟩) (v := ?_) rfl (by kernel_rfl) (by kernel_rfl) (by kernel_rfl) (fun _ _ _ h => h) (Or.inl ⟨by rfl, ?_⟩) (by assumption) ?_
            rotate_left
            · intro w hSw
              try dsimp only at hSw
              go_simp
              try with_reducible rfl
            simp only [Act.put, List.setIfInBounds_toArray, List.set_cons_zero, List.set_cons_succ]
            refine wpAnyH_take (i := 6) (oi := ⟨some 27, _, _, _, _, _⟩) (v := ?_) rfl (by kernel_rfl) (by kernel_rfl) (by kernel_rfl) (fun _ _ _ h => h) (Or.inl ⟨by rfl, ?_⟩) (by assumption) ?_
            rotate_left
            · intro w hSw
              try dsimp only at hSw
              go_simp
              try with_reducible rfl
            simp only [Act.put, List.setIfInBounds_toArray, List.set_cons_zero, List.set_cons_succ]
            refine wpAnyH_take (i := 7) (oi := ⟨some 28, _, _, _, _, _⟩) (v := ?_) rfl (by kernel_rfl) (by kernel_rfl) (by kernel_rfl) (fun _ _ _ h => h) (Or.inl ⟨by rfl, ?_⟩) (by assumption) ?_
            rotate_left
            · intro w hSw
              try dsimp only at hSw
              go_simp
              try with_reducible rfl
            simp only [Act.put, List.setIfInBounds_toArray, List.set_cons_zero, List.set_cons_succ]
            refine wpAnyH_ready (rs := [9]) (by kernel_rfl) (by simp) ?_
            refine AllReadyH.cons rfl (fun K hK => ?_) AllReadyH.nil
            go_simp
            refine hK.out _ _ ?_ (fun hHeld => ?_)
            · try dsimp only
              refine HSx.out _ ?_
              repeat (with_reducible refine Below.setCell ?_ ?_ _; rotate_left; (focus (exact (bl5))))
              exact (hHeld.2.2.2.2.2.2)
            clear hK K
            refine wpAnyH_take (i := 10) (oi := ⟨some 7, _, _, _, _, _⟩) (v := ?_) rfl (by kernel_rfl) (by kernel_rfl) (by kernel_rfl) (fun _ _ _ h => h) (Or.inl ⟨by rfl, ?_⟩) (by assumption) ?_
            rotate_left
            · intro w hSw
              try dsimp only at hSw
              go_simp
              try with_reducible rfl
            simp only [Act.put, List.setIfInBounds_toArray, List.set_cons_zero, List.set_cons_succ]
            have HE := hidP (hHeld.2.2.2.2.2.2)
            refine wpAnyH_done (by kernel_rfl) ?_ _
            clear hHeld
            have lo := fun k hk => OwnG.lt op6 k hk
            have lo' := fun k hk => OwnG.lt ob6 k hk
            have lb : w2.heap.size ≤ w5.heap.size := by first | exact b5.size | exact z5M.size
            have pl : w4.heap.size < w5.heap.size := z5L
            have HF := hidP (And.intro (OwnG.mono op6 lb) (And.intro (OwnG.mono ob6 lb) ne6))
            have HLo := hidP (And.intro lo lo')
            clear lo lo' op6 ob6 ne6
            go_wp2_with fail
            go_meet
            refine ⟨_, ra6, rc6, rb6, rd6, rfl, rfl, bl5, ?_, ?_, ?_, OwnG.put2 HF.out.1 (fun k hk => by have := HLo.out.1 k hk; omega), OwnG.put2 HF.out.2.1 (fun k hk => by have := HLo.out.2 k hk; omega), HF.out.2.2, (fun k hk => by have := HLo.out.1 k hk; omega), (fun k hk => by have := HLo.out.2 k hk; omega), HE.out⟩
            · simp; exact z6L
            all_goals (simp [go_sem, z6x0, z6x1])
        · go_simp
          obtain ⟨z4x0, z4x1⟩ := box2 (u := .slice none 0 0) (v := .slice none 0 0) w3 32
          have z4F := frzZ2 w3 32
          have z4B := alloc_below w3 (.cells #[.slice none 0 0, .slice none 0 0] 32)
          have z4L := alloc_lt w3 (.cells #[.slice none 0 0, .slice none 0 0] 32)
          have z4M := (hHeld.2.2.2.2.2.2).trans (z4B.mono (hHeld.2.2.2.2.2.2).size)
          generalize w3.alloc (.cells #[.slice none 0 0, .slice none 0 0] 32) = w4 at *
          refine hK.out _ _ ?_ (fun hHeld => ?_)
          · try dsimp only
            exact HSx.out _ z4M
          clear hK K
          have bl4 : w2.heap.size ≤ w3.heap.size := b3.size
          refine wpAnyH_ready (rs := [3]) (by kernel_rfl) (by simp) ?_
          refine AllReadyH.cons rfl (fun K hK => ?_) AllReadyH.nil
          go_simp
          go_wp2_with (first | (go_at_call 22; refine (HTp.out _).mono ?_; rintro e w5 ⟨rfl, hb5⟩; have b5 := (hHeld.2.2.2.2.2.2).trans (hb5.mono (hHeld.2.2.2.2.2.2).size)))
          refine hK.out _ _ ?_ (fun hHeld => ?_)
          · try dsimp only
            exact HSx.out _ b5
          clear hK K
          have z5x0 := (hb5.cell z4L).trans z4x0
          have z5x1 := (hb5.cell z4L).trans z4x1
          have z5F : ∀ o, w5.frozen? ⟨w3.heap.size, o, none⟩ = false := fun o => (hb5.frozen z4L).trans (z4F o)
          have z5L : w3.heap.size < w5.heap.size := Nat.lt_of_lt_of_le z4L hb5.size
          clear z4x0 z4x1 z4F
          refine wpAnyH_ready (rs := [4]) (by kernel_rfl) (by simp) ?_
          refine AllReadyH.cons rfl (fun K hK => ?_) AllReadyH.nil
          go_simp
          go_wp2_with (first | (go_at_call 21; refine (HSp.out g3 h3 _ (RowG.later (RowG.later og3.row z4B) hb5) (RowG.later (RowG.later oh3.row z4B) hb5)).mono ?_; rintro e w6 ⟨ra6, rc6, rb6, rd6, rfl, op6, ob6, ne6, hb6⟩; have b6 := (hHeld.2.2.2.2.2.2).trans (hb6.mono (hHeld.2.2.2.2.2.2).size)))
          refine hK.out _ _ ?_ (fun hHeld => ?_)
          · try dsimp only
            exact HSx.out _ b6
          clear hK K
          have z6x0 := (hb6.cell z5L).trans z5x0
          have z6x1 := (hb6.cell z5L).trans z5x1
          have z6F : ∀ o, w6.frozen? ⟨w3.heap.size, o, none⟩ = false := fun o => (hb6.frozen z5L).trans (z5F o)
          have z6L : w3.heap.size < w6.heap.size := Nat.lt_of_lt_of_le z5L hb6.size
          clear z5x0 z5x1 z5F
          refine wpAnyH_take (i := 5) (oi := ⟨some 21, _, _, _, _, _⟩) (v := ?_) rfl (by kernel_rfl) (by kernel_rfl) (by kernel_rfl) (fun _ _ _ h => h) (Or.inl ⟨by rfl, ?_⟩) (by assumption) ?_
          rotate_left
          · intro w hSw
            try dsimp only at hSw
            go_simp
            try with_reducible rfl
          simp only [Act.put, List.setIfInBounds_toArray, List.set_cons_zero, List.set_cons_succ]
          refine wpAnyH_take (i := 6) (oi := ⟨some 27, _, _, _, _, _⟩) (v := ?_) rfl (by kernel_rfl) (by kernel_rfl) (by kernel_rfl) (fun _ _ _ h => h) (Or.inl ⟨by rfl, ?_⟩) (by assumption) ?_
          rotate_left
          · intro w hSw
            try dsimp only at hSw
            go_simp
            try with_reducible rfl
          simp only [Act.put, List.setIfInBounds_toArray, List.set_cons_zero, List.set_cons_succ]
          refine wpAnyH_take (i := 7) (oi := ⟨some 28, _, _, _, _, _⟩) (v := ?_) rfl (by kernel_rfl) (by kernel_rfl) (by kernel_rfl) (fun _ _ _ h => h) (Or.inl ⟨by rfl, ?_⟩) (by assumption) ?_
          rotate_left
          · intro w hSw
            try dsimp only at hSw
            go_simp
            try with_reducible rfl
          simp only [Act.put, List.setIfInBounds_toArray, List.set_cons_zero, List.set_cons_succ]
          refine wpAnyH_ready (rs := [9]) (by kernel_rfl) (by simp) ?_
          refine AllReadyH.cons rfl (fun K hK => ?_) AllReadyH.nil
          go_simp
          refine hK.out _ _ ?_ (fun hHeld => ?_)
          · try dsimp only
            refine HSx.out _ ?_
            repeat (with_reducible refine Below.setCell ?_ ?_ _; rotate_left; (focus (exact (bl4))))
            exact (hHeld.2.2.2.2.2.2)
          clear hK K
          refine wpAnyH_take (i := 10) (oi := ⟨some 7, _, _, _, _, _⟩) (v := ?_) rfl (by kernel_rfl) (by kernel_rfl) (by kernel_rfl) (fun _ _ _ h => h) (Or.inl ⟨by rfl, ?_⟩) (by assumption) ?_
          rotate_left
          · intro w hSw
            try dsimp only at hSw
            go_simp
            try with_reducible rfl
          simp only [Act.put, List.setIfInBounds_toArray, List.set_cons_zero, List.set_cons_succ]
          have HE := hidP (hHeld.2.2.2.2.2.2)
          refine wpAnyH_done (by kernel_rfl) ?_ _
          clear hHeld
          have lo := fun k hk => OwnG.lt op6 k hk
          have lo' := fun k hk => OwnG.lt ob6 k hk
          have lb : w2.heap.size ≤ w5.heap.size := by first | exact b5.size | exact z5M.size
          have pl : w3.heap.size < w5.heap.size := z5L
          have HF := hidP (And.intro (OwnG.mono op6 lb) (And.intro (OwnG.mono ob6 lb) ne6))
          have HLo := hidP (And.intro lo lo')
          clear lo lo' op6 ob6 ne6
          go_wp2_with fail
          go_meet
          refine ⟨_, ra6, rc6, rb6, rd6, rfl, rfl, bl4, ?_, ?_, ?_, OwnG.put2 HF.out.1 (fun k hk => by have := HLo.out.1 k hk; omega), OwnG.put2 HF.out.2.1 (fun k hk => by have := HLo.out.2 k hk; omega), HF.out.2.2, (fun k hk => by have := HLo.out.1 k hk; omega), (fun k hk => by have := HLo.out.2 k hk; omega), HE.out⟩
          · simp; exact z6L
          all_goals (simp [go_sem, z6x0, z6x1])
      · go_simp
        obtain ⟨z3x0, z3x1⟩ := box2 (u := .slice none 0 0) (v := .slice none 0 0) w2 32
        have z3F := frzZ2 w2 32
        have z3B := alloc_below w2 (.cells #[.slice none 0 0, .slice none 0 0] 32)
        have z3L := alloc_lt w2 (.cells #[.slice none 0 0, .slice none 0 0] 32)
        have z3x0 := (drew_cell (w2.alloc (.cells #[.slice none 0 0, .slice none 0 0] 32)) _).trans z3x0
        have z3x1 := (drew_cell (w2.alloc (.cells #[.slice none 0 0, .slice none 0 0] 32)) _).trans z3x1
        have z3F := fun o => (drew_frozen (w2.alloc (.cells #[.slice none 0 0, .slice none 0 0] 32)) _).trans (z3F o)
        have z3L := drew_size_lt z3L
        have z3M := z3B.drew
        generalize (w2.alloc (.cells #[.slice none 0 0, .slice none 0 0] 32)).drew = w3 at *
        refine hK.out _ _ ?_ (fun hHeld => ?_)
        · try dsimp only
          exact HSx.out _ z3M
        clear hK K
        have bl3 : w2.heap.size ≤ w2.heap.size := Nat.le_refl _
        refine wpAnyH_ready (rs := [1]) (by kernel_rfl) (by simp) ?_
        refine AllReadyH.cons rfl (fun K hK => ?_) AllReadyH.nil
        go_simp
        go_wp2_with (first | (go_at_call 13; refine (HTo.out _ (acc_w2.out.trans ((hHeld.2.2.2.2.2.2).mono acc_w2.out.size))).mono ?_; rintro e w4 ⟨g4, h4, rfl, og4, oh4, gh4, hb4⟩; have b4 := (hHeld.2.2.2.2.2.2).trans (hb4.mono (hHeld.2.2.2.2.2.2).size)))
        refine hK.out _ _ ?_ (fun hHeld => ?_)
        · try dsimp only
          exact HSx.out _ b4
        clear hK K
        have z4x0 := (hb4.cell z3L).trans z3x0
        have z4x1 := (hb4.cell z3L).trans z3x1
        have z4F : ∀ o, w4.frozen? ⟨w2.heap.size, o, none⟩ = false := fun o => (hb4.frozen z3L).trans (z3F o)
        have z4L : w2.heap.size < w4.heap.size := Nat.lt_of_lt_of_le z3L hb4.size
        clear z3x0 z3x1 z3F
        refine wpAnyH_ready (rs := [3]) (by kernel_rfl) (by simp) ?_
        refine AllReadyH.cons rfl (fun K hK => ?_) AllReadyH.nil
        go_simp
        go_wp2_with (first | (go_at_call 22; refine (HTp.out _).mono ?_; rintro e w5 ⟨rfl, hb5⟩; have b5 := (hHeld.2.2.2.2.2.2).trans (hb5.mono (hHeld.2.2.2.2.2.2).size)))
        refine hK.out _ _ ?_ (fun hHeld => ?_)
        · try dsimp only
          exact HSx.out _ b5
        clear hK K
        have z5x0 := (hb5.cell z4L).trans z4x0
        have z5x1 := (hb5.cell z4L).trans z4x1
        have z5F : ∀ o, w5.frozen? ⟨w2.heap.size, o, none⟩ = false := fun o => (hb5.frozen z4L).trans (z4F o)
        have z5L : w2.heap.size < w5.heap.size := Nat.lt_of_lt_of_le z4L hb5.size
        clear z4x0 z4x1 z4F
        refine wpAnyH_ready (rs := [4]) (by kernel_rfl) (by simp) ?_
        refine AllReadyH.cons rfl (fun K hK => ?_) AllReadyH.nil
        go_simp
        go_wp2_with (first | (go_at_call 21; refine (HSp.out g4 h4 _ (RowG.later og4.row hb5) (RowG.later oh4.row hb5)).mono ?_; rintro e w6 ⟨ra6, rc6, rb6, rd6, rfl, op6, ob6, ne6, hb6⟩; have b6 := (hHeld.2.2.2.2.2.2).trans (hb6.mono (hHeld.2.2.2.2.2.2).size)))
        refine hK.out _ _ ?_ (fun hHeld => ?_)
        · try dsimp only
          exact HSx.out _ b6
        clear hK K
        have z6x0 := (hb6.cell z5L).trans z5x0
        have z6x1 := (hb6.cell z5L).trans z5x1
        have z6F : ∀ o, w6.frozen? ⟨w2.heap.size, o, none⟩ = false := fun o => (hb6.frozen z5L).trans (z5F o)
        have z6L : w2.heap.size < w6.heap.size := Nat.lt_of_lt_of_le z5L hb6.size
        clear z5x0 z5x1 z5F
        refine wpAnyH_take (i := 5) (oi := ⟨some 21, _, _, _, _, _⟩) (v := ?_) rfl (by kernel_rfl) (by kernel_rfl) (by kernel_rfl) (fun _ _ _ h => h) (Or.inl ⟨by rfl, ?_⟩) (by assumption) ?_
        rotate_left
        · intro w hSw
          try dsimp only at hSw
          go_simp
          try with_reducible rfl
        simp only [Act.put, List.setIfInBounds_toArray, List.set_cons_zero, List.set_cons_succ]
        refine wpAnyH_take (i := 6) (oi := ⟨some 27, _, _, _, _, _⟩) (v := ?_) rfl (by kernel_rfl) (by kernel_rfl) (by kernel_rfl) (fun _ _ _ h => h) (Or.inl ⟨by rfl, ?_⟩) (by assumption) ?_
        rotate_left
        · intro w hSw
          try dsimp only at hSw
          go_simp
          try with_reducible rfl
        simp only [Act.put, List.setIfInBounds_toArray, List.set_cons_zero, List.set_cons_succ]
        refine wpAnyH_take (i := 7) (oi := ⟨some 28, _, _, _, _, _⟩) (v := ?_) rfl (by kernel_rfl) (by kernel_rfl) (by kernel_rfl) (fun _ _ _ h => h) (Or.inl ⟨by rfl, ?_⟩) (by assumption) ?_
        rotate_left
        · intro w hSw
          try dsimp only at hSw
          go_simp
          try with_reducible rfl
        simp only [Act.put, List.setIfInBounds_toArray, List.set_cons_zero, List.set_cons_succ]
        refine wpAnyH_ready (rs := [9]) (by kernel_rfl) (by simp) ?_
        refine AllReadyH.cons rfl (fun K hK => ?_) AllReadyH.nil
        go_simp
        refine hK.out _ _ ?_ (fun hHeld => ?_)
        · try dsimp only
          refine HSx.out _ ?_
          repeat (with_reducible refine Below.setCell ?_ ?_ _; rotate_left; (focus (exact (bl3))))
          exact (hHeld.2.2.2.2.2.2)
        clear hK K
        refine wpAnyH_take (i := 10) (oi := ⟨some 7, _, _, _, _, _⟩) (v := ?_) rfl (by kernel_rfl) (by kernel_rfl) (by kernel_rfl) (fun _ _ _ h => h) (Or.inl ⟨by rfl, ?_⟩) (by assumption) ?_
        rotate_left
        · intro w hSw
          try dsimp only at hSw
          go_simp
          try with_reducible rfl
        simp only [Act.put, List.setIfInBounds_toArray, List.set_cons_zero, List.set_cons_succ]
        have HE := hidP (hHeld.2.2.2.2.2.2)
        refine wpAnyH_done (by kernel_rfl) ?_ _
        clear hHeld
        have lo := fun k hk => OwnG.lt op6 k hk
        have lo' := fun k hk => OwnG.lt ob6 k hk
        have lb : w2.heap.size ≤ w5.heap.size := by first | exact b5.size | exact z5M.size
        have pl : w2.heap.size < w5.heap.size := z5L
        have HF := hidP (And.intro (OwnG.mono op6 lb) (And.intro (OwnG.mono ob6 lb) ne6))
        have HLo := hidP (And.intro lo lo')
        clear lo lo' op6 ob6 ne6
        go_wp2_with fail
        go_meet
        refine ⟨_, ra6, rc6, rb6, rd6, rfl, rfl, bl3, ?_, ?_, ?_, OwnG.put2 HF.out.1 (fun k hk => by have := HLo.out.1 k hk; omega), OwnG.put2 HF.out.2.1 (fun k hk => by have := HLo.out.2 k hk; omega), HF.out.2.2, (fun k hk => by have := HLo.out.1 k hk; omega), (fun k hk => by have := HLo.out.2 k hk; omega), HE.out⟩
        · simp; exact z6L
        all_goals (simp [go_sem, z6x0, z6x1])
    case rest =>
      obtain ⟨p1, a1, c1, b1, d1', rfl, rfl, hp1, qL, q0, q1, op1, ob1, ne1, np1, nb1, hX⟩ := hcut
      have qLo := qL
      have hSB := hidP (fun j hj => (OwnG.lt op1 j hj).2)
      have hTB := hidP (fun j hj => (OwnG.lt ob1 j hj).2)
      have oS_1 := hidP op1
      have oT_1 := hidP ob1
      have lp0_wc := (hX.cell lpL_w2).trans lp0_w2
      have lp1_wc := (hX.cell lpL_w2).trans lp1_w2
      have lpL_wc : w.heap.size < wc.heap.size := Nat.lt_of_lt_of_le lpL_w2 hX.size
      have lq0_wc := (hX.cell lqL_w2).trans lq0_w2
      have lq1_wc := (hX.cell lqL_w2).trans lq1_w2
      have lq2_wc := (hX.cell lqL_w2).trans lq2_w2
      have lq3_wc := (hX.cell lqL_w2).trans lq3_w2
      have lqL_wc : w.heap.size + 1 < wc.heap.size := Nat.lt_of_lt_of_le lqL_w2 hX.size
      have acc_wc := hidP (acc_w2.out.trans (hX.mono acc_w2.out.size))
      have sz_wc := hX.size
      have szA : w.heap.size + 1 < wc.heap.size := lqL_wc
      clear lp0_w2 lp1_w2 lpL_w2 lq0_w2 lq1_w2 lq2_w2 lq3_w2 lqL_w2 hX op1 ob1 ne1 np1 nb1 acc_w2
      go_wp2_with fail
      refine (HTo.out _ acc_wc.out).mono ?_
      rintro e w5 ⟨g2, h2, rfl, og2, oh2, gh2, hb5⟩
      have lg2 := OwnG.lt og2 g2 rfl
      have lh2 := OwnG.lt oh2 h2 rfl
      have lp0_w5 := (hb5.cell lpL_wc).trans lp0_wc
      have lp1_w5 := (hb5.cell lpL_wc).trans lp1_wc
      have lpL_w5 : w.heap.size < w5.heap.size := Nat.lt_of_lt_of_le lpL_wc hb5.size
      have lq0_w5 := (hb5.cell lqL_wc).trans lq0_wc
      have lq1_w5 := (hb5.cell lqL_wc).trans lq1_wc
      have lq2_w5 := (hb5.cell lqL_wc).trans lq2_wc
      have lq3_w5 := (hb5.cell lqL_wc).trans lq3_wc
      have lqL_w5 : w.heap.size + 1 < w5.heap.size := Nat.lt_of_lt_of_le lqL_wc hb5.size
      have q0_w5 := (hb5.cell qL).trans q0
      have q1_w5 := (hb5.cell qL).trans q1
      have qL_w5 : p1 < w5.heap.size := Nat.lt_of_lt_of_le qL hb5.size
      have oS_w5 := hidP (OwnG.later oS_1.out hb5)
      have oT_w5 := hidP (OwnG.later oT_1.out hb5)
      have acc_w5 := hidP (acc_wc.out.trans (hb5.mono acc_wc.out.size))
      have sz_w5 := hb5.size
      have oG_w5 := hidP og2
      have oH_w5 := hidP oh2
      clear lp0_wc lp1_wc lpL_wc lq0_wc lq1_wc lq2_wc lq3_wc lqL_wc q0 q1 qL oS_1 oT_1 hb5 og2 oh2 acc_wc
      go_upto_region 7 with fail
      obtain ⟨v0, v1⟩ := box2 (u := .slice (some ⟨g2, 0, none⟩) np np) (v := .slice (some ⟨h2, 0, none⟩) nb nb) w5 32
      have vB := alloc_below w5 (.cells #[.slice (some ⟨g2, 0, none⟩) np np, .slice (some ⟨h2, 0, none⟩) nb nb] 32)
      have vL := alloc_lt w5 (.cells #[.slice (some ⟨g2, 0, none⟩) np np, .slice (some ⟨h2, 0, none⟩) nb nb] 32)
      have vS : (w5.alloc (.cells #[.slice (some ⟨g2, 0, none⟩) np np, .slice (some ⟨h2, 0, none⟩) nb nb] 32)).heap.size = w5.heap.size + 1 := by simp
      generalize w5.alloc (.cells #[.slice (some ⟨g2, 0, none⟩) np np, .slice (some ⟨h2, 0, none⟩) nb nb] 32) = W6 at *
      have lp0_W6 := (vB.cell lpL_w5).trans lp0_w5
      have lp1_W6 := (vB.cell lpL_w5).trans lp1_w5
      have lpL_W6 : w.heap.size < W6.heap.size := Nat.lt_of_lt_of_le lpL_w5 vB.size
      have lq0_W6 := (vB.cell lqL_w5).trans lq0_w5
      have lq1_W6 := (vB.cell lqL_w5).trans lq1_w5
      have lq2_W6 := (vB.cell lqL_w5).trans lq2_w5
      have lq3_W6 := (vB.cell lqL_w5).trans lq3_w5
      have lqL_W6 : w.heap.size + 1 < W6.heap.size := Nat.lt_of_lt_of_le lqL_w5 vB.size
      have q0_W6 := (vB.cell qL_w5).trans q0_w5
      have q1_W6 := (vB.cell qL_w5).trans q1_w5
      have qL_W6 : p1 < W6.heap.size := Nat.lt_of_lt_of_le qL_w5 vB.size
      have oS_W6 := hidP (OwnG.later oS_w5.out vB)
      have oT_W6 := hidP (OwnG.later oT_w5.out vB)
      have oG_W6 := hidP (OwnG.later oG_w5.out vB)
      have oH_W6 := hidP (OwnG.later oH_w5.out vB)
      have acc_W6 := hidP (acc_w5.out.trans (vB.mono acc_w5.out.size))
      have sz_W6 := vB.size
      clear lp0_w5 lp1_w5 lpL_w5 lq0_w5 lq1_w5 lq2_w5 lq3_w5 lqL_w5 q0_w5 q1_w5 qL_w5 oS_w5 oT_w5 oG_w5 oH_w5 vB vS acc_w5
      go_cut [9, 10] (fun t9 t10 X => ∃ (p : Nat) (a : Option Addr) (c : Nat) (b : Option Addr) (d : Nat), t9 = .pointer (some ⟨p, 0, none⟩) ∧ t10 = .int .i64 C ∧ W6.heap.size ≤ p ∧ p < X.heap.size ∧ X.cell? ⟨p, 0, none⟩ = some (.slice a NP c) ∧ X.cell? ⟨p, 1, none⟩ = some (.slice b NB d) ∧ OwnG KPl 48 X W6.heap.size (.slice a NP c) PS ∧ OwnG KBk 56 X W6.heap.size (.slice b NB d) BS ∧ (∀ k, (Value.slice a NP c).ownBlock = some k → (Value.slice b NB d).ownBlock ≠ some k) ∧ (∀ k, (Value.slice a NP c).ownBlock = some k → k ≠ p) ∧ (∀ k, (Value.slice b NB d).ownBlock = some k → k ≠ p) ∧ Below W6.heap.size W6 X)
      case first =>
        have HSx : Hid (∀ x, Below W6.heap.size W6 x → (x.cell? ⟨w5.heap.size, 0, none⟩ = some (.slice (some ⟨g2, 0, none⟩) np np) ∧ x.cell? ⟨w5.heap.size, 1, none⟩ = some (.slice (some ⟨h2, 0, none⟩) nb nb) ∧ x.cell? ⟨w.heap.size + 1, 0, none⟩ = some (.bool pt.s) ∧ x.cell? ⟨w.heap.size + 1, 1, none⟩ = some (.int .i64 pt.H.toInt) ∧ x.cell? ⟨w.heap.size + 1, 2, none⟩ = some (.int .i64 pt.L.toInt) ∧ x.cell? ⟨w.heap.size + 1, 3, none⟩ = some (.int .i64 pt.b) ∧ Below W6.heap.size W6 x)) := hidP fun x h =>
          ⟨(h.cell vL).trans v0, (h.cell vL).trans v1, (h.cell lqL_W6).trans lq0_W6, (h.cell lqL_W6).trans lq1_W6, (h.cell lqL_W6).trans lq2_W6, (h.cell lqL_W6).trans lq3_W6, h⟩
        refine wp_region_held_drew (S := (fun x => x.cell? ⟨w5.heap.size, 0, none⟩ = some (.slice (some ⟨g2, 0, none⟩) np np) ∧ x.cell? ⟨w5.heap.size, 1, none⟩ = some (.slice (some ⟨h2, 0, none⟩) nb nb) ∧ x.cell? ⟨w.heap.size + 1, 0, none⟩ = some (.bool pt.s) ∧ x.cell? ⟨w.heap.size + 1, 1, none⟩ = some (.int .i64 pt.H.toInt) ∧ x.cell? ⟨w.heap.size + 1, 2, none⟩ = some (.int .i64 pt.L.toInt) ∧ x.cell? ⟨w.heap.size + 1, 3, none⟩ = some (.int .i64 pt.b) ∧ Below W6.heap.size W6 x)) (by kernel_rfl) ?_ (fun hHeld => ?_)
        · try dsimp only
          exact HSx.out _ (Below.refl _ _).drew
        refine wpAnyH_take (i := 0) (oi := ⟨some 32, _, _, _, _, _⟩) (v := ?_) rfl (by kernel_rfl) (by kernel_rfl) (by kernel_rfl) (fun _ _ _ h => h) (Or.inl ⟨by rfl, ?_⟩) (by assumption) ?_
        rotate_left
        · intro w hSw
          try dsimp only at hSw
          go_simp
          try with_reducible rfl
        simp only [Act.put, List.setIfInBounds_toArray, List.set_cons_zero, List.set_cons_succ]
        refine wpAnyH_take (i := 1) (oi := ⟨some 33, _, _, _, _, _⟩) (v := ?_) rfl (by kernel_rfl) (by kernel_rfl) (by kernel_rfl) (fun _ _ _ h => h) (Or.inl ⟨by rfl, ?_⟩) (by assumption) ?_
        rotate_left
        · intro w hSw
          try dsimp only at hSw
          go_simp
          try with_reducible rfl
        simp only [Act.put, List.setIfInBounds_toArray, List.set_cons_zero, List.set_cons_succ]
        refine wpAnyH_ready (rs := [2, 7]) (by kernel_rfl) (by simp) ?_
        refine AllReadyH.cons rfl (fun K hK => ?_) (AllReadyH.cons rfl (fun K hK => ?_) AllReadyH.nil)
        · go_simp
          go_wp2_with (first | (go_at_call 22; refine (HTp.out _).mono ?_; rintro e w7 ⟨rfl, hb7⟩; have b7 := (hHeld.2.2.2.2.2.2).trans (hb7.mono (hHeld.2.2.2.2.2.2).size)))
          refine hK.out _ _ ?_ (fun hHeld => ?_)
          · try dsimp only
            exact HSx.out _ b7
          clear hK K
          refine wpAnyH_ready (rs := [3, 7]) (by kernel_rfl) (by simp) ?_
          refine AllReadyH.cons rfl (fun K hK => ?_) (AllReadyH.cons rfl (fun K hK => ?_) AllReadyH.nil)
          · go_simp
            go_wp2_with (first | (go_at_call 23; refine (HIm.out g2 h2 _ (oG_W6.out.row.later (hHeld.2.2.2.2.2.2)) (oH_W6.out.row.later (hHeld.2.2.2.2.2.2))).mono ?_; rintro e w8 ⟨ra8, rc8, rb8, rd8, rfl, op8, ob8, ne8, hb8⟩; have b8 := (hHeld.2.2.2.2.2.2).trans (hb8.mono (hHeld.2.2.2.2.2.2).size)))
            refine hK.out _ _ ?_ (fun hHeld => ?_)
            · try dsimp only
              exact HSx.out _ b8
            clear hK K
            refine wpAnyH_take (i := 4) (oi := ⟨some 31, _, _, _, _, _⟩) (v := ?_) rfl (by kernel_rfl) (by kernel_rfl) (by kernel_rfl) (fun _ _ _ h => h) (Or.inl ⟨by rfl, ?_⟩) (by assumption) ?_
            rotate_left
            · intro w hSw
              try dsimp only at hSw
              go_simp
              try with_reducible rfl
            simp only [Act.put, List.setIfInBounds_toArray, List.set_cons_zero, List.set_cons_succ]
            refine wpAnyH_take (i := 5) (oi := ⟨some 36, _, _, _, _, _⟩) (v := ?_) rfl (by kernel_rfl) (by kernel_rfl) (by kernel_rfl) (fun _ _ _ h => h) (Or.inl ⟨by rfl, ?_⟩) (by assumption) ?_
            rotate_left
            · intro w hSw
              try dsimp only at hSw
              go_simp
              try with_reducible rfl
            simp only [Act.put, List.setIfInBounds_toArray, List.set_cons_zero, List.set_cons_succ]
            refine wpAnyH_take (i := 6) (oi := ⟨some 37, _, _, _, _, _⟩) (v := ?_) rfl (by kernel_rfl) (by kernel_rfl) (by kernel_rfl) (fun _ _ _ h => h) (Or.inl ⟨by rfl, ?_⟩) (by assumption) ?_
            rotate_left
            · intro w hSw
              try dsimp only at hSw
              go_simp
              try with_reducible rfl
            simp only [Act.put, List.setIfInBounds_toArray, List.set_cons_zero, List.set_cons_succ]
            refine wpAnyH_ready (rs := [7]) (by kernel_rfl) (by simp) ?_
            refine AllReadyH.cons rfl (fun K hK => ?_) AllReadyH.nil
            go_simp
            obtain ⟨z9x0, z9x1⟩ := box2 (u := .slice none 0 0) (v := .slice none 0 0) w8 32
            have z9F := frzZ2 w8 32
            have z9B := alloc_below w8 (.cells #[.slice none 0 0, .slice none 0 0] 32)
            have z9L := alloc_lt w8 (.cells #[.slice none 0 0, .slice none 0 0] 32)
            have z9M := (hHeld.2.2.2.2.2.2).trans (z9B.mono (hHeld.2.2.2.2.2.2).size)
            generalize w8.alloc (.cells #[.slice none 0 0, .slice none 0 0] 32) = w9 at *
            refine hK.out _ _ ?_ (fun hHeld => ?_)
            · try dsimp only
              exact HSx.out _ z9M
            clear hK K
            have bl9 : W6.heap.size ≤ w8.heap.size := b8.size
            refine wpAnyH_ready (rs := [8]) (by kernel_rfl) (by simp) ?_
            refine AllReadyH.cons rfl (fun K hK => ?_) AllReadyH.nil
            go_simp
            refine hK.out _ _ ?_ (fun hHeld => ?_)
            · try dsimp only
              refine HSx.out _ ?_
              repeat (with_reducible refine Below.setCell ?_ ?_ _; rotate_left; (focus (exact (bl9))))
              exact (hHeld.2.2.2.2.2.2)
            clear hK K
            refine wpAnyH_take (i := 9) (oi := ⟨some 10, _, _, _, _, _⟩) (v := ?_) rfl (by kernel_rfl) (by kernel_rfl) (by kernel_rfl) (fun _ _ _ h => h) (Or.inl ⟨by rfl, ?_⟩) (by assumption) ?_
            rotate_left
            · intro w hSw
              try dsimp only at hSw
              go_simp
              try with_reducible rfl
            simp only [Act.put, List.setIfInBounds_toArray, List.set_cons_zero, List.set_cons_succ]
            have HE := hidP (hHeld.2.2.2.2.2.2)
            refine wpAnyH_done (by kernel_rfl) ?_ _
            clear hHeld
            have lo := fun k hk => OwnG.lt op8 k hk
            have lo' := fun k hk => OwnG.lt ob8 k hk
            have lb : W6.heap.size ≤ w7.heap.size := by first | exact b7.size | exact z7M.size
            have HF := hidP (And.intro (OwnG.mono (OwnG.later op8 z9B) lb) (And.intro (OwnG.mono (OwnG.later ob8 z9B) lb) ne8))
            have HLo := hidP (And.intro lo lo')
            clear lo lo' op8 ob8 ne8
            go_wp2_with fail
            go_meet
            refine ⟨_, ra8, rc8, rb8, rd8, rfl, rfl, bl9, ?_, ?_, ?_, OwnG.put2 HF.out.1 (fun k hk => by have := HLo.out.1 k hk; omega), OwnG.put2 HF.out.2.1 (fun k hk => by have := HLo.out.2 k hk; omega), HF.out.2.2, (fun k hk => by have := HLo.out.1 k hk; omega), (fun k hk => by have := HLo.out.2 k hk; omega), HE.out⟩
            · simp; exact z9L
            all_goals (simp [go_sem, z9x0, z9x1])
          · go_simp
            obtain ⟨z8x0, z8x1⟩ := box2 (u := .slice none 0 0) (v := .slice none 0 0) w7 32
            have z8F := frzZ2 w7 32
            have z8B := alloc_below w7 (.cells #[.slice none 0 0, .slice none 0 0] 32)
            have z8L := alloc_lt w7 (.cells #[.slice none 0 0, .slice none 0 0] 32)
            have z8M := (hHeld.2.2.2.2.2.2).trans (z8B.mono (hHeld.2.2.2.2.2.2).size)
            generalize w7.alloc (.cells #[.slice none 0 0, .slice none 0 0] 32) = w8 at *
            refine hK.out _ _ ?_ (fun hHeld => ?_)
            · try dsimp only
              exact HSx.out _ z8M
            clear hK K
            have bl8 : W6.heap.size ≤ w7.heap.size := b7.size
            refine wpAnyH_ready (rs := [3]) (by kernel_rfl) (by simp) ?_
            refine AllReadyH.cons rfl (fun K hK => ?_) AllReadyH.nil
            go_simp
            go_wp2_with (first | (go_at_call 23; refine (HIm.out g2 h2 _ (oG_W6.out.row.later (hHeld.2.2.2.2.2.2)) (oH_W6.out.row.later (hHeld.2.2.2.2.2.2))).mono ?_; rintro e w9 ⟨ra9, rc9, rb9, rd9, rfl, op9, ob9, ne9, hb9⟩; have b9 := (hHeld.2.2.2.2.2.2).trans (hb9.mono (hHeld.2.2.2.2.2.2).size)))
            refine hK.out _ _ ?_ (fun hHeld => ?_)
            · try dsimp only
              exact HSx.out _ b9
            clear hK K
            have z9x0 := (hb9.cell z8L).trans z8x0
            have z9x1 := (hb9.cell z8L).trans z8x1
            have z9F : ∀ o, w9.frozen? ⟨w7.heap.size, o, none⟩ = false := fun o => (hb9.frozen z8L).trans (z8F o)
            have z9L : w7.heap.size < w9.heap.size := Nat.lt_of_lt_of_le z8L hb9.size
            clear z8x0 z8x1 z8F
            refine wpAnyH_take (i := 4) (oi := ⟨some 31, _, _, _, _, _⟩) (v := ?_) rfl (by kernel_rfl) (by kernel_rfl) (by kernel_rfl) (fun _ _ _ h => h) (Or.inl ⟨by rfl, ?_⟩) (by assumption) ?_
            rotate_left
            · intro w hSw
              try dsimp only at hSw
              go_simp
              try with_reducible rfl
            simp only [Act.put, List.setIfInBounds_toArray, List.set_cons_zero, List.set_cons_succ]
            refine wpAnyH_take (i := 5) (oi := ⟨some 36, _, _, _, _, _⟩) (v := ?_) rfl (by kernel_rfl) (by kernel_rfl) (by kernel_rfl) (fun _ _ _ h => h) (Or.inl ⟨by rfl, ?_⟩) (by assumption) ?_
            rotate_left
            · intro w hSw
              try dsimp only at hSw
              go_simp
              try with_reducible rfl
            simp only [Act.put, List.setIfInBounds_toArray, List.set_cons_zero, List.set_cons_succ]
            refine wpAnyH_take (i := 6) (oi := ⟨some 37, _, _, _, _, _⟩) (v := ?_) rfl (by kernel_rfl) (by kernel_rfl) (by kernel_rfl) (fun _ _ _ h => h) (Or.inl ⟨by rfl, ?_⟩) (by assumption) ?_
            rotate_left
            · intro w hSw
              try dsimp only at hSw
              go_simp
              try with_reducible rfl
            simp only [Act.put, List.setIfInBounds_toArray, List.set_cons_zero, List.set_cons_succ]
            refine wpAnyH_ready (rs := [8]) (by kernel_rfl) (by simp) ?_
            refine AllReadyH.cons rfl (fun K hK => ?_) AllReadyH.nil
            go_simp
            refine hK.out _ _ ?_ (fun hHeld => ?_)
            · try dsimp only
              refine HSx.out _ ?_
              repeat (with_reducible refine Below.setCell ?_ ?_ _; rotate_left; (focus (exact (bl8))))
              exact (hHeld.2.2.2.2.2.2)
            clear hK K
            refine wpAnyH_take (i := 9) (oi := ⟨some 10, _, _, _, _, _⟩) (v := ?_) rfl (by kernel_rfl) (by kernel_rfl) (by kernel_rfl) (fun _ _ _ h => h) (Or.inl ⟨by rfl, ?_⟩) (by assumption) ?_
            rotate_left
            · intro w hSw
              try dsimp only at hSw
              go_simp
              try with_reducible rfl
            simp only [Act.put, List.setIfInBounds_toArray, List.set_cons_zero, List.set_cons_succ]
            have HE := hidP (hHeld.2.2.2.2.2.2)
            refine wpAnyH_done (by kernel_rfl) ?_ _
            clear hHeld
            have lo := fun k hk => OwnG.lt op9 k hk
            have lo' := fun k hk => OwnG.lt ob9 k hk
            have lb : W6.heap.size ≤ w8.heap.size := by first | exact b8.size | exact z8M.size
            have pl : w7.heap.size < w8.heap.size := z8L
            have HF := hidP (And.intro (OwnG.mono op9 lb) (And.intro (OwnG.mono ob9 lb) ne9))
            have HLo := hidP (And.intro lo lo')
            clear lo lo' op9 ob9 ne9
            go_wp2_with fail
            go_meet
            refine ⟨_, ra9, rc9, rb9, rd9, rfl, rfl, bl8, ?_, ?_, ?_, OwnG.put2 HF.out.1 (fun k hk => by have := HLo.out.1 k hk; omega), OwnG.put2 HF.out.2.1 (fun k hk => by have := HLo.out.2 k hk; omega), HF.out.2.2, (fun k hk => by have := HLo.out.1 k hk; omega), (fun k hk => by have := HLo.out.2 k hk; omega), HE.out⟩
            · simp; exact z9L
            all_goals (simp [go_sem, z9x0, z9x1])
        · go_simp
          obtain ⟨z7x0, z7x1⟩ := box2 (u := .slice none 0 0) (v := .slice none 0 0) W6 32
          have z7F := frzZ2 W6 32
          have z7B := alloc_below W6 (.cells #[.slice none 0 0, .slice none 0 0] 32)
          have z7L := alloc_lt W6 (.cells #[.slice none 0 0, .slice none 0 0] 32)
          have z7x0 := (drew_cell (W6.alloc (.cells #[.slice none 0 0, .slice none 0 0] 32)) _).trans z7x0
          have z7x1 := (drew_cell (W6.alloc (.cells #[.slice none 0 0, .slice none 0 0] 32)) _).trans z7x1
          have z7F := fun o => (drew_frozen (W6.alloc (.cells #[.slice none 0 0, .slice none 0 0] 32)) _).trans (z7F o)
          have z7L := drew_size_lt z7L
          have z7M := z7B.drew
          generalize (W6.alloc (.cells #[.slice none 0 0, .slice none 0 0] 32)).drew = w7 at *
          refine hK.out _ _ ?_ (fun hHeld => ?_)
          · try dsimp only
            exact HSx.out _ z7M
          clear hK K
          have bl7 : W6.heap.size ≤ W6.heap.size := Nat.le_refl _
          refine wpAnyH_ready (rs := [2]) (by kernel_rfl) (by simp) ?_
          refine AllReadyH.cons rfl (fun K hK => ?_) AllReadyH.nil
          go_simp
          go_wp2_with (first | (go_at_call 22; refine (HTp.out _).mono ?_; rintro e w8 ⟨rfl, hb8⟩; have b8 := (hHeld.2.2.2.2.2.2).trans (hb8.mono (hHeld.2.2.2.2.2.2).size)))
          refine hK.out _ _ ?_ (fun hHeld => ?_)
          · try dsimp only
            exact HSx.out _ b8
          clear hK K
          have z8x0 := (hb8.cell z7L).trans z7x0
          have z8x1 := (hb8.cell z7L).trans z7x1
          have z8F : ∀ o, w8.frozen? ⟨W6.heap.size, o, none⟩ = false := fun o => (hb8.frozen z7L).trans (z7F o)
          have z8L : W6.heap.size < w8.heap.size := Nat.lt_of_lt_of_le z7L hb8.size
          clear z7x0 z7x1 z7F
          refine wpAnyH_ready (rs := [3]) (by kernel_rfl) (by simp) ?_
          refine AllReadyH.cons rfl (fun K hK => ?_) AllReadyH.nil
          go_simp
          go_wp2_with (first | (go_at_call 23; refine (HIm.out g2 h2 _ (oG_W6.out.row.later (hHeld.2.2.2.2.2.2)) (oH_W6.out.row.later (hHeld.2.2.2.2.2.2))).mono ?_; rintro e w9 ⟨ra9, rc9, rb9, rd9, rfl, op9, ob9, ne9, hb9⟩; have b9 := (hHeld.2.2.2.2.2.2).trans (hb9.mono (hHeld.2.2.2.2.2.2).size)))
          refine hK.out _ _ ?_ (fun hHeld => ?_)
          · try dsimp only
            exact HSx.out _ b9
          clear hK K
          have z9x0 := (hb9.cell z8L).trans z8x0
          have z9x1 := (hb9.cell z8L).trans z8x1
          have z9F : ∀ o, w9.frozen? ⟨W6.heap.size, o, none⟩ = false := fun o => (hb9.frozen z8L).trans (z8F o)
          have z9L : W6.heap.size < w9.heap.size := Nat.lt_of_lt_of_le z8L hb9.size
          clear z8x0 z8x1 z8F
          refine wpAnyH_take (i := 4) (oi := ⟨some 31, _, _, _, _, _⟩) (v := ?_) rfl (by kernel_rfl) (by kernel_rfl) (by kernel_rfl) (fun _ _ _ h => h) (Or.inl ⟨by rfl, ?_⟩) (by assumption) ?_
          rotate_left
          · intro w hSw
            try dsimp only at hSw
            go_simp
            try with_reducible rfl
          simp only [Act.put, List.setIfInBounds_toArray, List.set_cons_zero, List.set_cons_succ]
          refine wpAnyH_take (i := 5) (oi := ⟨some 36, _, _, _, _, _⟩) (v := ?_) rfl (by kernel_rfl) (by kernel_rfl) (by kernel_rfl) (fun _ _ _ h => h) (Or.inl ⟨by rfl, ?_⟩) (by assumption) ?_
          rotate_left
          · intro w hSw
            try dsimp only at hSw
            go_simp
            try with_reducible rfl
          simp only [Act.put, List.setIfInBounds_toArray, List.set_cons_zero, List.set_cons_succ]
          refine wpAnyH_take (i := 6) (oi := ⟨some 37, _, _, _, _, _⟩) (v := ?_) rfl (by kernel_rfl) (by kernel_rfl) (by kernel_rfl) (fun _ _ _ h => h) (Or.inl ⟨by rfl, ?_⟩) (by assumption) ?_
          rotate_left
          · intro w hSw
            try dsimp only at hSw
            go_simp
            try with_reducible rfl
          simp only [Act.put, List.setIfInBounds_toArray, List.set_cons_zero, List.set_cons_succ]
          refine wpAnyH_ready (rs := [8]) (by kernel_rfl) (by simp) ?_
          refine AllReadyH.cons rfl (fun K hK => ?_) AllReadyH.nil
          go_simp
          refine hK.out _ _ ?_ (fun hHeld => ?_)
          · try dsimp only
            refine HSx.out _ ?_
            repeat (with_reducible refine Below.setCell ?_ ?_ _; rotate_left; (focus (exact (bl7))))
            exact (hHeld.2.2.2.2.2.2)
          clear hK K
          refine wpAnyH_take (i := 9) (oi := ⟨some 10, _, _, _, _, _⟩) (v := ?_) rfl (by kernel_rfl) (by kernel_rfl) (by kernel_rfl) (fun _ _ _ h => h) (Or.inl ⟨by rfl, ?_⟩) (by assumption) ?_
          rotate_left
          · intro w hSw
            try dsimp only at hSw
            go_simp
            try with_reducible rfl
          simp only [Act.put, List.setIfInBounds_toArray, List.set_cons_zero, List.set_cons_succ]
          have HE := hidP (hHeld.2.2.2.2.2.2)
          refine wpAnyH_done (by kernel_rfl) ?_ _
          clear hHeld
          have lo := fun k hk => OwnG.lt op9 k hk
          have lo' := fun k hk => OwnG.lt ob9 k hk
          have lb : W6.heap.size ≤ w8.heap.size := by first | exact b8.size | exact z8M.size
          have pl : W6.heap.size < w8.heap.size := z8L
          have HF := hidP (And.intro (OwnG.mono op9 lb) (And.intro (OwnG.mono ob9 lb) ne9))
          have HLo := hidP (And.intro lo lo')
          clear lo lo' op9 ob9 ne9
          go_wp2_with fail
          go_meet
          refine ⟨_, ra9, rc9, rb9, rd9, rfl, rfl, bl7, ?_, ?_, ?_, OwnG.put2 HF.out.1 (fun k hk => by have := HLo.out.1 k hk; omega), OwnG.put2 HF.out.2.1 (fun k hk => by have := HLo.out.2 k hk; omega), HF.out.2.2, (fun k hk => by have := HLo.out.1 k hk; omega), (fun k hk => by have := HLo.out.2 k hk; omega), HE.out⟩
          · simp; exact z9L
          all_goals (simp [go_sem, z9x0, z9x1])
      case rest =>
        obtain ⟨p2, a2, c2, b2, d2', rfl, rfl, hp2, rL, r0, r1, op2, ob2, ne2, np2, nb2, hX⟩ := hcut
        have HNE := hidP ne2
        have HNQ := hidP (And.intro np2 nb2)
        have oI_1 := hidP op2
        have oJ_1 := hidP ob2
        have lp0_wc := (hX.cell lpL_W6).trans lp0_W6
        have lp1_wc := (hX.cell lpL_W6).trans lp1_W6
        have lpL_wc : w.heap.size < wc.heap.size := Nat.lt_of_lt_of_le lpL_W6 hX.size
        have lq0_wc := (hX.cell lqL_W6).trans lq0_W6
        have lq1_wc := (hX.cell lqL_W6).trans lq1_W6
        have lq2_wc := (hX.cell lqL_W6).trans lq2_W6
        have lq3_wc := (hX.cell lqL_W6).trans lq3_W6
        have lqL_wc : w.heap.size + 1 < wc.heap.size := Nat.lt_of_lt_of_le lqL_W6 hX.size
        have q0_wc := (hX.cell qL_W6).trans q0_W6
        have q1_wc := (hX.cell qL_W6).trans q1_W6
        have qL_wc : p1 < wc.heap.size := Nat.lt_of_lt_of_le qL_W6 hX.size
        have x00_wc := (hX.cell vL).trans v0
        have x01_wc := (hX.cell vL).trans v1
        have x0L_wc : w5.heap.size < wc.heap.size := Nat.lt_of_lt_of_le vL hX.size
        have oS_wc := hidP (OwnG.later oS_W6.out hX)
        have oT_wc := hidP (OwnG.later oT_W6.out hX)
        have oG_wc := hidP (OwnG.later oG_W6.out hX)
        have oH_wc := hidP (OwnG.later oH_W6.out hX)
        have acc_wc := hidP (acc_W6.out.trans (hX.mono acc_W6.out.size))
        have sz_wc := hX.size
        clear lp0_W6 lp1_W6 lpL_W6 lq0_W6 lq1_W6 lq2_W6 lq3_W6 lqL_W6 q0_W6 q1_W6 qL_W6 v0 v1 vL oS_W6 oT_W6 oG_W6 oH_W6 hX op2 ob2 ne2 np2 nb2 acc_W6
        go_wp2_with fail
        refine (HEr.out _ a2 c2 b2 d2' a1 c1 b1 d1' oI_1.out.row oS_wc.out.row oJ_1.out.row oT_wc.out.row).mono ?_
        rintro e w8 ⟨rfl, hb_w8⟩
        have lp0_w8 := (hb_w8.cell lpL_wc).trans lp0_wc
        have lp1_w8 := (hb_w8.cell lpL_wc).trans lp1_wc
        have lpL_w8 : w.heap.size < w8.heap.size := Nat.lt_of_lt_of_le lpL_wc hb_w8.size
        have lq0_w8 := (hb_w8.cell lqL_wc).trans lq0_wc
        have lq1_w8 := (hb_w8.cell lqL_wc).trans lq1_wc
        have lq2_w8 := (hb_w8.cell lqL_wc).trans lq2_wc
        have lq3_w8 := (hb_w8.cell lqL_wc).trans lq3_wc
        have lqL_w8 : w.heap.size + 1 < w8.heap.size := Nat.lt_of_lt_of_le lqL_wc hb_w8.size
        have q0_w8 := (hb_w8.cell qL_wc).trans q0_wc
        have q1_w8 := (hb_w8.cell qL_wc).trans q1_wc
        have qL_w8 : p1 < w8.heap.size := Nat.lt_of_lt_of_le qL_wc hb_w8.size
        have x00_w8 := (hb_w8.cell x0L_wc).trans x00_wc
        have x01_w8 := (hb_w8.cell x0L_wc).trans x01_wc
        have x0L_w8 : w5.heap.size < w8.heap.size := Nat.lt_of_lt_of_le x0L_wc hb_w8.size
        have r0_w8 := (hb_w8.cell rL).trans r0
        have r1_w8 := (hb_w8.cell rL).trans r1
        have rL_w8 : p2 < w8.heap.size := Nat.lt_of_lt_of_le rL hb_w8.size
        have oS_w8 := hidP (OwnG.later oS_wc.out hb_w8)
        have oT_w8 := hidP (OwnG.later oT_wc.out hb_w8)
        have oG_w8 := hidP (OwnG.later oG_wc.out hb_w8)
        have oH_w8 := hidP (OwnG.later oH_wc.out hb_w8)
        have oI_w8 := hidP (OwnG.later oI_1.out hb_w8)
        have oJ_w8 := hidP (OwnG.later oJ_1.out hb_w8)
        have acc_w8 := hidP (acc_wc.out.trans (hb_w8.mono acc_wc.out.size))
        have sz_w8 := hb_w8.size
        clear lp0_wc lp1_wc lpL_wc lq0_wc lq1_wc lq2_wc lq3_wc lqL_wc q0_wc q1_wc qL_wc x00_wc x01_wc x0L_wc r0 r1 rL oS_wc oT_wc oG_wc oH_wc oI_1 oJ_1 hb_w8 acc_wc
        go_wp2_with fail
        have HSx : Hid (∀ x, Below w8.heap.size w8 x → (x.cell? ⟨w.heap.size, 0, none⟩ = some (.slice ap np cp) ∧ x.cell? ⟨w.heap.size, 1, none⟩ = some (.slice ab nb cb) ∧ x.cell? ⟨w5.heap.size, 0, none⟩ = some (.slice (some ⟨g2, 0, none⟩) np np) ∧ x.cell? ⟨w5.heap.size, 1, none⟩ = some (.slice (some ⟨h2, 0, none⟩) nb nb) ∧ Below w8.heap.size w8 x)) := hidP fun x h =>
          ⟨(h.cell lpL_w8).trans lp0_w8, (h.cell lpL_w8).trans lp1_w8, (h.cell x0L_w8).trans x00_w8, (h.cell x0L_w8).trans x01_w8, h⟩
        refine wp_region_held_drew (S := (fun x => x.cell? ⟨w.heap.size, 0, none⟩ = some (.slice ap np cp) ∧ x.cell? ⟨w.heap.size, 1, none⟩ = some (.slice ab nb cb) ∧ x.cell? ⟨w5.heap.size, 0, none⟩ = some (.slice (some ⟨g2, 0, none⟩) np np) ∧ x.cell? ⟨w5.heap.size, 1, none⟩ = some (.slice (some ⟨h2, 0, none⟩) nb nb) ∧ Below w8.heap.size w8 x)) (by kernel_rfl) ?_ (fun hHeld => ?_)
        · try dsimp only
          exact HSx.out _ ((Below.refl _ _).drew)
        refine wpAnyH_take (i := 0) (oi := ⟨some 47, _, _, _, _, _⟩) (v := ?_) rfl (by kernel_rfl) (by kernel_rfl) (by kernel_rfl) (fun _ _ _ h => h) (Or.inl ⟨by rfl, ?_⟩) (by assumption) ?_
        rotate_left
        · intro w hSw
          try dsimp only at hSw
          go_simp
          try with_reducible rfl
        simp only [Act.put, List.setIfInBounds_toArray, List.set_cons_zero, List.set_cons_succ]
        refine wpAnyH_take (i := 1) (oi := ⟨some 48, _, _, _, _, _⟩) (v := ?_) rfl (by kernel_rfl) (by kernel_rfl) (by kernel_rfl) (fun _ _ _ h => h) (Or.inl ⟨by rfl, ?_⟩) (by assumption) ?_
        rotate_left
        · intro w hSw
          try dsimp only at hSw
          go_simp
          try with_reducible rfl
        simp only [Act.put, List.setIfInBounds_toArray, List.set_cons_zero, List.set_cons_succ]
        refine wpAnyH_ready (rs := [2]) (by kernel_rfl) (by simp) ?_
        refine AllReadyH.cons rfl (fun K hK => ?_) AllReadyH.nil
        go_simp
        go_wp2_with (first | (go_at_call 13; refine (HTo.out _ (acc_w8.out.trans ((hHeld.2.2.2.2).mono acc_w8.out.size))).mono ?_; rintro e w9 ⟨g3, h3, rfl, og3, oh3, gh3, hb9⟩; have b9 := (hHeld.2.2.2.2).trans (hb9.mono (hHeld.2.2.2.2).size)))
        refine hK.out _ _ ?_ (fun hHeld => ?_)
        · try dsimp only
          exact HSx.out _ b9
        clear hK K
        refine wpAnyH_ready (rs := [3]) (by kernel_rfl) (by simp) ?_
        refine AllReadyH.cons rfl (fun K hK => ?_) AllReadyH.nil
        go_simp
        go_wp2_with (first | (go_at_call 15; refine (HEq.out _ g2 h2 g3 h3 (RowG.later oG_w8.out.row (hHeld.2.2.2.2)) og3.row (RowG.later oH_w8.out.row (hHeld.2.2.2.2)) oh3.row).mono ?_; rintro e w10 ⟨rfl, hb10⟩; have b10 := (hHeld.2.2.2.2).trans (hb10.mono (hHeld.2.2.2.2).size)))
        refine hK.out _ _ ?_ (fun hHeld => ?_)
        · try dsimp only
          exact HSx.out _ b10
        clear hK K
        refine wpAnyH_take (i := 4) (oi := ⟨some 51, _, _, _, _, _⟩) (v := ?_) rfl (by kernel_rfl) (by kernel_rfl) (by kernel_rfl) (fun _ _ _ h => h) (Or.inl ⟨by rfl, ?_⟩) (by assumption) ?_
        rotate_left
        · intro w hSw
          try dsimp only at hSw
          go_simp
          try with_reducible rfl
        simp only [Act.put, List.setIfInBounds_toArray, List.set_cons_zero, List.set_cons_succ]
        have HE := hidP (hHeld.2.2.2.2)
        refine wpAnyH_done (by kernel_rfl) ?_ _
        clear hHeld
        have hb10 := HE.out
        have lp0_w10 := (hb10.cell lpL_w8).trans lp0_w8
        have lp1_w10 := (hb10.cell lpL_w8).trans lp1_w8
        have lpL_w10 : w.heap.size < w10.heap.size := Nat.lt_of_lt_of_le lpL_w8 hb10.size
        have lq0_w10 := (hb10.cell lqL_w8).trans lq0_w8
        have lq1_w10 := (hb10.cell lqL_w8).trans lq1_w8
        have lq2_w10 := (hb10.cell lqL_w8).trans lq2_w8
        have lq3_w10 := (hb10.cell lqL_w8).trans lq3_w8
        have lqL_w10 : w.heap.size + 1 < w10.heap.size := Nat.lt_of_lt_of_le lqL_w8 hb10.size
        have q0_w10 := (hb10.cell qL_w8).trans q0_w8
        have q1_w10 := (hb10.cell qL_w8).trans q1_w8
        have qL_w10 : p1 < w10.heap.size := Nat.lt_of_lt_of_le qL_w8 hb10.size
        have x00_w10 := (hb10.cell x0L_w8).trans x00_w8
        have x01_w10 := (hb10.cell x0L_w8).trans x01_w8
        have x0L_w10 : w5.heap.size < w10.heap.size := Nat.lt_of_lt_of_le x0L_w8 hb10.size
        have r0_w10 := (hb10.cell rL_w8).trans r0_w8
        have r1_w10 := (hb10.cell rL_w8).trans r1_w8
        have rL_w10 : p2 < w10.heap.size := Nat.lt_of_lt_of_le rL_w8 hb10.size
        have oS_w10 := hidP (OwnG.later oS_w8.out hb10)
        have oT_w10 := hidP (OwnG.later oT_w8.out hb10)
        have oG_w10 := hidP (OwnG.later oG_w8.out hb10)
        have oH_w10 := hidP (OwnG.later oH_w8.out hb10)
        have oI_w10 := hidP (OwnG.later oI_w8.out hb10)
        have oJ_w10 := hidP (OwnG.later oJ_w8.out hb10)
        have acc_w10 := hidP (acc_w8.out.trans (hb10.mono acc_w8.out.size))
        have sz_w10 := hb10.size
        clear lp0_w8 lp1_w8 lpL_w8 lq0_w8 lq1_w8 lq2_w8 lq3_w8 lqL_w8 q0_w8 q1_w8 qL_w8 x00_w8 x01_w8 x0L_w8 r0_w8 r1_w8 rL_w8 oS_w8 oT_w8 oG_w8 oH_w8 oI_w8 oJ_w8 hb10 acc_w8 og3 oh3 gh3 hb9 b9 b10 HSx HE
        go_wp2_with fail
        refine (HMk.out w10 g2 h2 _ oG_w10.out oH_w10.out (fun j h1 h2' => by simp [Value.ownBlock] at h1 h2'; omega)).mono ?_
        rintro e w11 ⟨rfl, om1, om2, wm, hgm, hgn⟩
        have lS := lg2.1
        have lS' := lh2.1
        have lS2 := lg2.2
        have lS3 := lh2.2
        clear x00_w10 x01_w10 x0L_w10
        clear oG_w10 oH_w10
        have lp0_wm := (World.cell?_of_block (hgm.block (w.heap.size) lpL_w10 (fun he => by simp [Value.ownBlock] at he; omega))).trans lp0_w10
        have lp1_wm := (World.cell?_of_block (hgm.block (w.heap.size) lpL_w10 (fun he => by simp [Value.ownBlock] at he; omega))).trans lp1_w10
        have lpL_wm : w.heap.size < wm.heap.size := Nat.lt_of_lt_of_le lpL_w10 hgm.size
        have lq0_wm := (World.cell?_of_block (hgm.block (w.heap.size + 1) lqL_w10 (fun he => by simp [Value.ownBlock] at he; omega))).trans lq0_w10
        have lq1_wm := (World.cell?_of_block (hgm.block (w.heap.size + 1) lqL_w10 (fun he => by simp [Value.ownBlock] at he; omega))).trans lq1_w10
        have lq2_wm := (World.cell?_of_block (hgm.block (w.heap.size + 1) lqL_w10 (fun he => by simp [Value.ownBlock] at he; omega))).trans lq2_w10
        have lq3_wm := (World.cell?_of_block (hgm.block (w.heap.size + 1) lqL_w10 (fun he => by simp [Value.ownBlock] at he; omega))).trans lq3_w10
        have lqL_wm : w.heap.size + 1 < wm.heap.size := Nat.lt_of_lt_of_le lqL_w10 hgm.size
        have q0_wm := (World.cell?_of_block (hgm.block (p1) qL_w10 (fun he => by simp [Value.ownBlock] at he; omega))).trans q0_w10
        have q1_wm := (World.cell?_of_block (hgm.block (p1) qL_w10 (fun he => by simp [Value.ownBlock] at he; omega))).trans q1_w10
        have qL_wm : p1 < wm.heap.size := Nat.lt_of_lt_of_le qL_w10 hgm.size
        have r0_wm := (World.cell?_of_block (hgm.block (p2) rL_w10 (fun he => by simp [Value.ownBlock] at he; omega))).trans r0_w10
        have r1_wm := (World.cell?_of_block (hgm.block (p2) rL_w10 (fun he => by simp [Value.ownBlock] at he; omega))).trans r1_w10
        have rL_wm : p2 < wm.heap.size := Nat.lt_of_lt_of_le rL_w10 hgm.size
        have oS_wm := hidP (OwnG.grown oS_w10.out hgm (fun j hj he => by have hl := hSB.out j hj; simp [Value.ownBlock] at he; omega))
        have oT_wm := hidP (OwnG.grown oT_w10.out hgm (fun j hj he => by have hl := hTB.out j hj; simp [Value.ownBlock] at he; omega))
        have oI_wm := hidP (OwnG.grown oI_w10.out hgm (fun j hj he => by have hl := OwnG.lt oI_w10.out j hj; simp [Value.ownBlock] at he; omega))
        have oJ_wm := hidP (OwnG.grown oJ_w10.out hgm (fun j hj he => by have hl := OwnG.lt oJ_w10.out j hj; simp [Value.ownBlock] at he; omega))
        have acc_wm := hidP (acc_w10.out.grown hgm acc_w10.out.size (fun j he => by simp [Value.ownBlock] at he; omega))
        have sz_wm := hgm.size
        clear lp0_w10 lp1_w10 lpL_w10 lq0_w10 lq1_w10 lq2_w10 lq3_w10 lqL_w10 q0_w10 q1_w10 qL_w10 r0_w10 r1_w10 rL_w10 oS_w10 oT_w10 oI_w10 oJ_w10 hgm acc_w10
        have lp0_w11 := (World.cell?_of_block (hgn.block (w.heap.size) lpL_wm (fun he => by simp [Value.ownBlock] at he; omega))).trans lp0_wm
        have lp1_w11 := (World.cell?_of_block (hgn.block (w.heap.size) lpL_wm (fun he => by simp [Value.ownBlock] at he; omega))).trans lp1_wm
        have lpL_w11 : w.heap.size < w11.heap.size := Nat.lt_of_lt_of_le lpL_wm hgn.size
        have lq0_w11 := (World.cell?_of_block (hgn.block (w.heap.size + 1) lqL_wm (fun he => by simp [Value.ownBlock] at he; omega))).trans lq0_wm
        have lq1_w11 := (World.cell?_of_block (hgn.block (w.heap.size + 1) lqL_wm (fun he => by simp [Value.ownBlock] at he; omega))).trans lq1_wm
        have lq2_w11 := (World.cell?_of_block (hgn.block (w.heap.size + 1) lqL_wm (fun he => by simp [Value.ownBlock] at he; omega))).trans lq2_wm
        have lq3_w11 := (World.cell?_of_block (hgn.block (w.heap.size + 1) lqL_wm (fun he => by simp [Value.ownBlock] at he; omega))).trans lq3_wm
        have lqL_w11 : w.heap.size + 1 < w11.heap.size := Nat.lt_of_lt_of_le lqL_wm hgn.size
        have q0_w11 := (World.cell?_of_block (hgn.block (p1) qL_wm (fun he => by simp [Value.ownBlock] at he; omega))).trans q0_wm
        have q1_w11 := (World.cell?_of_block (hgn.block (p1) qL_wm (fun he => by simp [Value.ownBlock] at he; omega))).trans q1_wm
        have qL_w11 : p1 < w11.heap.size := Nat.lt_of_lt_of_le qL_wm hgn.size
        have r0_w11 := (World.cell?_of_block (hgn.block (p2) rL_wm (fun he => by simp [Value.ownBlock] at he; omega))).trans r0_wm
        have r1_w11 := (World.cell?_of_block (hgn.block (p2) rL_wm (fun he => by simp [Value.ownBlock] at he; omega))).trans r1_wm
        have rL_w11 : p2 < w11.heap.size := Nat.lt_of_lt_of_le rL_wm hgn.size
        have oS_w11 := hidP (OwnG.grown oS_wm.out hgn (fun j hj he => by have hl := hSB.out j hj; simp [Value.ownBlock] at he; omega))
        have oT_w11 := hidP (OwnG.grown oT_wm.out hgn (fun j hj he => by have hl := hTB.out j hj; simp [Value.ownBlock] at he; omega))
        have oI_w11 := hidP (OwnG.grown oI_wm.out hgn (fun j hj he => by have hl := OwnG.lt oI_wm.out j hj; simp [Value.ownBlock] at he; omega))
        have oJ_w11 := hidP (OwnG.grown oJ_wm.out hgn (fun j hj he => by have hl := OwnG.lt oJ_wm.out j hj; simp [Value.ownBlock] at he; omega))
        have acc_w11 := hidP (acc_wm.out.grown hgn acc_wm.out.size (fun j he => by simp [Value.ownBlock] at he; omega))
        have sz_w11 := hgn.size
        clear lp0_wm lp1_wm lpL_wm lq0_wm lq1_wm lq2_wm lq3_wm lqL_wm q0_wm q1_wm qL_wm r0_wm r1_wm rL_wm oS_wm oT_wm oI_wm oJ_wm hgn om1 om2 acc_wm
        go_wp2_with fail
        refine (HEr.out _ a2 c2 b2 d2' a1 c1 b1 d1' oI_w11.out.row oS_w11.out.row oJ_w11.out.row oT_w11.out.row).mono ?_
        rintro e w12 ⟨rfl, hb_w12⟩
        have lp0_w12 := (hb_w12.cell lpL_w11).trans lp0_w11
        have lp1_w12 := (hb_w12.cell lpL_w11).trans lp1_w11
        have lpL_w12 : w.heap.size < w12.heap.size := Nat.lt_of_lt_of_le lpL_w11 hb_w12.size
        have lq0_w12 := (hb_w12.cell lqL_w11).trans lq0_w11
        have lq1_w12 := (hb_w12.cell lqL_w11).trans lq1_w11
        have lq2_w12 := (hb_w12.cell lqL_w11).trans lq2_w11
        have lq3_w12 := (hb_w12.cell lqL_w11).trans lq3_w11
        have lqL_w12 : w.heap.size + 1 < w12.heap.size := Nat.lt_of_lt_of_le lqL_w11 hb_w12.size
        have q0_w12 := (hb_w12.cell qL_w11).trans q0_w11
        have q1_w12 := (hb_w12.cell qL_w11).trans q1_w11
        have qL_w12 : p1 < w12.heap.size := Nat.lt_of_lt_of_le qL_w11 hb_w12.size
        have r0_w12 := (hb_w12.cell rL_w11).trans r0_w11
        have r1_w12 := (hb_w12.cell rL_w11).trans r1_w11
        have rL_w12 : p2 < w12.heap.size := Nat.lt_of_lt_of_le rL_w11 hb_w12.size
        have oS_w12 := hidP (OwnG.later oS_w11.out hb_w12)
        have oT_w12 := hidP (OwnG.later oT_w11.out hb_w12)
        have oI_w12 := hidP (OwnG.later oI_w11.out hb_w12)
        have oJ_w12 := hidP (OwnG.later oJ_w11.out hb_w12)
        have acc_w12 := hidP (acc_w11.out.trans (hb_w12.mono acc_w11.out.size))
        have sz_w12 := hb_w12.size
        clear lp0_w11 lp1_w11 lpL_w11 lq0_w11 lq1_w11 lq2_w11 lq3_w11 lqL_w11 q0_w11 q1_w11 qL_w11 r0_w11 r1_w11 rL_w11 oS_w11 oT_w11 oI_w11 oJ_w11 hb_w12 acc_w11
        go_wp2_with fail
        refine (HMr.out w12 a2 c2 b2 d2' _ oI_w12.out oJ_w12.out HNE.out).mono ?_
        rintro e w13 ⟨rfl, om3, om4, wn, hgi, hgj⟩
        have hlI := fun j hj => OwnG.lt oI_w12.out j hj
        have hlJ := fun j hj => OwnG.lt oJ_w12.out j hj
        have lp0_wn := (World.cell?_of_block (hgi.block (w.heap.size) lpL_w12 (fun he => by have hl := hlI _ he.symm; omega))).trans lp0_w12
        have lp1_wn := (World.cell?_of_block (hgi.block (w.heap.size) lpL_w12 (fun he => by have hl := hlI _ he.symm; omega))).trans lp1_w12
        have lpL_wn : w.heap.size < wn.heap.size := Nat.lt_of_lt_of_le lpL_w12 hgi.size
        have lq0_wn := (World.cell?_of_block (hgi.block (w.heap.size + 1) lqL_w12 (fun he => by have hl := hlI _ he.symm; omega))).trans lq0_w12
        have lq1_wn := (World.cell?_of_block (hgi.block (w.heap.size + 1) lqL_w12 (fun he => by have hl := hlI _ he.symm; omega))).trans lq1_w12
        have lq2_wn := (World.cell?_of_block (hgi.block (w.heap.size + 1) lqL_w12 (fun he => by have hl := hlI _ he.symm; omega))).trans lq2_w12
        have lq3_wn := (World.cell?_of_block (hgi.block (w.heap.size + 1) lqL_w12 (fun he => by have hl := hlI _ he.symm; omega))).trans lq3_w12
        have lqL_wn : w.heap.size + 1 < wn.heap.size := Nat.lt_of_lt_of_le lqL_w12 hgi.size
        have q0_wn := (World.cell?_of_block (hgi.block (p1) qL_w12 (fun he => by have hl := hlI _ he.symm; omega))).trans q0_w12
        have q1_wn := (World.cell?_of_block (hgi.block (p1) qL_w12 (fun he => by have hl := hlI _ he.symm; omega))).trans q1_w12
        have qL_wn : p1 < wn.heap.size := Nat.lt_of_lt_of_le qL_w12 hgi.size
        have r0_wn := (World.cell?_of_block (hgi.block (p2) rL_w12 (fun he => HNQ.out.1 _ he.symm rfl))).trans r0_w12
        have r1_wn := (World.cell?_of_block (hgi.block (p2) rL_w12 (fun he => HNQ.out.1 _ he.symm rfl))).trans r1_w12
        have rL_wn : p2 < wn.heap.size := Nat.lt_of_lt_of_le rL_w12 hgi.size
        have oS_wn := hidP (OwnG.grown oS_w12.out hgi (fun j hj he => by have hl := hSB.out j hj; have hl2 := hlI j he; omega))
        have oT_wn := hidP (OwnG.grown oT_w12.out hgi (fun j hj he => by have hl := hTB.out j hj; have hl2 := hlI j he; omega))
        have acc_wn := hidP (acc_w12.out.grown hgi acc_w12.out.size (fun j he => by have hl := hlI j he; omega))
        have sz_wn := hgi.size
        clear lp0_w12 lp1_w12 lpL_w12 lq0_w12 lq1_w12 lq2_w12 lq3_w12 lqL_w12 q0_w12 q1_w12 qL_w12 r0_w12 r1_w12 rL_w12 oS_w12 oT_w12 hgi acc_w12
        have lp0_w13 := (World.cell?_of_block (hgj.block (w.heap.size) lpL_wn (fun he => by have hl := hlJ _ he.symm; omega))).trans lp0_wn
        have lp1_w13 := (World.cell?_of_block (hgj.block (w.heap.size) lpL_wn (fun he => by have hl := hlJ _ he.symm; omega))).trans lp1_wn
        have lpL_w13 : w.heap.size < w13.heap.size := Nat.lt_of_lt_of_le lpL_wn hgj.size
        have lq0_w13 := (World.cell?_of_block (hgj.block (w.heap.size + 1) lqL_wn (fun he => by have hl := hlJ _ he.symm; omega))).trans lq0_wn
        have lq1_w13 := (World.cell?_of_block (hgj.block (w.heap.size + 1) lqL_wn (fun he => by have hl := hlJ _ he.symm; omega))).trans lq1_wn
        have lq2_w13 := (World.cell?_of_block (hgj.block (w.heap.size + 1) lqL_wn (fun he => by have hl := hlJ _ he.symm; omega))).trans lq2_wn
        have lq3_w13 := (World.cell?_of_block (hgj.block (w.heap.size + 1) lqL_wn (fun he => by have hl := hlJ _ he.symm; omega))).trans lq3_wn
        have lqL_w13 : w.heap.size + 1 < w13.heap.size := Nat.lt_of_lt_of_le lqL_wn hgj.size
        have q0_w13 := (World.cell?_of_block (hgj.block (p1) qL_wn (fun he => by have hl := hlJ _ he.symm; omega))).trans q0_wn
        have q1_w13 := (World.cell?_of_block (hgj.block (p1) qL_wn (fun he => by have hl := hlJ _ he.symm; omega))).trans q1_wn
        have qL_w13 : p1 < w13.heap.size := Nat.lt_of_lt_of_le qL_wn hgj.size
        have r0_w13 := (World.cell?_of_block (hgj.block (p2) rL_wn (fun he => HNQ.out.2 _ he.symm rfl))).trans r0_wn
        have r1_w13 := (World.cell?_of_block (hgj.block (p2) rL_wn (fun he => HNQ.out.2 _ he.symm rfl))).trans r1_wn
        have rL_w13 : p2 < w13.heap.size := Nat.lt_of_lt_of_le rL_wn hgj.size
        have oS_w13 := hidP (OwnG.grown oS_wn.out hgj (fun j hj he => by have hl := hSB.out j hj; have hl2 := hlJ j he; omega))
        have oT_w13 := hidP (OwnG.grown oT_wn.out hgj (fun j hj he => by have hl := hTB.out j hj; have hl2 := hlJ j he; omega))
        have acc_w13 := hidP (acc_wn.out.grown hgj acc_wn.out.size (fun j he => by have hl := hlJ j he; omega))
        have sz_w13 := hgj.size
        have oI_w13 := hidP om3
        have oJ_w13 := hidP om4
        clear lp0_wn lp1_wn lpL_wn lq0_wn lq1_wn lq2_wn lq3_wn lqL_wn q0_wn q1_wn qL_wn r0_wn r1_wn rL_wn oS_wn oT_wn hgj om3 om4 acc_wn hlI hlJ oI_w12 oJ_w12
        go_wp2_with fail
        refine (HHd.out _ a2 c2 b2 d2' oI_w13.out.row oJ_w13.out.row).mono ?_
        rintro e w14 ⟨rfl, hb14⟩
        have lp0_w14 := (hb14.cell lpL_w13).trans lp0_w13
        have lp1_w14 := (hb14.cell lpL_w13).trans lp1_w13
        have lpL_w14 : w.heap.size < w14.heap.size := Nat.lt_of_lt_of_le lpL_w13 hb14.size
        have lq0_w14 := (hb14.cell lqL_w13).trans lq0_w13
        have lq1_w14 := (hb14.cell lqL_w13).trans lq1_w13
        have lq2_w14 := (hb14.cell lqL_w13).trans lq2_w13
        have lq3_w14 := (hb14.cell lqL_w13).trans lq3_w13
        have lqL_w14 : w.heap.size + 1 < w14.heap.size := Nat.lt_of_lt_of_le lqL_w13 hb14.size
        have q0_w14 := (hb14.cell qL_w13).trans q0_w13
        have q1_w14 := (hb14.cell qL_w13).trans q1_w13
        have qL_w14 : p1 < w14.heap.size := Nat.lt_of_lt_of_le qL_w13 hb14.size
        have r0_w14 := (hb14.cell rL_w13).trans r0_w13
        have r1_w14 := (hb14.cell rL_w13).trans r1_w13
        have rL_w14 : p2 < w14.heap.size := Nat.lt_of_lt_of_le rL_w13 hb14.size
        have oS_w14 := hidP (OwnG.later oS_w13.out hb14)
        have oT_w14 := hidP (OwnG.later oT_w13.out hb14)
        have oI_w14 := hidP (OwnG.later oI_w13.out hb14)
        have oJ_w14 := hidP (OwnG.later oJ_w13.out hb14)
        have acc_w14 := hidP (acc_w13.out.trans (hb14.mono acc_w13.out.size))
        have sz_w14 := hb14.size
        clear lp0_w13 lp1_w13 lpL_w13 lq0_w13 lq1_w13 lq2_w13 lq3_w13 lqL_w13 q0_w13 q1_w13 qL_w13 r0_w13 r1_w13 rL_w13 oS_w13 oT_w13 oI_w13 oJ_w13 hb14 acc_w13
        go_upto_region 24 with fail
        go_cut [14, 15] (fun t14 t15 X => ∃ (p : Nat) (a : Option Addr) (c : Nat) (b : Option Addr) (d : Nat), t14 = .pointer (some ⟨p, 0, none⟩) ∧ t15 = .int .i64 C ∧ w14.heap.size ≤ p ∧ p < X.heap.size ∧ X.cell? ⟨p, 0, none⟩ = some (.slice a NP c) ∧ X.cell? ⟨p, 1, none⟩ = some (.slice b NB d) ∧ OwnG KPl 48 X w14.heap.size (.slice a NP c) PS ∧ OwnG KBk 56 X w14.heap.size (.slice b NB d) BS ∧ (∀ k, (Value.slice a NP c).ownBlock = some k → (Value.slice b NB d).ownBlock ≠ some k) ∧ (∀ k, (Value.slice a NP c).ownBlock = some k → k ≠ p) ∧ (∀ k, (Value.slice b NB d).ownBlock = some k → k ≠ p) ∧ Below w14.heap.size w14 X)
        case first =>
          have HSx : Hid (∀ x, Below w14.heap.size w14 x → (x.cell? ⟨w.heap.size, 0, none⟩ = some (.slice ap np cp) ∧ x.cell? ⟨w.heap.size, 1, none⟩ = some (.slice ab nb cb) ∧ x.cell? ⟨w.heap.size + 1, 0, none⟩ = some (.bool pt.s) ∧ x.cell? ⟨w.heap.size + 1, 1, none⟩ = some (.int .i64 pt.H.toInt) ∧ x.cell? ⟨w.heap.size + 1, 2, none⟩ = some (.int .i64 pt.L.toInt) ∧ x.cell? ⟨w.heap.size + 1, 3, none⟩ = some (.int .i64 pt.b) ∧ Below w14.heap.size w14 x)) := hidP fun x h =>
            ⟨(h.cell lpL_w14).trans lp0_w14, (h.cell lpL_w14).trans lp1_w14, (h.cell lqL_w14).trans lq0_w14, (h.cell lqL_w14).trans lq1_w14, (h.cell lqL_w14).trans lq2_w14, (h.cell lqL_w14).trans lq3_w14, h⟩
          refine wp_region_held_drew (S := (fun x => x.cell? ⟨w.heap.size, 0, none⟩ = some (.slice ap np cp) ∧ x.cell? ⟨w.heap.size, 1, none⟩ = some (.slice ab nb cb) ∧ x.cell? ⟨w.heap.size + 1, 0, none⟩ = some (.bool pt.s) ∧ x.cell? ⟨w.heap.size + 1, 1, none⟩ = some (.int .i64 pt.H.toInt) ∧ x.cell? ⟨w.heap.size + 1, 2, none⟩ = some (.int .i64 pt.L.toInt) ∧ x.cell? ⟨w.heap.size + 1, 3, none⟩ = some (.int .i64 pt.b) ∧ Below w14.heap.size w14 x)) (by kernel_rfl) ?_ (fun hHeld => ?_)
          · try dsimp only
            exact HSx.out _ (Below.refl _ _).drew
          refine wpAnyH_take (i := 0) (oi := ⟨some 80, _, _, _, _, _⟩) (v := ?_) rfl (by kernel_rfl) (by kernel_rfl) (by kernel_rfl) (fun _ _ _ h => h) (Or.inl ⟨by rfl, ?_⟩) (by assumption) ?_
          rotate_left
          · intro w hSw
            try dsimp only at hSw
            go_simp
            try with_reducible rfl
          simp only [Act.put, List.setIfInBounds_toArray, List.set_cons_zero, List.set_cons_succ]
          refine wpAnyH_take (i := 2) (oi := ⟨some 82, _, _, _, _, _⟩) (v := ?_) rfl (by kernel_rfl) (by kernel_rfl) (by kernel_rfl) (fun _ _ _ h => h) (Or.inl ⟨by rfl, ?_⟩) (by assumption) ?_
          rotate_left
          · intro w hSw
            try dsimp only at hSw
            go_simp
            try with_reducible rfl
          simp only [Act.put, List.setIfInBounds_toArray, List.set_cons_zero, List.set_cons_succ]
          refine wpAnyH_ready (rs := [1, 8]) (by kernel_rfl) (by simp) ?_
          refine AllReadyH.cons rfl (fun K hK => ?_) (AllReadyH.cons rfl (fun K hK => ?_) AllReadyH.nil)
          · go_simp
            go_wp2_with (first | (go_at_call 13; refine (HTo.out _ (acc_w14.out.trans ((hHeld.2.2.2.2.2.2).mono acc_w14.out.size))).mono ?_; rintro e w15 ⟨g15, h15, rfl, og15, oh15, gh15, hb15⟩; have b15 := (hHeld.2.2.2.2.2.2).trans (hb15.mono (hHeld.2.2.2.2.2.2).size)))
            refine hK.out _ _ ?_ (fun hHeld => ?_)
            · try dsimp only
              exact HSx.out _ b15
            clear hK K
            refine wpAnyH_ready (rs := [3, 8]) (by kernel_rfl) (by simp) ?_
            refine AllReadyH.cons rfl (fun K hK => ?_) (AllReadyH.cons rfl (fun K hK => ?_) AllReadyH.nil)
            · go_simp
              go_wp2_with (first | (go_at_call 22; refine (HTp.out _).mono ?_; rintro e w16 ⟨rfl, hb16⟩; have b16 := (hHeld.2.2.2.2.2.2).trans (hb16.mono (hHeld.2.2.2.2.2.2).size)))
              refine hK.out _ _ ?_ (fun hHeld => ?_)
              · try dsimp only
                exact HSx.out _ b16
              clear hK K
              refine wpAnyH_ready (rs := [4, 8]) (by kernel_rfl) (by simp) ?_
              refine AllReadyH.cons rfl (fun K hK => ?_) (AllReadyH.cons rfl (fun K hK => ?_) AllReadyH.nil)
              · go_simp
                go_wp2_with (first | (go_at_call 23; refine (HIm.out g15 h15 _ (RowG.later og15.row hb16) (RowG.later oh15.row hb16)).mono ?_; rintro e w17 ⟨ra17, rc17, rb17, rd17, rfl, op17, ob17, ne17, hb17⟩; have b17 := (hHeld.2.2.2.2.2.2).trans (hb17.mono (hHeld.2.2.2.2.2.2).size)))
                refine hK.out _ _ ?_ (fun hHeld => ?_)
                · try dsimp only
                  exact HSx.out _ b17
                clear hK K
                refine wpAnyH_take (i := 5) (oi := ⟨some 79, _, _, _, _, _⟩) (v := ?_) rfl (by kernel_rfl) (by kernel_rfl) (by kernel_rfl) (fun _ _ _ h => h) (Or.inl ⟨by rfl, ?_⟩) (by assumption) ?_
                rotate_left
                · intro w hSw
                  try dsimp only at hSw
                  go_simp
                  try with_reducible rfl
                simp only [Act.put, List.setIfInBounds_toArray, List.set_cons_zero, List.set_cons_succ]
                refine wpAnyH_take (i := 6) (oi := ⟨some 85, _, _, _, _, _⟩) (v := ?_) rfl (by kernel_rfl) (by kernel_rfl) (by kernel_rfl) (fun _ _ _ h => h) (Or.inl ⟨by rfl, ?_⟩) (by assumption) ?_
                rotate_left
                · intro w hSw
                  try dsimp only at hSw
                  go_simp
                  try with_reducible rfl
                simp only [Act.put, List.setIfInBounds_toArray, List.set_cons_zero, List.set_cons_succ]
                refine wpAnyH_take (i := 7) (oi := ⟨some 86, _, _, _, _, _⟩) (v := ?_) rfl (by kernel_rfl) (by kernel_rfl) (by kernel_rfl) (fun _ _ _ h => h) (Or.inl ⟨by rfl, ?_⟩) (by assumption) ?_
                rotate_left
                · intro w hSw
                  try dsimp only at hSw
                  go_simp
                  try with_reducible rfl
                simp only [Act.put, List.setIfInBounds_toArray, List.set_cons_zero, List.set_cons_succ]
                refine wpAnyH_ready (rs := [8]) (by kernel_rfl) (by simp) ?_
                refine AllReadyH.cons rfl (fun K hK => ?_) AllReadyH.nil
                go_simp
                obtain ⟨z18x0, z18x1⟩ := box2 (u := .slice none 0 0) (v := .slice none 0 0) w17 32
                have z18F := frzZ2 w17 32
                have z18B := alloc_below w17 (.cells #[.slice none 0 0, .slice none 0 0] 32)
                have z18L := alloc_lt w17 (.cells #[.slice none 0 0, .slice none 0 0] 32)
                have z18M := (hHeld.2.2.2.2.2.2).trans (z18B.mono (hHeld.2.2.2.2.2.2).size)
                generalize w17.alloc (.cells #[.slice none 0 0, .slice none 0 0] 32) = w18 at *
                refine hK.out _ _ ?_ (fun hHeld => ?_)
                · try dsimp only
                  exact HSx.out _ z18M
                clear hK K
                have bl18 : w14.heap.size ≤ w17.heap.size := b17.size
                refine wpAnyH_ready (rs := [9]) (by kernel_rfl) (by simp) ?_
                refine AllReadyH.cons rfl (fun K hK => ?_) AllReadyH.nil
                go_simp
                refine hK.out _ _ ?_ (fun hHeld => ?_)
                · try dsimp only
                  refine HSx.out _ ?_
                  repeat (with_reducible refine Below.setCell ?_ ?_ _; rotate_left; (focus (exact (bl18))))
                  exact (hHeld.2.2.2.2.2.2)
                clear hK K
                refine wpAnyH_take (i := 10) (oi := ⟨some 15, _, _, _, _, _⟩) (v := ?_) rfl (by kernel_rfl) (by kernel_rfl) (by kernel_rfl) (fun _ _ _ h => h) (Or.inl ⟨by rfl, ?_⟩) (by assumption) ?_
                rotate_left
                · intro w hSw
                  try dsimp only at hSw
                  go_simp
                  try with_reducible rfl
                simp only [Act.put, List.setIfInBounds_toArray, List.set_cons_zero, List.set_cons_succ]
                have HE := hidP (hHeld.2.2.2.2.2.2)
                refine wpAnyH_done (by kernel_rfl) ?_ _
                clear hHeld
                have lo := fun k hk => OwnG.lt op17 k hk
                have lo' := fun k hk => OwnG.lt ob17 k hk
                have lb : w14.heap.size ≤ w16.heap.size := by first | exact b16.size | exact z16M.size
                have HF := hidP (And.intro (OwnG.mono (OwnG.later op17 z18B) lb) (And.intro (OwnG.mono (OwnG.later ob17 z18B) lb) ne17))
                have HLo := hidP (And.intro lo lo')
                clear lo lo' op17 ob17 ne17
                go_wp2_with fail
                go_meet
                refine ⟨_, ra17, rc17, rb17, rd17, rfl, rfl, bl18, ?_, ?_, ?_, OwnG.put2 HF.out.1 (fun k hk => by have := HLo.out.1 k hk; omega), OwnG.put2 HF.out.2.1 (fun k hk => by have := HLo.out.2 k hk; omega), HF.out.2.2, (fun k hk => by have := HLo.out.1 k hk; omega), (fun k hk => by have := HLo.out.2 k hk; omega), HE.out⟩
                · simp; exact z18L
                all_goals (simp [go_sem, z18x0, z18x1])
              · go_simp
                obtain ⟨z17x0, z17x1⟩ := box2 (u := .slice none 0 0) (v := .slice none 0 0) w16 32
                have z17F := frzZ2 w16 32
                have z17B := alloc_below w16 (.cells #[.slice none 0 0, .slice none 0 0] 32)
                have z17L := alloc_lt w16 (.cells #[.slice none 0 0, .slice none 0 0] 32)
                have z17M := (hHeld.2.2.2.2.2.2).trans (z17B.mono (hHeld.2.2.2.2.2.2).size)
                generalize w16.alloc (.cells #[.slice none 0 0, .slice none 0 0] 32) = w17 at *
                refine hK.out _ _ ?_ (fun hHeld => ?_)
                · try dsimp only
                  exact HSx.out _ z17M
                clear hK K
                have bl17 : w14.heap.size ≤ w16.heap.size := b16.size
                refine wpAnyH_ready (rs := [4]) (by kernel_rfl) (by simp) ?_
                refine AllReadyH.cons rfl (fun K hK => ?_) AllReadyH.nil
                go_simp
                go_wp2_with (first | (go_at_call 23; refine (HIm.out g15 h15 _ (RowG.later (RowG.later og15.row hb16) z17B) (RowG.later (RowG.later oh15.row hb16) z17B)).mono ?_; rintro e w18 ⟨ra18, rc18, rb18, rd18, rfl, op18, ob18, ne18, hb18⟩; have b18 := (hHeld.2.2.2.2.2.2).trans (hb18.mono (hHeld.2.2.2.2.2.2).size)))
                refine hK.out _ _ ?_ (fun hHeld => ?_)
                · try dsimp only
                  exact HSx.out _ b18
                clear hK K
                have z18x0 := (hb18.cell z17L).trans z17x0
                have z18x1 := (hb18.cell z17L).trans z17x1
                have z18F : ∀ o, w18.frozen? ⟨w16.heap.size, o, none⟩ = false := fun o => (hb18.frozen z17L).trans (z17F o)
                have z18L : w16.heap.size < w18.heap.size := Nat.lt_of_lt_of_le z17L hb18.size
                clear z17x0 z17x1 z17F
                refine wpAnyH_take (i := 5) (oi := ⟨some 79, _, _, _, _, _⟩) (v := ?_) rfl (by kernel_rfl) (by kernel_rfl) (by kernel_rfl) (fun _ _ _ h => h) (Or.inl ⟨by rfl, ?_⟩) (by assumption) ?_
                rotate_left
                · intro w hSw
                  try dsimp only at hSw
                  go_simp
                  try with_reducible rfl
                simp only [Act.put, List.setIfInBounds_toArray, List.set_cons_zero, List.set_cons_succ]
                refine wpAnyH_take (i := 6) (oi := ⟨some 85, _, _, _, _, _⟩) (v := ?_) rfl (by kernel_rfl) (by kernel_rfl) (by kernel_rfl) (fun _ _ _ h => h) (Or.inl ⟨by rfl, ?_⟩) (by assumption) ?_
                rotate_left
                · intro w hSw
                  try dsimp only at hSw
                  go_simp
                  try with_reducible rfl
                simp only [Act.put, List.setIfInBounds_toArray, List.set_cons_zero, List.set_cons_succ]
                refine wpAnyH_take (i := 7) (oi := ⟨some 86, _, _, _, _, _⟩) (v := ?_) rfl (by kernel_rfl) (by kernel_rfl) (by kernel_rfl) (fun _ _ _ h => h) (Or.inl ⟨by rfl, ?_⟩) (by assumption) ?_
                rotate_left
                · intro w hSw
                  try dsimp only at hSw
                  go_simp
                  try with_reducible rfl
                simp only [Act.put, List.setIfInBounds_toArray, List.set_cons_zero, List.set_cons_succ]
                refine wpAnyH_ready (rs := [9]) (by kernel_rfl) (by simp) ?_
                refine AllReadyH.cons rfl (fun K hK => ?_) AllReadyH.nil
                go_simp
                refine hK.out _ _ ?_ (fun hHeld => ?_)
                · try dsimp only
                  refine HSx.out _ ?_
                  repeat (with_reducible refine Below.setCell ?_ ?_ _; rotate_left; (focus (exact (bl17))))
                  exact (hHeld.2.2.2.2.2.2)
                clear hK K
                refine wpAnyH_take (i := 10) (oi := ⟨some 15, _, _, _, _, _⟩) (v := ?_) rfl (by kernel_rfl) (by kernel_rfl) (by kernel_rfl) (fun _ _ _ h => h) (Or.inl ⟨by rfl, ?_⟩) (by assumption) ?_
                rotate_left
                · intro w hSw
                  try dsimp only at hSw
                  go_simp
                  try with_reducible rfl
                simp only [Act.put, List.setIfInBounds_toArray, List.set_cons_zero, List.set_cons_succ]
                have HE := hidP (hHeld.2.2.2.2.2.2)
                refine wpAnyH_done (by kernel_rfl) ?_ _
                clear hHeld
                have lo := fun k hk => OwnG.lt op18 k hk
                have lo' := fun k hk => OwnG.lt ob18 k hk
                have lb : w14.heap.size ≤ w17.heap.size := by first | exact b17.size | exact z17M.size
                have pl : w16.heap.size < w17.heap.size := z17L
                have HF := hidP (And.intro (OwnG.mono op18 lb) (And.intro (OwnG.mono ob18 lb) ne18))
                have HLo := hidP (And.intro lo lo')
                clear lo lo' op18 ob18 ne18
                go_wp2_with fail
                go_meet
                refine ⟨_, ra18, rc18, rb18, rd18, rfl, rfl, bl17, ?_, ?_, ?_, OwnG.put2 HF.out.1 (fun k hk => by have := HLo.out.1 k hk; omega), OwnG.put2 HF.out.2.1 (fun k hk => by have := HLo.out.2 k hk; omega), HF.out.2.2, (fun k hk => by have := HLo.out.1 k hk; omega), (fun k hk => by have := HLo.out.2 k hk; omega), HE.out⟩
                · simp; exact z18L
                all_goals (simp [go_sem, z18x0, z18x1])
            · go_simp
              obtain ⟨z16x0, z16x1⟩ := box2 (u := .slice none 0 0) (v := .slice none 0 0) w15 32
              have z16F := frzZ2 w15 32
              have z16B := alloc_below w15 (.cells #[.slice none 0 0, .slice none 0 0] 32)
              have z16L := alloc_lt w15 (.cells #[.slice none 0 0, .slice none 0 0] 32)
              have z16M := (hHeld.2.2.2.2.2.2).trans (z16B.mono (hHeld.2.2.2.2.2.2).size)
              generalize w15.alloc (.cells #[.slice none 0 0, .slice none 0 0] 32) = w16 at *
              refine hK.out _ _ ?_ (fun hHeld => ?_)
              · try dsimp only
                exact HSx.out _ z16M
              clear hK K
              have bl16 : w14.heap.size ≤ w15.heap.size := b15.size
              refine wpAnyH_ready (rs := [3]) (by kernel_rfl) (by simp) ?_
              refine AllReadyH.cons rfl (fun K hK => ?_) AllReadyH.nil
              go_simp
              go_wp2_with (first | (go_at_call 22; refine (HTp.out _).mono ?_; rintro e w17 ⟨rfl, hb17⟩; have b17 := (hHeld.2.2.2.2.2.2).trans (hb17.mono (hHeld.2.2.2.2.2.2).size)))
              refine hK.out _ _ ?_ (fun hHeld => ?_)
              · try dsimp only
                exact HSx.out _ b17
              clear hK K
              have z17x0 := (hb17.cell z16L).trans z16x0
              have z17x1 := (hb17.cell z16L).trans z16x1
              have z17F : ∀ o, w17.frozen? ⟨w15.heap.size, o, none⟩ = false := fun o => (hb17.frozen z16L).trans (z16F o)
              have z17L : w15.heap.size < w17.heap.size := Nat.lt_of_lt_of_le z16L hb17.size
              clear z16x0 z16x1 z16F
              refine wpAnyH_ready (rs := [4]) (by kernel_rfl) (by simp) ?_
              refine AllReadyH.cons rfl (fun K hK => ?_) AllReadyH.nil
              go_simp
              go_wp2_with (first | (go_at_call 23; refine (HIm.out g15 h15 _ (RowG.later (RowG.later og15.row z16B) hb17) (RowG.later (RowG.later oh15.row z16B) hb17)).mono ?_; rintro e w18 ⟨ra18, rc18, rb18, rd18, rfl, op18, ob18, ne18, hb18⟩; have b18 := (hHeld.2.2.2.2.2.2).trans (hb18.mono (hHeld.2.2.2.2.2.2).size)))
              refine hK.out _ _ ?_ (fun hHeld => ?_)
              · try dsimp only
                exact HSx.out _ b18
              clear hK K
              have z18x0 := (hb18.cell z17L).trans z17x0
              have z18x1 := (hb18.cell z17L).trans z17x1
              have z18F : ∀ o, w18.frozen? ⟨w15.heap.size, o, none⟩ = false := fun o => (hb18.frozen z17L).trans (z17F o)
              have z18L : w15.heap.size < w18.heap.size := Nat.lt_of_lt_of_le z17L hb18.size
              clear z17x0 z17x1 z17F
              refine wpAnyH_take (i := 5) (oi := ⟨some 79, _, _, _, _, _⟩) (v := ?_) rfl (by kernel_rfl) (by kernel_rfl) (by kernel_rfl) (fun _ _ _ h => h) (Or.inl ⟨by rfl, ?_⟩) (by assumption) ?_
              rotate_left
              · intro w hSw
                try dsimp only at hSw
                go_simp
                try with_reducible rfl
              simp only [Act.put, List.setIfInBounds_toArray, List.set_cons_zero, List.set_cons_succ]
              refine wpAnyH_take (i := 6) (oi := ⟨some 85, _, _, _, _, _⟩) (v := ?_) rfl (by kernel_rfl) (by kernel_rfl) (by kernel_rfl) (fun _ _ _ h => h) (Or.inl ⟨by rfl, ?_⟩) (by assumption) ?_
              rotate_left
              · intro w hSw
                try dsimp only at hSw
                go_simp
                try with_reducible rfl
              simp only [Act.put, List.setIfInBounds_toArray, List.set_cons_zero, List.set_cons_succ]
              refine wpAnyH_take (i := 7) (oi := ⟨some 86, _, _, _, _, _⟩) (v := ?_) rfl (by kernel_rfl) (by kernel_rfl) (by kernel_rfl) (fun _ _ _ h => h) (Or.inl ⟨by rfl, ?_⟩) (by assumption) ?_
              rotate_left
              · intro w hSw
                try dsimp only at hSw
                go_simp
                try with_reducible rfl
              simp only [Act.put, List.setIfInBounds_toArray, List.set_cons_zero, List.set_cons_succ]
              refine wpAnyH_ready (rs := [9]) (by kernel_rfl) (by simp) ?_
              refine AllReadyH.cons rfl (fun K hK => ?_) AllReadyH.nil
              go_simp
              refine hK.out _ _ ?_ (fun hHeld => ?_)
              · try dsimp only
                refine HSx.out _ ?_
                repeat (with_reducible refine Below.setCell ?_ ?_ _; rotate_left; (focus (exact (bl16))))
                exact (hHeld.2.2.2.2.2.2)
              clear hK K
              refine wpAnyH_take (i := 10) (oi := ⟨some 15, _, _, _, _, _⟩) (v := ?_) rfl (by kernel_rfl) (by kernel_rfl) (by kernel_rfl) (fun _ _ _ h => h) (Or.inl ⟨by rfl, ?_⟩) (by assumption) ?_
              rotate_left
              · intro w hSw
                try dsimp only at hSw
                go_simp
                try with_reducible rfl
              simp only [Act.put, List.setIfInBounds_toArray, List.set_cons_zero, List.set_cons_succ]
              have HE := hidP (hHeld.2.2.2.2.2.2)
              refine wpAnyH_done (by kernel_rfl) ?_ _
              clear hHeld
              have lo := fun k hk => OwnG.lt op18 k hk
              have lo' := fun k hk => OwnG.lt ob18 k hk
              have lb : w14.heap.size ≤ w17.heap.size := by first | exact b17.size | exact z17M.size
              have pl : w15.heap.size < w17.heap.size := z17L
              have HF := hidP (And.intro (OwnG.mono op18 lb) (And.intro (OwnG.mono ob18 lb) ne18))
              have HLo := hidP (And.intro lo lo')
              clear lo lo' op18 ob18 ne18
              go_wp2_with fail
              go_meet
              refine ⟨_, ra18, rc18, rb18, rd18, rfl, rfl, bl16, ?_, ?_, ?_, OwnG.put2 HF.out.1 (fun k hk => by have := HLo.out.1 k hk; omega), OwnG.put2 HF.out.2.1 (fun k hk => by have := HLo.out.2 k hk; omega), HF.out.2.2, (fun k hk => by have := HLo.out.1 k hk; omega), (fun k hk => by have := HLo.out.2 k hk; omega), HE.out⟩
              · simp; exact z18L
              all_goals (simp [go_sem, z18x0, z18x1])
          · go_simp
            obtain ⟨z15x0, z15x1⟩ := box2 (u := .slice none 0 0) (v := .slice none 0 0) w14 32
            have z15F := frzZ2 w14 32
            have z15B := alloc_below w14 (.cells #[.slice none 0 0, .slice none 0 0] 32)
            have z15L := alloc_lt w14 (.cells #[.slice none 0 0, .slice none 0 0] 32)
            have z15x0 := (drew_cell (w14.alloc (.cells #[.slice none 0 0, .slice none 0 0] 32)) _).trans z15x0
            have z15x1 := (drew_cell (w14.alloc (.cells #[.slice none 0 0, .slice none 0 0] 32)) _).trans z15x1
            have z15F := fun o => (drew_frozen (w14.alloc (.cells #[.slice none 0 0, .slice none 0 0] 32)) _).trans (z15F o)
            have z15L := drew_size_lt z15L
            have z15M := z15B.drew
            generalize (w14.alloc (.cells #[.slice none 0 0, .slice none 0 0] 32)).drew = w15 at *
            refine hK.out _ _ ?_ (fun hHeld => ?_)
            · try dsimp only
              exact HSx.out _ z15M
            clear hK K
            have bl15 : w14.heap.size ≤ w14.heap.size := Nat.le_refl _
            refine wpAnyH_ready (rs := [1]) (by kernel_rfl) (by simp) ?_
            refine AllReadyH.cons rfl (fun K hK => ?_) AllReadyH.nil
            go_simp
            go_wp2_with (first | (go_at_call 13; refine (HTo.out _ (acc_w14.out.trans ((hHeld.2.2.2.2.2.2).mono acc_w14.out.size))).mono ?_; rintro e w16 ⟨g16, h16, rfl, og16, oh16, gh16, hb16⟩; have b16 := (hHeld.2.2.2.2.2.2).trans (hb16.mono (hHeld.2.2.2.2.2.2).size)))
            refine hK.out _ _ ?_ (fun hHeld => ?_)
            · try dsimp only
              exact HSx.out _ b16
            clear hK K
            have z16x0 := (hb16.cell z15L).trans z15x0
            have z16x1 := (hb16.cell z15L).trans z15x1
            have z16F : ∀ o, w16.frozen? ⟨w14.heap.size, o, none⟩ = false := fun o => (hb16.frozen z15L).trans (z15F o)
            have z16L : w14.heap.size < w16.heap.size := Nat.lt_of_lt_of_le z15L hb16.size
            clear z15x0 z15x1 z15F
            refine wpAnyH_ready (rs := [3]) (by kernel_rfl) (by simp) ?_
            refine AllReadyH.cons rfl (fun K hK => ?_) AllReadyH.nil
            go_simp
            go_wp2_with (first | (go_at_call 22; refine (HTp.out _).mono ?_; rintro e w17 ⟨rfl, hb17⟩; have b17 := (hHeld.2.2.2.2.2.2).trans (hb17.mono (hHeld.2.2.2.2.2.2).size)))
            refine hK.out _ _ ?_ (fun hHeld => ?_)
            · try dsimp only
              exact HSx.out _ b17
            clear hK K
            have z17x0 := (hb17.cell z16L).trans z16x0
            have z17x1 := (hb17.cell z16L).trans z16x1
            have z17F : ∀ o, w17.frozen? ⟨w14.heap.size, o, none⟩ = false := fun o => (hb17.frozen z16L).trans (z16F o)
            have z17L : w14.heap.size < w17.heap.size := Nat.lt_of_lt_of_le z16L hb17.size
            clear z16x0 z16x1 z16F
            refine wpAnyH_ready (rs := [4]) (by kernel_rfl) (by simp) ?_
            refine AllReadyH.cons rfl (fun K hK => ?_) AllReadyH.nil
            go_simp
            go_wp2_with (first | (go_at_call 23; refine (HIm.out g16 h16 _ (RowG.later og16.row hb17) (RowG.later oh16.row hb17)).mono ?_; rintro e w18 ⟨ra18, rc18, rb18, rd18, rfl, op18, ob18, ne18, hb18⟩; have b18 := (hHeld.2.2.2.2.2.2).trans (hb18.mono (hHeld.2.2.2.2.2.2).size)))
            refine hK.out _ _ ?_ (fun hHeld => ?_)
            · try dsimp only
              exact HSx.out _ b18
            clear hK K
            have z18x0 := (hb18.cell z17L).trans z17x0
            have z18x1 := (hb18.cell z17L).trans z17x1
            have z18F : ∀ o, w18.frozen? ⟨w14.heap.size, o, none⟩ = false := fun o => (hb18.frozen z17L).trans (z17F o)
            have z18L : w14.heap.size < w18.heap.size := Nat.lt_of_lt_of_le z17L hb18.size
            clear z17x0 z17x1 z17F
            refine wpAnyH_take (i := 5) (oi := ⟨some 79, _, _, _, _, _⟩) (v := ?_) rfl (by kernel_rfl) (by kernel_rfl) (by kernel_rfl) (fun _ _ _ h => h) (Or.inl ⟨by rfl, ?_⟩) (by assumption) ?_
            rotate_left
            · intro w hSw
              try dsimp only at hSw
              go_simp
              try with_reducible rfl
            simp only [Act.put, List.setIfInBounds_toArray, List.set_cons_zero, List.set_cons_succ]
            refine wpAnyH_take (i := 6) (oi := ⟨some 85, _, _, _, _, _⟩) (v := ?_) rfl (by kernel_rfl) (by kernel_rfl) (by kernel_rfl) (fun _ _ _ h => h) (Or.inl ⟨by rfl, ?_⟩) (by assumption) ?_
            rotate_left
            · intro w hSw
              try dsimp only at hSw
              go_simp
              try with_reducible rfl
            simp only [Act.put, List.setIfInBounds_toArray, List.set_cons_zero, List.set_cons_succ]
            refine wpAnyH_take (i := 7) (oi := ⟨some 86, _, _, _, _, _⟩) (v := ?_) rfl (by kernel_rfl) (by kernel_rfl) (by kernel_rfl) (fun _ _ _ h => h) (Or.inl ⟨by rfl, ?_⟩) (by assumption) ?_
            rotate_left
            · intro w hSw
              try dsimp only at hSw
              go_simp
              try with_reducible rfl
            simp only [Act.put, List.setIfInBounds_toArray, List.set_cons_zero, List.set_cons_succ]
            refine wpAnyH_ready (rs := [9]) (by kernel_rfl) (by simp) ?_
            refine AllReadyH.cons rfl (fun K hK => ?_) AllReadyH.nil
            go_simp
            refine hK.out _ _ ?_ (fun hHeld => ?_)
            · try dsimp only
              refine HSx.out _ ?_
              repeat (with_reducible refine Below.setCell ?_ ?_ _; rotate_left; (focus (exact (bl15))))
              exact (hHeld.2.2.2.2.2.2)
            clear hK K
            refine wpAnyH_take (i := 10) (oi := ⟨some 15, _, _, _, _, _⟩) (v := ?_) rfl (by kernel_rfl) (by kernel_rfl) (by kernel_rfl) (fun _ _ _ h => h) (Or.inl ⟨by rfl, ?_⟩) (by assumption) ?_
            rotate_left
            · intro w hSw
              try dsimp only at hSw
              go_simp
              try with_reducible rfl
            simp only [Act.put, List.setIfInBounds_toArray, List.set_cons_zero, List.set_cons_succ]
            have HE := hidP (hHeld.2.2.2.2.2.2)
            refine wpAnyH_done (by kernel_rfl) ?_ _
            clear hHeld
            have lo := fun k hk => OwnG.lt op18 k hk
            have lo' := fun k hk => OwnG.lt ob18 k hk
            have lb : w14.heap.size ≤ w17.heap.size := by first | exact b17.size | exact z17M.size
            have pl : w14.heap.size < w17.heap.size := z17L
            have HF := hidP (And.intro (OwnG.mono op18 lb) (And.intro (OwnG.mono ob18 lb) ne18))
            have HLo := hidP (And.intro lo lo')
            clear lo lo' op18 ob18 ne18
            go_wp2_with fail
            go_meet
            refine ⟨_, ra18, rc18, rb18, rd18, rfl, rfl, bl15, ?_, ?_, ?_, OwnG.put2 HF.out.1 (fun k hk => by have := HLo.out.1 k hk; omega), OwnG.put2 HF.out.2.1 (fun k hk => by have := HLo.out.2 k hk; omega), HF.out.2.2, (fun k hk => by have := HLo.out.1 k hk; omega), (fun k hk => by have := HLo.out.2 k hk; omega), HE.out⟩
            · simp; exact z18L
            all_goals (simp [go_sem, z18x0, z18x1])
        case rest =>
          obtain ⟨p3, a3, c3, b3, d3', rfl, rfl, hp3, xL, x0, x1, op3, ob3, ne3, np3, nb3, hX⟩ := hcut
          have oU_1 := hidP op3
          have oV_1 := hidP ob3
          have lp0_wc := (hX.cell lpL_w14).trans lp0_w14
          have lp1_wc := (hX.cell lpL_w14).trans lp1_w14
          have lpL_wc : w.heap.size < wc.heap.size := Nat.lt_of_lt_of_le lpL_w14 hX.size
          have lq0_wc := (hX.cell lqL_w14).trans lq0_w14
          have lq1_wc := (hX.cell lqL_w14).trans lq1_w14
          have lq2_wc := (hX.cell lqL_w14).trans lq2_w14
          have lq3_wc := (hX.cell lqL_w14).trans lq3_w14
          have lqL_wc : w.heap.size + 1 < wc.heap.size := Nat.lt_of_lt_of_le lqL_w14 hX.size
          have q0_wc := (hX.cell qL_w14).trans q0_w14
          have q1_wc := (hX.cell qL_w14).trans q1_w14
          have qL_wc : p1 < wc.heap.size := Nat.lt_of_lt_of_le qL_w14 hX.size
          have r0_wc := (hX.cell rL_w14).trans r0_w14
          have r1_wc := (hX.cell rL_w14).trans r1_w14
          have rL_wc : p2 < wc.heap.size := Nat.lt_of_lt_of_le rL_w14 hX.size
          have oS_wc := hidP (OwnG.later oS_w14.out hX)
          have oT_wc := hidP (OwnG.later oT_w14.out hX)
          have oI_wc := hidP (OwnG.later oI_w14.out hX)
          have oJ_wc := hidP (OwnG.later oJ_w14.out hX)
          have acc_wc := hidP (acc_w14.out.trans (hX.mono acc_w14.out.size))
          have sz_wc := hX.size
          clear lp0_w14 lp1_w14 lpL_w14 lq0_w14 lq1_w14 lq2_w14 lq3_w14 lqL_w14 q0_w14 q1_w14 qL_w14 r0_w14 r1_w14 rL_w14 oS_w14 oT_w14 oI_w14 oJ_w14 hX op3 ob3 ne3 np3 nb3 acc_w14
          go_wp2_with fail
          refine (HEr.out _ a3 c3 b3 d3' a1 c1 b1 d1' oU_1.out.row oS_wc.out.row oV_1.out.row oT_wc.out.row).mono ?_
          rintro e w19 ⟨rfl, hb_w19⟩
          have lp0_w19 := (hb_w19.cell lpL_wc).trans lp0_wc
          have lp1_w19 := (hb_w19.cell lpL_wc).trans lp1_wc
          have lpL_w19 : w.heap.size < w19.heap.size := Nat.lt_of_lt_of_le lpL_wc hb_w19.size
          have lq0_w19 := (hb_w19.cell lqL_wc).trans lq0_wc
          have lq1_w19 := (hb_w19.cell lqL_wc).trans lq1_wc
          have lq2_w19 := (hb_w19.cell lqL_wc).trans lq2_wc
          have lq3_w19 := (hb_w19.cell lqL_wc).trans lq3_wc
          have lqL_w19 : w.heap.size + 1 < w19.heap.size := Nat.lt_of_lt_of_le lqL_wc hb_w19.size
          have q0_w19 := (hb_w19.cell qL_wc).trans q0_wc
          have q1_w19 := (hb_w19.cell qL_wc).trans q1_wc
          have qL_w19 : p1 < w19.heap.size := Nat.lt_of_lt_of_le qL_wc hb_w19.size
          have r0_w19 := (hb_w19.cell rL_wc).trans r0_wc
          have r1_w19 := (hb_w19.cell rL_wc).trans r1_wc
          have rL_w19 : p2 < w19.heap.size := Nat.lt_of_lt_of_le rL_wc hb_w19.size
          have x0_w19 := (hb_w19.cell xL).trans x0
          have x1_w19 := (hb_w19.cell xL).trans x1
          have xL_w19 : p3 < w19.heap.size := Nat.lt_of_lt_of_le xL hb_w19.size
          have oS_w19 := hidP (OwnG.later oS_wc.out hb_w19)
          have oT_w19 := hidP (OwnG.later oT_wc.out hb_w19)
          have oI_w19 := hidP (OwnG.later oI_wc.out hb_w19)
          have oJ_w19 := hidP (OwnG.later oJ_wc.out hb_w19)
          have oU_w19 := hidP (OwnG.later oU_1.out hb_w19)
          have oV_w19 := hidP (OwnG.later oV_1.out hb_w19)
          have acc_w19 := hidP (acc_wc.out.trans (hb_w19.mono acc_wc.out.size))
          have sz_w19 := hb_w19.size
          clear lp0_wc lp1_wc lpL_wc lq0_wc lq1_wc lq2_wc lq3_wc lqL_wc q0_wc q1_wc qL_wc r0_wc r1_wc rL_wc x0 x1 xL oS_wc oT_wc oI_wc oJ_wc oU_1 oV_1 hb_w19 acc_wc
          go_wp2_with fail
          refine (HHd.out _ a2 c2 b2 d2' oI_w19.out.row oJ_w19.out.row).mono ?_
          rintro e w20 ⟨rfl, hb20⟩
          have lp0_w20 := (hb20.cell lpL_w19).trans lp0_w19
          have lp1_w20 := (hb20.cell lpL_w19).trans lp1_w19
          have lpL_w20 : w.heap.size < w20.heap.size := Nat.lt_of_lt_of_le lpL_w19 hb20.size
          have lq0_w20 := (hb20.cell lqL_w19).trans lq0_w19
          have lq1_w20 := (hb20.cell lqL_w19).trans lq1_w19
          have lq2_w20 := (hb20.cell lqL_w19).trans lq2_w19
          have lq3_w20 := (hb20.cell lqL_w19).trans lq3_w19
          have lqL_w20 : w.heap.size + 1 < w20.heap.size := Nat.lt_of_lt_of_le lqL_w19 hb20.size
          have q0_w20 := (hb20.cell qL_w19).trans q0_w19
          have q1_w20 := (hb20.cell qL_w19).trans q1_w19
          have qL_w20 : p1 < w20.heap.size := Nat.lt_of_lt_of_le qL_w19 hb20.size
          have r0_w20 := (hb20.cell rL_w19).trans r0_w19
          have r1_w20 := (hb20.cell rL_w19).trans r1_w19
          have rL_w20 : p2 < w20.heap.size := Nat.lt_of_lt_of_le rL_w19 hb20.size
          have x0_w20 := (hb20.cell xL_w19).trans x0_w19
          have x1_w20 := (hb20.cell xL_w19).trans x1_w19
          have xL_w20 : p3 < w20.heap.size := Nat.lt_of_lt_of_le xL_w19 hb20.size
          have oS_w20 := hidP (OwnG.later oS_w19.out hb20)
          have oT_w20 := hidP (OwnG.later oT_w19.out hb20)
          have oI_w20 := hidP (OwnG.later oI_w19.out hb20)
          have oJ_w20 := hidP (OwnG.later oJ_w19.out hb20)
          have oU_w20 := hidP (OwnG.later oU_w19.out hb20)
          have oV_w20 := hidP (OwnG.later oV_w19.out hb20)
          have acc_w20 := hidP (acc_w19.out.trans (hb20.mono acc_w19.out.size))
          have sz_w20 := hb20.size
          clear lp0_w19 lp1_w19 lpL_w19 lq0_w19 lq1_w19 lq2_w19 lq3_w19 lqL_w19 q0_w19 q1_w19 qL_w19 r0_w19 r1_w19 rL_w19 x0_w19 x1_w19 xL_w19 oS_w19 oT_w19 oI_w19 oJ_w19 oU_w19 oV_w19 hb20 acc_w19
          go_wp2_with fail
          go_ret
          exact ⟨rfl, acc_w20.out⟩
  · rw [szT_no ht] at HSz
    clear hP hK hnp hnb hst ht
    go_enter Try.func6, Try.ntmps6
    go_wp2_with fail
    obtain ⟨u0, u1⟩ := box2 (u := .slice ap np cp) (v := .slice ab nb cb) w 26
    have uB := alloc_below w (.cells #[.slice ap np cp, .slice ab nb cb] 26)
    have uL := alloc_lt w (.cells #[.slice ap np cp, .slice ab nb cb] 26)
    have uS : (w.alloc (.cells #[.slice ap np cp, .slice ab nb cb] 26)).heap.size = w.heap.size + 1 := by simp
    generalize w.alloc (.cells #[.slice ap np cp, .slice ab nb cb] 26) = W1 at *
    obtain ⟨y0, y1, y2, y3⟩ := box4 (p := pt) W1 39
    have yB := alloc_below W1 (.cells #[.bool pt.s, .int .i64 pt.H.toInt, .int .i64 pt.L.toInt, .int .i64 pt.b] 39)
    have yL := alloc_lt W1 (.cells #[.bool pt.s, .int .i64 pt.H.toInt, .int .i64 pt.L.toInt, .int .i64 pt.b] 39)
    have yS : (W1.alloc (.cells #[.bool pt.s, .int .i64 pt.H.toInt, .int .i64 pt.L.toInt, .int .i64 pt.b] 39)).heap.size = W1.heap.size + 1 := by simp
    generalize W1.alloc (.cells #[.bool pt.s, .int .i64 pt.H.toInt, .int .i64 pt.L.toInt, .int .i64 pt.b] 39) = W2 at *
    rw [uS] at y0 y1 y2 y3 yL yS
    have B1 := hidP (uB.trans (yB.mono uB.size))
    clear uB yB
    refine (HSz.out _ B1.out).mono ?_
    rintro e w2 ⟨rfl, hb2⟩
    go_wp2_with fail
    go_ret
    exact ⟨rfl, B1.out.trans (hb2.mono B1.out.size)⟩

set_option maxRecDepth 100000 in
theorem dropPool_lifted (os : Os) (started : os.Started) (H : Type) (enc : TypeId × Value → H) :
    ReturnsInHanded {} Try.checked os 6 .any (Rows.fnExactDropPoolSpec.pre6 enc Try.prog Try.f6 Rows.fnExactDropPoolRow.domain false) (Rows.fnExactDropPoolSpec.post enc Try.prog Try.f6 false true false false) := by
  refine returnsInHanded_of_change (C := Try.checked) Try.ownP started (by kernel_rfl) Try.func6
    (ChangeSpec.witness6 (enc := enc) (C := Try.checked) false ⟨#[], #[.agg #[.slice none 0 0, .slice none 0 0], .agg #[.bool false, .int .i64 0, .int .i64 0, .int .i64 0]], []⟩ 8 (by kernel_rfl) (by kernel_rfl) (by kernel_rfl) (by kernel_rfl)) ?_
  intro W base args ds gs before hval0 hW _ _
  have hval : ∀ (j : Nat) t v, Try.f6.params[j]? = some t → args[j]? = some v → Value.okWide Try.prog W .any base t v := hval0
  have hW' := hW
  obtain ⟨p, q, hA0, hV, rfl, _, _⟩ := hW
  have hA : DataW.TrodAll enc Try.prog W 0 (fun _ => true) true Try.f6.params.toList args.toList ds p := hA0
  rw [Try.params6] at hA hval
  obtain ⟨v0, v1, d0, d1, p0, p1, rfl, rfl, rfl, h0, h1⟩ := trodAll_two hA
  obtain ⟨rfl, rfl⟩ := trodVars_none hV
  obtain ⟨ap, np, cp, ab, nb, cb, ps, bs, rfl, hnp, hnb, hP, hK, h9, h9', hst⟩ := openPlan (hval 0 26 v0 rfl rfl) h0
  obtain ⟨j00, j01, j02, j03, y00, y01, y02, y03, m0, rfl, rfl, rfl, hy00, hy01, hy02, hy03⟩ := open_pfx Try.underlying39 Try.underlying37 (by kernel_rfl) rfl (by kernel_rfl) rfl (by kernel_rfl) Try.cellsPP (hval 1 39 v1 rfl rfl) h1
  obtain ⟨s0, e00, rfl⟩ := DataW.trod_bool Try.underlying4 hy00
  obtain ⟨a0, e01, rfl, wa0⟩ := DataW.trod_int Try.underlying3 hy01
  obtain ⟨b0, e02, rfl, wb0⟩ := DataW.trod_int Try.underlying3 hy02
  obtain ⟨c0, e03, rfl, wc0⟩ := DataW.trod_int Try.underlying3 hy03
  simp at e00 e01 e02 e03
  subst e00 e01 e02 e03
  clear hA0 hval0
  simp only [List.append_nil] at hW'
  have hlt : ∀ x ∈ p0, x.block < W.heap.size := fun x hx => by simpa using hW'.lt x hx
  have reads1 : ∀ (W' : World) (sp : Nat → Bool), DataW.Trod enc Try.prog W' 0 sp true 39 (.agg #[.bool s0, .int .i64 a0, .int .i64 b0, .int .i64 c0]) (.agg [.agg [.lit (.bool s0), .lit (.int .i64 a0), .lit (.int .i64 b0)], .lit (.int .i64 c0)]) [] := fun W' sp =>
    shut_pfx (y0 := (.lit (.bool s0), [])) (y1 := (.lit (.int .i64 a0), [])) (y2 := (.lit (.int .i64 b0), [])) (y3 := (.lit (.int .i64 c0), [])) Try.underlying39 Try.underlying37 (by kernel_rfl) rfl (by kernel_rfl) rfl (by kernel_rfl) Try.cellsPP ⟨1, by simp [DataW.trod, Try.underlying4]⟩ ⟨1, by simp [DataW.trod, Try.underlying3, wa0]⟩ ⟨1, by simp [DataW.trod, Try.underlying3, wb0]⟩ ⟨1, by simp [DataW.trod, Try.underlying3, wc0]⟩
  have law := lawDropPool ⟨s0, BitVec.ofInt 64 a0, BitVec.ofInt 64 b0, c0⟩ ap np cp ab nb cb ps bs W hnp hnb hP hK h9 h9' hst
  change Calls Try.prog 6 #[.agg #[.slice ap np cp, .slice ab nb cb], .agg #[.bool s0, .int .i64 (BitVec.ofInt 64 a0).toInt, .int .i64 (BitVec.ofInt 64 b0).toInt, .int .i64 c0]] W _ at law
  rw [wfP wa0, wfP wb0] at law
  refine law.mono fun e W' ⟨he, hb⟩ => ?_
  subst he
  exact ⟨_, rfl, ⟨_, _, _, [], p0, [], hW', trodAll_mk1 (shut_bool Try.underlying4 true), trodAll_nil (trodAll_mk2 (Below.trod Try.laidOutP (by kernel_rfl) (of_decide_eq_true (by kernel_rfl)) h0 hb hlt) (reads1 _ _)), rfl, hb.frame _, fun h => by cases h⟩⟩

theorem dropPool_holds : Rows.FnExactDropPoolSaid :=
  OpenClaim.holds_of_wide 6 Try.f6 rfl rfl rfl rfl rfl rfl rfl ⟨rfl, rfl, rfl, rfl, rfl⟩ rfl rfl rfl rfl rfl (by kernel_rfl) Try.func6 (by kernel_rfl)
    (of_decide_eq_true (by kernel_rfl)) (by unfold Func.isWrapper; rw [if_neg (of_decide_eq_false (by kernel_rfl))]; exact ⟨rfl, rfl⟩)
    (fun os started H enc _ => dropPool_lifted os started H enc)

end Go.Proofs.Ythbpehpnikknlaa
