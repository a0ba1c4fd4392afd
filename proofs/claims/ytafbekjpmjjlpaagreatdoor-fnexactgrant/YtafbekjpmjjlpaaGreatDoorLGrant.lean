/-
  For every book, address, owner and span the two Grant answer alike, in rows of their own, and leave the book as it was, so the exact law of Grant returns true; the card ties the one variable that errors.As reads to the program's text; no other condition.
-/
import Derived.Test.YtafbekjpmjjlpaaGreatDoorCards
import Derived.Test.YtafbekjpmjjlpaaGreatDoorTie
import Derived.Test.YtafbekjpmjjlpaaGreatDoorV6Gr
import Derived.Test.YtafbekjpmjjlpaaGreatDoorV6Mk
import Derived.Test.YtafbekjpmjjlpaaGreatDoorVBookS
import Derived.ProofKit
import Derived.Lib.SmallJoins
import Derived.Carry
import Derived.Deep.Slices
import Derived.ChangeMaps5
import Derived.ChangeSame
import Derived.ChangeVars
import Derived.JoinedOf
import Derived.LaidLaws
import Derived.LaidHandle
import Derived.Stop.Joined
import Derived.Deep.DeepCutAuto
namespace Go.Proofs.YtafbekjpmjjlpaaGreatDoor
open Go.ChangeShapes Go.WideShapes Go.ChangeAt Go.RowKit Go.Joins Go.Deep

theorem Tryz.ownB6 : ownKnob Tryz.prog.godebug = none := by kernel_rfl
theorem Tryz.laidOutB6 : laidOutB Tryz.prog = true := by kernel_rfl
theorem slice_of {H : Type} {enc : TypeId × Value → H} {W : World} {t e : TypeId} {n : Nat} {u : Value} {y : DataW H × List MemPlace} (ht : Tryz.prog.underlying t = some (.slice e)) (h : DataW.trod enc Tryz.prog W 0 (fun _ => true) true n t [u] = some y) : ∃ a l c, u = .slice a l c := by
  rcases open_slice ht h with ⟨hcs, _⟩ | ⟨a', len', cap', m, n', D, Plc, hcs, _⟩
  · simp at hcs; exact ⟨_, _, _, hcs⟩
  · simp at hcs; exact ⟨_, _, _, hcs⟩
theorem Tryz.cellsBook : Tryz.prog.cellsOf 24 = 3 := by kernel_rfl
set_option maxRecDepth 100000 in
/-- A book that came in. -/
theorem openBook {H : Type} {enc : TypeId × Value → H} {W : World} {r : Reach} {b0 : Nat} {v : Value} {d : DataW H} {p : List MemPlace} (hv : Value.okWide Tryz.prog W r b0 24 v)
    (h : DataW.Trod enc Tryz.prog W 0 (fun _ => true) true 24 v d p) : ∃ (a : Option Addr) (n c : Nat) (T N : Int) (ls : List Ls), v = .agg #[.slice a n c, .int .i64 T, .int .i64 N] ∧ n = ls.length ∧ RowG KLs W a ls ∧ n ≤ 9223372036854775807 ∧ (∀ q ∈ ls, q.t.size ≤ 9223372036854775807) ∧ (Lit.int .i64 T).wf = true ∧ (Lit.int .i64 N).wf = true := by
  obtain ⟨v0, v1, v2, y0, y1, y2, n, rfl, rfl, rfl, t0, t1, t2⟩ := open_agg3 Tryz.underlying24 (by kernel_rfl) Tryz.cellsBook hv h
  obtain ⟨a, n', c, rfl⟩ := slice_of Tryz.underlying22 t0
  obtain ⟨ls, e1, l1, r1, s1⟩ := openLs (enc := enc) (W := W) (a := a) (len := n') (cap := c) (d := y0.1) (p := y0.2) ⟨n, by simpa [Value.cells] using t0⟩
  obtain ⟨T, eT, _, wT⟩ := DataW.trod_int Tryz.underlying3 t1
  obtain ⟨N, eN, _, wN⟩ := DataW.trod_int Tryz.underlying3 t2
  simp at eT eN
  subst eT eN
  exact ⟨a, n', c, T, N, ls, rfl, e1.symm, r1, l1, s1, wT, wN⟩

set_option maxRecDepth 100000 in
theorem openOneAd {H : Type} {enc : TypeId × Value → H} {W : World} {r : Reach} {b0 : Nat} {v : Value} {d : DataW H} {p : List MemPlace} (hv : Value.okWide Tryz.prog W r b0 26 v)
    (h : DataW.Trod enc Tryz.prog W 0 (fun _ => true) true 26 v d p) : ∃ q : Ad, v = .agg #[.bool q.s, .int .i64 q.H.toInt, .int .i64 q.L.toInt] := by
  obtain ⟨v0, v1, v2, y0, y1, y2, n, rfl, rfl, rfl, t0, t1, t2⟩ := open_agg3 Tryz.underlying26 (by kernel_rfl) (by kernel_rfl) hv h
  obtain ⟨s, e0, _⟩ := DataW.trod_bool Tryz.underlying4 t0
  obtain ⟨x, e1, _, wx⟩ := DataW.trod_int Tryz.underlying3 t1
  obtain ⟨y, e2, _, wy⟩ := DataW.trod_int Tryz.underlying3 t2
  simp at e0 e1 e2
  subst e0 e1 e2
  exact ⟨⟨s, BitVec.ofInt 64 x, BitVec.ofInt 64 y⟩, by rw [wfA wx, wfA wy]⟩
theorem trodAll_nil {H : Type} {enc : TypeId × Value → H} {P : Program} {W : World} {base : Nat} {sp : Nat → Bool} {held : Bool} {ts : List TypeId} {vs : List Value} {ds : List (DataW H)} {p : List MemPlace} (h : DataW.TrodAll enc P W base sp held ts vs ds (p ++ [])) : DataW.TrodAll enc P W base sp held ts vs ds p := by
  rw [List.append_nil] at h; exact h

theorem boxZ3 (w : World) (t : TypeId) : (w.alloc (.cells #[.slice none 0 0, .int .i64 0, .int .i64 0] t)).cell? ⟨w.heap.size, 0, none⟩ = some (.slice none 0 0) ∧ (w.alloc (.cells #[.slice none 0 0, .int .i64 0, .int .i64 0] t)).cell? ⟨w.heap.size, 1, none⟩ = some (.int .i64 0) ∧ (w.alloc (.cells #[.slice none 0 0, .int .i64 0, .int .i64 0] t)).cell? ⟨w.heap.size, 2, none⟩ = some (.int .i64 0) := box3B w t _ _ _
theorem frzZ3 (w : World) (t : TypeId) (o : Nat) : (w.alloc (.cells #[.slice none 0 0, .int .i64 0, .int .i64 0] t)).frozen? ⟨w.heap.size, o, none⟩ = false := frz3 w t _ _ _ o
theorem drew_cell (w : World) (a : Addr) : w.drew.cell? a = w.cell? a := rfl
theorem drew_frozen (w : World) (a : Addr) : w.drew.frozen? a = w.frozen? a := rfl
theorem drew_size_lt {w : World} {n : Nat} (h : n < w.heap.size) : n < w.drew.heap.size := h
theorem OwnG.put3 {α : Type} {K : Kd α} {t : TypeId} {w : World} {B x : Nat} {v u u' u'' : Value} {ps : List α} (h : OwnG K t w B v ps) (hx : ∀ k, v.ownBlock = some k → k ≠ x) : OwnG K t (((w.setCell ⟨x, 0, none⟩ u).setCell ⟨x, 1, none⟩ u').setCell ⟨x, 2, none⟩ u'') B v ps :=
  OwnG.grown (OwnG.grown (OwnG.grown h (grown_cellG w x 0 u) (fun k hk e => hx k hk (by simpa using e.symm))) (grown_cellG _ x 1 u') (fun k hk e => hx k hk (by simpa using e.symm))) (grown_cellG _ x 2 u'') (fun k hk e => hx k hk (by simpa using e.symm))

set_option maxRecDepth 10000 in
set_option maxHeartbeats 8000000 in
theorem lawGrant (a : Option Addr) (n c : Nat) (T N : Int) (ls : List Ls) (ad : Ad) (own : ByteArray) (span : Int) (w : World) (hn : n = ls.length) (hP : RowG KLs w a ls) (h9 : n ≤ 9223372036854775807) (hst : ∀ q ∈ ls, q.t.size ≤ 9223372036854775807) (hos : own.size ≤ 9223372036854775807) (hg : GlobE w) :
    Calls Tryz.prog 3 #[.agg #[.slice a n c, .int .i64 T, .int .i64 N], .agg #[.bool ad.s, .int .i64 ad.H.toInt, .int .i64 ad.L.toInt], .string own, .int .i64 span] w fun e w' => e = .returned (.bool true) ∧ Below w.heap.size w w' := by
  have HSz := hidP (fun W h => szBook_any a n c T N ls W hn (hP.later h) h9 hst)
  cases hrp : decide ((1048576 : Int) < (own.size : Int))
  rotate_left
  · clear hP hn hst HSz hg
    go_enter Tryz.func3, Tryz.ntmps3
    go_wp2_with fail
    go_ret
    exact ⟨rfl, (alloc_below w _).alloc (by simp) _⟩
  by_cases ht : totB ls ≤ 1048576
  · rw [szT_yes ht] at HSz
    have hl : n ≤ 1048576 := by unfold totB at ht; omega
    have HTo := hidP (fun W h => toBook_any a n c T N ls W hn (hP.later h) hl)
    have HTa := hidP (toAddr_any ad.s ad.H.toInt ad.L.toInt)
    obtain ⟨LS, nL, T', K, C, hnL, hlL, hSpec, hImpl⟩ := gr_both n T N ls ad own span hn hl hst hos
    have HSp := hidP hSpec
    have HIm := hidP hImpl
    have HG := hidP hg
    have HEx := hidP (fun W g g' e1 e2 => eqBook_same (some ⟨g, 0, none⟩) (some ⟨g', 0, none⟩) n n n T N ls W hn e1 e2 (by omega))
    have HEq := hidP (fun W a c a' c' e1 e2 => eqBook_same a a' nL c c' T' N LS W hnL e1 e2 (by omega))
    have HMx := hidP (fun W g B e1 => markBook_any (some ⟨g, 0, none⟩) n n B T N ls 1 W hn e1 (by omega) (by omega) (by omega))
    have HMg := hidP (fun W a c B e1 => markBook_any a nL c B T' N LS 1 W hnL e1 (by omega) (by omega) (by omega))
    have HHg := hidP (fun W a c e1 => heldBook_any a nL c T' N 1 W e1 (by omega) (by omega) (by omega))
    have d1 : decide (1048576 - totB ls < 0) = false := decide_eq_false (by omega)
    have d2 : ¬ (1048576 - totB ls < 0) := by omega
    generalize 1048576 - totB ls = z at *
    have m1 : decide (1 + 6 * (n : Int) < 0) = false := decide_eq_false (by omega)
    have m2 : decide (1 + 6 * (nL : Int) < 0) = false := decide_eq_false (by omega)
    clear hP hn hst ht hSpec hImpl hnL hg
    go_enter Tryz.func3, Tryz.ntmps3
    go_wp2_with fail
    obtain ⟨lb0_W1, lb1_W1, lb2_W1⟩ := box3B w 24 (.slice a n c) (.int .i64 T) (.int .i64 N)
    have lbF_W1 : ∀ o, (w.alloc (.cells #[.slice a n c, .int .i64 T, .int .i64 N] 24)).frozen? ⟨w.heap.size, o, none⟩ = false := fun o => by simp [go_sem]
    have lbL_W1 : w.heap.size < (w.alloc (.cells #[.slice a n c, .int .i64 T, .int .i64 N] 24)).heap.size := by simp
    have ab_W1 := alloc_below w (.cells #[.slice a n c, .int .i64 T, .int .i64 N] 24)
    have as_W1 : Hid ((w.alloc (.cells #[.slice a n c, .int .i64 T, .int .i64 N] 24)).heap.size = w.heap.size + 1) := hidP (by simp)
    generalize w.alloc (.cells #[.slice a n c, .int .i64 T, .int .i64 N] 24) = W1 at *
    have acc_W1 := hidP (ab_W1)
    have sz_W1 : Hid (w.heap.size ≤ W1.heap.size) := hidP ab_W1.size
    clear ab_W1 
    obtain ⟨la0_W2, la1_W2, la2_W2⟩ := box3B W1 26 (.bool ad.s) (.int .i64 ad.H.toInt) (.int .i64 ad.L.toInt)
    have laF_W2 : ∀ o, (W1.alloc (.cells #[.bool ad.s, .int .i64 ad.H.toInt, .int .i64 ad.L.toInt] 26)).frozen? ⟨W1.heap.size, o, none⟩ = false := fun o => by simp [go_sem]
    have laL_W2 : W1.heap.size < (W1.alloc (.cells #[.bool ad.s, .int .i64 ad.H.toInt, .int .i64 ad.L.toInt] 26)).heap.size := by simp
    have ab_W2 := alloc_below W1 (.cells #[.bool ad.s, .int .i64 ad.H.toInt, .int .i64 ad.L.toInt] 26)
    have as_W2 : Hid ((W1.alloc (.cells #[.bool ad.s, .int .i64 ad.H.toInt, .int .i64 ad.L.toInt] 26)).heap.size = W1.heap.size + 1) := hidP (by simp)
    generalize W1.alloc (.cells #[.bool ad.s, .int .i64 ad.H.toInt, .int .i64 ad.L.toInt] 26) = W2 at *
    have lb0_W2 := (ab_W2.cell lbL_W1).trans lb0_W1
    have lb1_W2 := (ab_W2.cell lbL_W1).trans lb1_W1
    have lb2_W2 := (ab_W2.cell lbL_W1).trans lb2_W1
    have lbF_W2 : ∀ o, W2.frozen? ⟨w.heap.size, o, none⟩ = false := fun o => (ab_W2.frozen lbL_W1).trans (lbF_W1 o)
    have lbL_W2 : w.heap.size < W2.heap.size := Nat.lt_of_lt_of_le lbL_W1 ab_W2.size
    have acc_W2 := hidP (acc_W1.out.trans (ab_W2.mono acc_W1.out.size))
    have sz_W2 : Hid (W1.heap.size ≤ W2.heap.size) := hidP ab_W2.size
    clear ab_W2 lb0_W1 lb1_W1 lb2_W1 lbF_W1 lbL_W1 acc_W1
    rw [as_W1.out] at la0_W2 la1_W2 la2_W2 laL_W2
    have laF_W2' : ∀ o, W2.frozen? ⟨w.heap.size + 1, o, none⟩ = false := fun o => by have := laF_W2 o; rw [as_W1.out] at this; exact this
    clear laF_W2
    have laF_W2 := laF_W2'
    clear laF_W2'
    refine (HSz.out _ acc_W2.out).mono ?_
    rintro e w3 ⟨rfl, hb3⟩
    have lb0_w3 := (hb3.cell lbL_W2).trans lb0_W2
    have lb1_w3 := (hb3.cell lbL_W2).trans lb1_W2
    have lb2_w3 := (hb3.cell lbL_W2).trans lb2_W2
    have lbF_w3 : ∀ o, w3.frozen? ⟨w.heap.size, o, none⟩ = false := fun o => (hb3.frozen lbL_W2).trans (lbF_W2 o)
    have lbL_w3 : w.heap.size < w3.heap.size := Nat.lt_of_lt_of_le lbL_W2 hb3.size
    have la0_w3 := (hb3.cell laL_W2).trans la0_W2
    have la1_w3 := (hb3.cell laL_W2).trans la1_W2
    have la2_w3 := (hb3.cell laL_W2).trans la2_W2
    have laF_w3 : ∀ o, w3.frozen? ⟨w.heap.size + 1, o, none⟩ = false := fun o => (hb3.frozen laL_W2).trans (laF_W2 o)
    have laL_w3 : w.heap.size + 1 < w3.heap.size := Nat.lt_of_lt_of_le laL_W2 hb3.size
    have acc_w3 := hidP (acc_W2.out.trans (hb3.mono acc_W2.out.size))
    have sz_w3 : Hid (W2.heap.size ≤ w3.heap.size) := hidP hb3.size
    clear hb3 lb0_W2 lb1_W2 lb2_W2 lbF_W2 lbL_W2 la0_W2 la1_W2 la2_W2 laF_W2 laL_W2 acc_W2
    go_upto_region 7 with fail
    go_cut [10, 11, 12] (fun t10 t11 t12 X => ∃ (p : Nat) (a : Option Addr) (c : Nat), t10 = .pointer (some ⟨p, 0, none⟩) ∧ t11 = .int .i64 K ∧ t12 = .int .i64 C ∧ w3.heap.size ≤ p ∧ p < X.heap.size ∧ X.cell? ⟨p, 0, none⟩ = some (.slice a nL c) ∧ X.cell? ⟨p, 1, none⟩ = some (.int .i64 T') ∧ X.cell? ⟨p, 2, none⟩ = some (.int .i64 N) ∧ (∀ o, X.frozen? ⟨p, o, none⟩ = false) ∧ OwnG KLs 47 X w3.heap.size (.slice a nL c) LS ∧ (∀ k, (Value.slice a nL c).ownBlock = some k → k ≠ p) ∧ Below w3.heap.size w3 X)
    case first =>
      have HSx : Hid (∀ x, Below w3.heap.size w3 x → (x.cell? ⟨w.heap.size, 0, none⟩ = some (.slice a n c) ∧ x.cell? ⟨w.heap.size, 1, none⟩ = some (.int .i64 T) ∧ x.cell? ⟨w.heap.size, 2, none⟩ = some (.int .i64 N) ∧ x.cell? ⟨w.heap.size + 1, 0, none⟩ = some (.bool ad.s) ∧ x.cell? ⟨w.heap.size + 1, 1, none⟩ = some (.int .i64 ad.H.toInt) ∧ x.cell? ⟨w.heap.size + 1, 2, none⟩ = some (.int .i64 ad.L.toInt) ∧ Below w3.heap.size w3 x)) := hidP fun x h =>
        ⟨(h.cell lbL_w3).trans lb0_w3, (h.cell lbL_w3).trans lb1_w3, (h.cell lbL_w3).trans lb2_w3, (h.cell laL_w3).trans la0_w3, (h.cell laL_w3).trans la1_w3, (h.cell laL_w3).trans la2_w3, h⟩
      refine wp_region_held_drew (S := (fun x => x.cell? ⟨w.heap.size, 0, none⟩ = some (.slice a n c) ∧ x.cell? ⟨w.heap.size, 1, none⟩ = some (.int .i64 T) ∧ x.cell? ⟨w.heap.size, 2, none⟩ = some (.int .i64 N) ∧ x.cell? ⟨w.heap.size + 1, 0, none⟩ = some (.bool ad.s) ∧ x.cell? ⟨w.heap.size + 1, 1, none⟩ = some (.int .i64 ad.H.toInt) ∧ x.cell? ⟨w.heap.size + 1, 2, none⟩ = some (.int .i64 ad.L.toInt) ∧ Below w3.heap.size w3 x)) (by kernel_rfl) ?_ (fun hHeld => ?_)
      · try dsimp only
        exact HSx.out _ (Below.refl _ _).drew
      refine wpAnyH_take (i := 0) (oi := ⟨some 32, _, _, _, _, _⟩) (v := ?_) rfl (by kernel_rfl) (by kernel_rfl) (by kernel_rfl) (fun _ _ _ h => h) (Or.inl ⟨by rfl, ?_⟩) (by assumption) ?_
      rotate_left
      · intro w hSw
        try dsimp only at hSw
        go_simp
        try with_reducible rfl
      simp only [Act.put, List.setIfInBounds_toArray, List.set_cons_zero, List.set_cons_succ]
      refine wpAnyH_take (i := 2) (oi := ⟨some 34, _, _, _, _, _⟩) (v := ?_) rfl (by kernel_rfl) (by kernel_rfl) (by kernel_rfl) (fun _ _ _ h => h) (Or.inl ⟨by rfl, ?_⟩) (by assumption) ?_
      rotate_left
      · intro w hSw
        try dsimp only at hSw
        go_simp
        try with_reducible rfl
      simp only [Act.put, List.setIfInBounds_toArray, List.set_cons_zero, List.set_cons_succ]
      refine wpAnyH_take (i := 4) (oi := ⟨some 36, _, _, _, _, _⟩) (v := ?_) rfl (by kernel_rfl) (by kernel_rfl) (by kernel_rfl) (fun _ _ _ h => h) (Or.inl ⟨by rfl, ?_⟩) (by assumption) ?_
      rotate_left
      · intro w hSw
        try dsimp only at hSw
        go_simp
        try with_reducible rfl
      simp only [Act.put, List.setIfInBounds_toArray, List.set_cons_zero, List.set_cons_succ]
      refine wpAnyH_take (i := 5) (oi := ⟨some 37, _, _, _, _, _⟩) (v := ?_) rfl (by kernel_rfl) (by kernel_rfl) (by kernel_rfl) (fun _ _ _ h => h) (Or.inl ⟨by rfl, ?_⟩) (by assumption) ?_
      rotate_left
      · intro w hSw
        try dsimp only at hSw
        go_simp
        try with_reducible rfl
      simp only [Act.put, List.setIfInBounds_toArray, List.set_cons_zero, List.set_cons_succ]
      refine wpAnyH_ready (rs := [1, 11]) (by kernel_rfl) (by simp) ?_
      refine AllReadyH.cons rfl (fun K hK => ?_) (AllReadyH.cons rfl (fun K hK => ?_) AllReadyH.nil)
      · go_simp
        go_wp2_with (first | (go_at_call 6; refine (HTo.out _ (acc_w3.out.trans ((hHeld.2.2.2.2.2.2).mono acc_w3.out.size))).mono ?_; rintro e w4 ⟨g4, rfl, og4, hb4⟩; have b4 := (hHeld.2.2.2.2.2.2).trans (hb4.mono (hHeld.2.2.2.2.2.2).size)))
        refine hK.out _ _ ?_ (fun hHeld => ?_)
        · try dsimp only
          exact HSx.out _ b4
        clear hK K
        refine wpAnyH_ready (rs := [3, 11]) (by kernel_rfl) (by simp) ?_
        refine AllReadyH.cons rfl (fun K hK => ?_) (AllReadyH.cons rfl (fun K hK => ?_) AllReadyH.nil)
        · go_simp
          go_wp2_with (first | (go_at_call 7; refine (HTa.out _).mono ?_; rintro e w5 ⟨rfl, hb5⟩; have b5 := (hHeld.2.2.2.2.2.2).trans (hb5.mono (hHeld.2.2.2.2.2.2).size)))
          refine hK.out _ _ ?_ (fun hHeld => ?_)
          · try dsimp only
            exact HSx.out _ b5
          clear hK K
          refine wpAnyH_ready (rs := [6, 11]) (by kernel_rfl) (by simp) ?_
          refine AllReadyH.cons rfl (fun K hK => ?_) (AllReadyH.cons rfl (fun K hK => ?_) AllReadyH.nil)
          · go_simp
            go_wp2_with (first | (go_at_call 5; refine (HSp.out g4 _ (RowG.later og4.row hb5)).mono ?_; rintro e w6 ⟨ra6, rc6, rfl, op6, hb6⟩; have b6 := (hHeld.2.2.2.2.2.2).trans (hb6.mono (hHeld.2.2.2.2.2.2).size)))
            refine hK.out _ _ ?_ (fun hHeld => ?_)
            · try dsimp only
              exact HSx.out _ b6
            clear hK K
            refine wpAnyH_take (i := 7) (oi := ⟨some 31, _, _, _, _, _⟩) (v := ?_) rfl (by kernel_rfl) (by kernel_rfl) (by kernel_rfl) (fun _ _ _ h => h) (Or.inl ⟨by rfl, ?_⟩) (by assumption) ?_
            rotate_left
            · intro w hSw
              try dsimp only at hSw
              go_simp
              try with_reducible rfl
            simp only [Act.put, List.setIfInBounds_toArray, List.set_cons_zero, List.set_cons_succ]
            refine wpAnyH_take (i := 8) (oi := ⟨some 39, _, _, _, _, _⟩) (v := ?_) rfl (by kernel_rfl) (by kernel_rfl) (by kernel_rfl) (fun _ _ _ h => h) (Or.inl ⟨by rfl, ?_⟩) (by assumption) ?_
            rotate_left
            · intro w hSw
              try dsimp only at hSw
              go_simp
              try with_reducible rfl
            simp only [Act.put, List.setIfInBounds_toArray, List.set_cons_zero, List.set_cons_succ]
            refine wpAnyH_take (i := 9) (oi := ⟨some 40, _, _, _, _, _⟩) (v := ?_) rfl (by kernel_rfl) (by kernel_rfl) (by kernel_rfl) (fun _ _ _ h => h) (Or.inl ⟨by rfl, ?_⟩) (by assumption) ?_
            rotate_left
            · intro w hSw
              try dsimp only at hSw
              go_simp
              try with_reducible rfl
            simp only [Act.put, List.setIfInBounds_toArray, List.set_cons_zero, List.set_cons_succ]
            refine wpAnyH_take (i := 10) (oi := ⟨some 41, _, _, _, _, _⟩) (v := ?_) rfl (by kernel_rfl) (by kernel_rfl) (by kernel_rfl) (fun _ _ _ h => h) (Or.inl ⟨by rfl, ?_⟩) (by assumption) ?_
            rotate_left
            · intro w hSw
              try dsimp only at hSw
              go_simp
              try with_reducible rfl
            simp only [Act.put, List.setIfInBounds_toArray, List.set_cons_zero, List.set_cons_succ]
            refine wpAnyH_ready (rs := [11]) (by kernel_rfl) (by simp) ?_
            refine AllReadyH.cons rfl (fun K hK => ?_) AllReadyH.nil
            go_simp
            obtain ⟨z7x0, z7x1, z7x2⟩ := boxZ3 w6 30
            have z7F := frzZ3 w6 30
            have z7B := alloc_below w6 (.cells #[.slice none 0 0, .int .i64 0, .int .i64 0] 30)
            have z7L := alloc_lt w6 (.cells #[.slice none 0 0, .int .i64 0, .int .i64 0] 30)
            have z7M := (hHeld.2.2.2.2.2.2).trans (z7B.mono (hHeld.2.2.2.2.2.2).size)
            generalize w6.alloc (.cells #[.slice none 0 0, .int .i64 0, .int .i64 0] 30) = w7 at *
            refine hK.out _ _ ?_ (fun hHeld => ?_)
            · try dsimp only
              exact HSx.out _ z7M
            clear hK K
            have bl7 : w3.heap.size ≤ w6.heap.size := b6.size
            refine wpAnyH_ready (rs := [12]) (by kernel_rfl) (by simp) ?_
            refine AllReadyH.cons rfl (fun K hK => ?_) AllReadyH.nil
            go_simp
            refine hK.out _ _ ?_ (fun hHeld => ?_)
            · try dsimp only
              refine HSx.out _ ?_
              repeat (with_reducible refine Below.setCell ?_ ?_ _; rotate_left; (focus (exact (bl7))))
              exact (hHeld.2.2.2.2.2.2)
            clear hK K
            refine wpAnyH_take (i := 13) (oi := ⟨some 11, _, _, _, _, _⟩) (v := ?_) rfl (by kernel_rfl) (by kernel_rfl) (by kernel_rfl) (fun _ _ _ h => h) (Or.inl ⟨by rfl, ?_⟩) (by assumption) ?_
            rotate_left
            · intro w hSw
              try dsimp only at hSw
              go_simp
              try with_reducible rfl
            simp only [Act.put, List.setIfInBounds_toArray, List.set_cons_zero, List.set_cons_succ]
            refine wpAnyH_take (i := 14) (oi := ⟨some 12, _, _, _, _, _⟩) (v := ?_) rfl (by kernel_rfl) (by kernel_rfl) (by kernel_rfl) (fun _ _ _ h => h) (Or.inl ⟨by rfl, ?_⟩) (by assumption) ?_
            rotate_left
            · intro w hSw
              try dsimp only at hSw
              go_simp
              try with_reducible rfl
            simp only [Act.put, List.setIfInBounds_toArray, List.set_cons_zero, List.set_cons_succ]
            have HE := hidP (hHeld.2.2.2.2.2.2)
            refine wpAnyH_done (by kernel_rfl) ?_ _
            clear hHeld
            have lo := fun k hk => OwnG.lt op6 k hk
            have lb : w3.heap.size ≤ w5.heap.size := by first | exact b5.size | exact z5M.size
            have HF := hidP (OwnG.mono (OwnG.later op6 z7B) lb)
            have HLo := hidP lo
            have HzF := hidP z7F
            clear lo op6
            go_wp2_with fail
            go_meet
            refine ⟨_, ra6, rc6, rfl, rfl, rfl, bl7, ?_, ?_, ?_, ?_, (fun o => frz_set1 (frz_set1 (frz_set1 (HzF.out o)))), OwnG.put3 HF.out (fun k hk => by have := HLo.out k hk; omega), (fun k hk => by have := HLo.out k hk; omega), HE.out⟩
            · simp; exact z7L
            all_goals (simp [go_sem, z7x0, z7x1, z7x2])
          · go_simp
            obtain ⟨z6x0, z6x1, z6x2⟩ := boxZ3 w5 30
            have z6F := frzZ3 w5 30
            have z6B := alloc_below w5 (.cells #[.slice none 0 0, .int .i64 0, .int .i64 0] 30)
            have z6L := alloc_lt w5 (.cells #[.slice none 0 0, .int .i64 0, .int .i64 0] 30)
            have z6M := (hHeld.2.2.2.2.2.2).trans (z6B.mono (hHeld.2.2.2.2.2.2).size)
            generalize w5.alloc (.cells #[.slice none 0 0, .int .i64 0, .int .i64 0] 30) = w6 at *
            refine hK.out _ _ ?_ (fun hHeld => ?_)
            · try dsimp only
              exact HSx.out _ z6M
            clear hK K
            have bl6 : w3.heap.size ≤ w5.heap.size := b5.size
            refine wpAnyH_ready (rs := [6]) (by kernel_rfl) (by simp) ?_
            refine AllReadyH.cons rfl (fun K hK => ?_) AllReadyH.nil
            go_simp
            go_wp2_with (first | (go_at_call 5; refine (HSp.out g4 _ (RowG.later (RowG.later og4.row hb5) z6B)).mono ?_; rintro e w7 ⟨ra7, rc7, rfl, op7, hb7⟩; have b7 := (hHeld.2.2.2.2.2.2).trans (hb7.mono (hHeld.2.2.2.2.2.2).size)))
            refine hK.out _ _ ?_ (fun hHeld => ?_)
            · try dsimp only
              exact HSx.out _ b7
            clear hK K
            have z7x0 := (hb7.cell z6L).trans z6x0
            have z7x1 := (hb7.cell z6L).trans z6x1
            have z7x2 := (hb7.cell z6L).trans z6x2
            have z7F : ∀ o, w7.frozen? ⟨w5.heap.size, o, none⟩ = false := fun o => (hb7.frozen z6L).trans (z6F o)
            have z7L : w5.heap.size < w7.heap.size := Nat.lt_of_lt_of_le z6L hb7.size
            clear z6x0 z6x1 z6x2 z6F
            refine wpAnyH_take (i := 7) (oi := ⟨some 31, _, _, _, _, _⟩) (v := ?_) rfl (by kernel_rfl) (by kernel_rfl) (by kernel_rfl) (fun _ _ _ h => h) (Or.inl ⟨by rfl, ?_⟩) (by assumption) ?_
            rotate_left
            · intro w hSw
              try dsimp only at hSw
              go_simp
              try with_reducible rfl
            simp only [Act.put, List.setIfInBounds_toArray, List.set_cons_zero, List.set_cons_succ]
            refine wpAnyH_take (i := 8) (oi := ⟨some 39, _, _, _, _, _⟩) (v := ?_) rfl (by kernel_rfl) (by kernel_rfl) (by kernel_rfl) (fun _ _ _ h => h) (Or.inl ⟨by rfl, ?_⟩) (by assumption) ?_
            rotate_left
            · intro w hSw
              try dsimp only at hSw
              go_simp
              try with_reducible rfl
            simp only [Act.put, List.setIfInBounds_toArray, List.set_cons_zero, List.set_cons_succ]
            refine wpAnyH_take (i := 9) (oi := ⟨some 40, _, _, _, _, _⟩) (v := ?_) rfl (by kernel_rfl) (by kernel_rfl) (by kernel_rfl) (fun _ _ _ h => h) (Or.inl ⟨by rfl, ?_⟩) (by assumption) ?_
            rotate_left
            · intro w hSw
              try dsimp only at hSw
              go_simp
              try with_reducible rfl
            simp only [Act.put, List.setIfInBounds_toArray, List.set_cons_zero, List.set_cons_succ]
            refine wpAnyH_take (i := 10) (oi := ⟨some 41, _, _, _, _, _⟩) (v := ?_) rfl (by kernel_rfl) (by kernel_rfl) (by kernel_rfl) (fun _ _ _ h => h) (Or.inl ⟨by rfl, ?_⟩) (by assumption) ?_
            rotate_left
            · intro w hSw
              try dsimp only at hSw
              go_simp
              try with_reducible rfl
            simp only [Act.put, List.setIfInBounds_toArray, List.set_cons_zero, List.set_cons_succ]
            refine wpAnyH_ready (rs := [12]) (by kernel_rfl) (by simp) ?_
            refine AllReadyH.cons rfl (fun K hK => ?_) AllReadyH.nil
            go_simp
            refine hK.out _ _ ?_ (fun hHeld => ?_)
            · try dsimp only
              refine HSx.out _ ?_
              repeat (with_reducible refine Below.setCell ?_ ?_ _; rotate_left; (focus (exact (bl6))))
              exact (hHeld.2.2.2.2.2.2)
            clear hK K
            refine wpAnyH_take (i := 13) (oi := ⟨some 11, _, _, _, _, _⟩) (v := ?_) rfl (by kernel_rfl) (by kernel_rfl) (by kernel_rfl) (fun _ _ _ h => h) (Or.inl ⟨by rfl, ?_⟩) (by assumption) ?_
            rotate_left
            · intro w hSw
              try dsimp only at hSw
              go_simp
              try with_reducible rfl
            simp only [Act.put, List.setIfInBounds_toArray, List.set_cons_zero, List.set_cons_succ]
            refine wpAnyH_take (i := 14) (oi := ⟨some 12, _, _, _, _, _⟩) (v := ?_) rfl (by kernel_rfl) (by kernel_rfl) (by kernel_rfl) (fun _ _ _ h => h) (Or.inl ⟨by rfl, ?_⟩) (by assumption) ?_
            rotate_left
            · intro w hSw
              try dsimp only at hSw
              go_simp
              try with_reducible rfl
            simp only [Act.put, List.setIfInBounds_toArray, List.set_cons_zero, List.set_cons_succ]
            have HE := hidP (hHeld.2.2.2.2.2.2)
            refine wpAnyH_done (by kernel_rfl) ?_ _
            clear hHeld
            have lo := fun k hk => OwnG.lt op7 k hk
            have lb : w3.heap.size ≤ w6.heap.size := by first | exact b6.size | exact z6M.size
            have pl : w5.heap.size < w6.heap.size := z6L
            have HF := hidP (OwnG.mono op7 lb)
            have HLo := hidP lo
            have HzF := hidP z7F
            clear lo op7
            go_wp2_with fail
            go_meet
            refine ⟨_, ra7, rc7, rfl, rfl, rfl, bl6, ?_, ?_, ?_, ?_, (fun o => frz_set1 (frz_set1 (frz_set1 (HzF.out o)))), OwnG.put3 HF.out (fun k hk => by have := HLo.out k hk; omega), (fun k hk => by have := HLo.out k hk; omega), HE.out⟩
            · simp; exact z7L
            all_goals (simp [go_sem, z7x0, z7x1, z7x2])
        · go_simp
          obtain ⟨z5x0, z5x1, z5x2⟩ := boxZ3 w4 30
          have z5F := frzZ3 w4 30
          have z5B := alloc_below w4 (.cells #[.slice none 0 0, .int .i64 0, .int .i64 0] 30)
          have z5L := alloc_lt w4 (.cells #[.slice none 0 0, .int .i64 0, .int .i64 0] 30)
          have z5M := (hHeld.2.2.2.2.2.2).trans (z5B.mono (hHeld.2.2.2.2.2.2).size)
          generalize w4.alloc (.cells #[.slice none 0 0, .int .i64 0, .int .i64 0] 30) = w5 at *
          refine hK.out _ _ ?_ (fun hHeld => ?_)
          · try dsimp only
            exact HSx.out _ z5M
          clear hK K
          have bl5 : w3.heap.size ≤ w4.heap.size := b4.size
          refine wpAnyH_ready (rs := [3]) (by kernel_rfl) (by simp) ?_
          refine AllReadyH.cons rfl (fun K hK => ?_) AllReadyH.nil
          go_simp
          go_wp2_with (first | (go_at_call 7; refine (HTa.out _).mono ?_; rintro e w6 ⟨rfl, hb6⟩; have b6 := (hHeld.2.2.2.2.2.2).trans (hb6.mono (hHeld.2.2.2.2.2.2).size)))
          refine hK.out _ _ ?_ (fun hHeld => ?_)
          · try dsimp only
            exact HSx.out _ b6
          clear hK K
          have z6x0 := (hb6.cell z5L).trans z5x0
          have z6x1 := (hb6.cell z5L).trans z5x1
          have z6x2 := (hb6.cell z5L).trans z5x2
          have z6F : ∀ o, w6.frozen? ⟨w4.heap.size, o, none⟩ = false := fun o => (hb6.frozen z5L).trans (z5F o)
          have z6L : w4.heap.size < w6.heap.size := Nat.lt_of_lt_of_le z5L hb6.size
          clear z5x0 z5x1 z5x2 z5F
          refine wpAnyH_ready (rs := [6]) (by kernel_rfl) (by simp) ?_
          refine AllReadyH.cons rfl (fun K hK => ?_) AllReadyH.nil
          go_simp
          go_wp2_with (first | (go_at_call 5; refine (HSp.out g4 _ (RowG.later (RowG.later og4.row z5B) hb6)).mono ?_; rintro e w7 ⟨ra7, rc7, rfl, op7, hb7⟩; have b7 := (hHeld.2.2.2.2.2.2).trans (hb7.mono (hHeld.2.2.2.2.2.2).size)))
          refine hK.out _ _ ?_ (fun hHeld => ?_)
          · try dsimp only
            exact HSx.out _ b7
          clear hK K
          have z7x0 := (hb7.cell z6L).trans z6x0
          have z7x1 := (hb7.cell z6L).trans z6x1
          have z7x2 := (hb7.cell z6L).trans z6x2
          have z7F : ∀ o, w7.frozen? ⟨w4.heap.size, o, none⟩ = false := fun o => (hb7.frozen z6L).trans (z6F o)
          have z7L : w4.heap.size < w7.heap.size := Nat.lt_of_lt_of_le z6L hb7.size
          clear z6x0 z6x1 z6x2 z6F
          refine wpAnyH_take (i := 7) (oi := ⟨some 31, _, _, _, _, _⟩) (v := ?_) rfl (by kernel_rfl) (by kernel_rfl) (by kernel_rfl) (fun _ _ _ h => h) (Or.inl ⟨by rfl, ?_⟩) (by assumption) ?_
          rotate_left
          · intro w hSw
            try dsimp only at hSw
            go_simp
            try with_reducible rfl
          simp only [Act.put, List.setIfInBounds_toArray, List.set_cons_zero, List.set_cons_succ]
          refine wpAnyH_take (i := 8) (oi := ⟨some 39, _, _, _, _, _⟩) (v := ?_) rfl (by kernel_rfl) (by kernel_rfl) (by kernel_rfl) (fun _ _ _ h => h) (Or.inl ⟨by rfl, ?_⟩) (by assumption) ?_
          rotate_left
          · intro w hSw
            try dsimp only at hSw
            go_simp
            try with_reducible rfl
          simp only [Act.put, List.setIfInBounds_toArray, List.set_cons_zero, List.set_cons_succ]
          refine wpAnyH_take (i := 9) (oi := ⟨some 40, _, _, _, _, _⟩) (v := ?_) rfl (by kernel_rfl) (by kernel_rfl) (by kernel_rfl) (fun _ _ _ h => h) (Or.inl ⟨by rfl, ?_⟩) (by assumption) ?_
          rotate_left
          · intro w hSw
            try dsimp only at hSw
            go_simp
            try with_reducible rfl
          simp only [Act.put, List.setIfInBounds_toArray, List.set_cons_zero, List.set_cons_succ]
          refine wpAnyH_take (i := 10) (oi := ⟨some 41, _, _, _, _, _⟩) (v := ?_) rfl (by kernel_rfl) (by kernel_rfl) (by kernel_rfl) (fun _ _ _ h => h) (Or.inl ⟨by rfl, ?_⟩) (by assumption) ?_
          rotate_left
          · intro w hSw
            try dsimp only at hSw
            go_simp
            try with_reducible rfl
          simp only [Act.put, List.setIfInBounds_toArray, List.set_cons_zero, List.set_cons_succ]
          refine wpAnyH_ready (rs := [12]) (by kernel_rfl) (by simp) ?_
          refine AllReadyH.cons rfl (fun K hK => ?_) AllReadyH.nil
          go_simp
          refine hK.out _ _ ?_ (fun hHeld => ?_)
          · try dsimp only
            refine HSx.out _ ?_
            repeat (with_reducible refine Below.setCell ?_ ?_ _; rotate_left; (focus (exact (bl5))))
            exact (hHeld.2.2.2.2.2.2)
          clear hK K
          refine wpAnyH_take (i := 13) (oi := ⟨some 11, _, _, _, _, _⟩) (v := ?_) rfl (by kernel_rfl) (by kernel_rfl) (by kernel_rfl) (fun _ _ _ h => h) (Or.inl ⟨by rfl, ?_⟩) (by assumption) ?_
          rotate_left
          · intro w hSw
            try dsimp only at hSw
            go_simp
            try with_reducible rfl
          simp only [Act.put, List.setIfInBounds_toArray, List.set_cons_zero, List.set_cons_succ]
          refine wpAnyH_take (i := 14) (oi := ⟨some 12, _, _, _, _, _⟩) (v := ?_) rfl (by kernel_rfl) (by kernel_rfl) (by kernel_rfl) (fun _ _ _ h => h) (Or.inl ⟨by rfl, ?_⟩) (by assumption) ?_
          rotate_left
          · intro w hSw
            try dsimp only at hSw
            go_simp
            try with_reducible rfl
          simp only [Act.put, List.setIfInBounds_toArray, List.set_cons_zero, List.set_cons_succ]
          have HE := hidP (hHeld.2.2.2.2.2.2)
          refine wpAnyH_done (by kernel_rfl) ?_ _
          clear hHeld
          have lo := fun k hk => OwnG.lt op7 k hk
          have lb : w3.heap.size ≤ w6.heap.size := by first | exact b6.size | exact z6M.size
          have pl : w4.heap.size < w6.heap.size := z6L
          have HF := hidP (OwnG.mono op7 lb)
          have HLo := hidP lo
          have HzF := hidP z7F
          clear lo op7
          go_wp2_with fail
          go_meet
          refine ⟨_, ra7, rc7, rfl, rfl, rfl, bl5, ?_, ?_, ?_, ?_, (fun o => frz_set1 (frz_set1 (frz_set1 (HzF.out o)))), OwnG.put3 HF.out (fun k hk => by have := HLo.out k hk; omega), (fun k hk => by have := HLo.out k hk; omega), HE.out⟩
          · simp; exact z7L
          all_goals (simp [go_sem, z7x0, z7x1, z7x2])
      · go_simp
        obtain ⟨z4x0, z4x1, z4x2⟩ := boxZ3 w3 30
        have z4F := frzZ3 w3 30
        have z4B := alloc_below w3 (.cells #[.slice none 0 0, .int .i64 0, .int .i64 0] 30)
        have z4L := alloc_lt w3 (.cells #[.slice none 0 0, .int .i64 0, .int .i64 0] 30)
        have z4x0 := (drew_cell (w3.alloc (.cells #[.slice none 0 0, .int .i64 0, .int .i64 0] 30)) _).trans z4x0
        have z4x1 := (drew_cell (w3.alloc (.cells #[.slice none 0 0, .int .i64 0, .int .i64 0] 30)) _).trans z4x1
        have z4x2 := (drew_cell (w3.alloc (.cells #[.slice none 0 0, .int .i64 0, .int .i64 0] 30)) _).trans z4x2
        have z4F := fun o => (drew_frozen (w3.alloc (.cells #[.slice none 0 0, .int .i64 0, .int .i64 0] 30)) _).trans (z4F o)
        have z4L := drew_size_lt z4L
        have z4M := z4B.drew
        generalize (w3.alloc (.cells #[.slice none 0 0, .int .i64 0, .int .i64 0] 30)).drew = w4 at *
        refine hK.out _ _ ?_ (fun hHeld => ?_)
        · try dsimp only
          exact HSx.out _ z4M
        clear hK K
        have bl4 : w3.heap.size ≤ w3.heap.size := Nat.le_refl _
        refine wpAnyH_ready (rs := [1]) (by kernel_rfl) (by simp) ?_
        refine AllReadyH.cons rfl (fun K hK => ?_) AllReadyH.nil
        go_simp
        go_wp2_with (first | (go_at_call 6; refine (HTo.out _ (acc_w3.out.trans ((hHeld.2.2.2.2.2.2).mono acc_w3.out.size))).mono ?_; rintro e w5 ⟨g5, rfl, og5, hb5⟩; have b5 := (hHeld.2.2.2.2.2.2).trans (hb5.mono (hHeld.2.2.2.2.2.2).size)))
        refine hK.out _ _ ?_ (fun hHeld => ?_)
        · try dsimp only
          exact HSx.out _ b5
        clear hK K
        have z5x0 := (hb5.cell z4L).trans z4x0
        have z5x1 := (hb5.cell z4L).trans z4x1
        have z5x2 := (hb5.cell z4L).trans z4x2
        have z5F : ∀ o, w5.frozen? ⟨w3.heap.size, o, none⟩ = false := fun o => (hb5.frozen z4L).trans (z4F o)
        have z5L : w3.heap.size < w5.heap.size := Nat.lt_of_lt_of_le z4L hb5.size
        clear z4x0 z4x1 z4x2 z4F
        refine wpAnyH_ready (rs := [3]) (by kernel_rfl) (by simp) ?_
        refine AllReadyH.cons rfl (fun K hK => ?_) AllReadyH.nil
        go_simp
        go_wp2_with (first | (go_at_call 7; refine (HTa.out _).mono ?_; rintro e w6 ⟨rfl, hb6⟩; have b6 := (hHeld.2.2.2.2.2.2).trans (hb6.mono (hHeld.2.2.2.2.2.2).size)))
        refine hK.out _ _ ?_ (fun hHeld => ?_)
        · try dsimp only
          exact HSx.out _ b6
        clear hK K
        have z6x0 := (hb6.cell z5L).trans z5x0
        have z6x1 := (hb6.cell z5L).trans z5x1
        have z6x2 := (hb6.cell z5L).trans z5x2
        have z6F : ∀ o, w6.frozen? ⟨w3.heap.size, o, none⟩ = false := fun o => (hb6.frozen z5L).trans (z5F o)
        have z6L : w3.heap.size < w6.heap.size := Nat.lt_of_lt_of_le z5L hb6.size
        clear z5x0 z5x1 z5x2 z5F
        refine wpAnyH_ready (rs := [6]) (by kernel_rfl) (by simp) ?_
        refine AllReadyH.cons rfl (fun K hK => ?_) AllReadyH.nil
        go_simp
        go_wp2_with (first | (go_at_call 5; refine (HSp.out g5 _ (RowG.later og5.row hb6)).mono ?_; rintro e w7 ⟨ra7, rc7, rfl, op7, hb7⟩; have b7 := (hHeld.2.2.2.2.2.2).trans (hb7.mono (hHeld.2.2.2.2.2.2).size)))
        refine hK.out _ _ ?_ (fun hHeld => ?_)
        · try dsimp only
          exact HSx.out _ b7
        clear hK K
        have z7x0 := (hb7.cell z6L).trans z6x0
        have z7x1 := (hb7.cell z6L).trans z6x1
        have z7x2 := (hb7.cell z6L).trans z6x2
        have z7F : ∀ o, w7.frozen? ⟨w3.heap.size, o, none⟩ = false := fun o => (hb7.frozen z6L).trans (z6F o)
        have z7L : w3.heap.size < w7.heap.size := Nat.lt_of_lt_of_le z6L hb7.size
        clear z6x0 z6x1 z6x2 z6F
        refine wpAnyH_take (i := 7) (oi := ⟨some 31, _, _, _, _, _⟩) (v := ?_) rfl (by kernel_rfl) (by kernel_rfl) (by kernel_rfl) (fun _ _ _ h => h) (Or.inl ⟨by rfl, ?_⟩) (by assumption) ?_
        rotate_left
        · intro w hSw
          try dsimp only at hSw
          go_simp
          try with_reducible rfl
        simp only [Act.put, List.setIfInBounds_toArray, List.set_cons_zero, List.set_cons_succ]
        refine wpAnyH_take (i := 8) (oi := ⟨some 39, _, _, _, _, _⟩) (v := ?_) rfl (by kernel_rfl) (by kernel_rfl) (by kernel_rfl) (fun _ _ _ h => h) (Or.inl ⟨by rfl, ?_⟩) (by assumption) ?_
        rotate_left
        · intro w hSw
          try dsimp only at hSw
          go_simp
          try with_reducible rfl
        simp only [Act.put, List.setIfInBounds_toArray, List.set_cons_zero, List.set_cons_succ]
        refine wpAnyH_take (i := 9) (oi := ⟨some 40, _, _, _, _, _⟩) (v := ?_) rfl (by kernel_rfl) (by kernel_rfl) (by kernel_rfl) (fun _ _ _ h => h) (Or.inl ⟨by rfl, ?_⟩) (by assumption) ?_
        rotate_left
        · intro w hSw
          try dsimp only at hSw
          go_simp
          try with_reducible rfl
        simp only [Act.put, List.setIfInBounds_toArray, List.set_cons_zero, List.set_cons_succ]
        refine wpAnyH_take (i := 10) (oi := ⟨some 41, _, _, _, _, _⟩) (v := ?_) rfl (by kernel_rfl) (by kernel_rfl) (by kernel_rfl) (fun _ _ _ h => h) (Or.inl ⟨by rfl, ?_⟩) (by assumption) ?_
        rotate_left
        · intro w hSw
          try dsimp only at hSw
          go_simp
          try with_reducible rfl
        simp only [Act.put, List.setIfInBounds_toArray, List.set_cons_zero, List.set_cons_succ]
        refine wpAnyH_ready (rs := [12]) (by kernel_rfl) (by simp) ?_
        refine AllReadyH.cons rfl (fun K hK => ?_) AllReadyH.nil
        go_simp
        refine hK.out _ _ ?_ (fun hHeld => ?_)
        · try dsimp only
          refine HSx.out _ ?_
          repeat (with_reducible refine Below.setCell ?_ ?_ _; rotate_left; (focus (exact (bl4))))
          exact (hHeld.2.2.2.2.2.2)
        clear hK K
        refine wpAnyH_take (i := 13) (oi := ⟨some 11, _, _, _, _, _⟩) (v := ?_) rfl (by kernel_rfl) (by kernel_rfl) (by kernel_rfl) (fun _ _ _ h => h) (Or.inl ⟨by rfl, ?_⟩) (by assumption) ?_
        rotate_left
        · intro w hSw
          try dsimp only at hSw
          go_simp
          try with_reducible rfl
        simp only [Act.put, List.setIfInBounds_toArray, List.set_cons_zero, List.set_cons_succ]
        refine wpAnyH_take (i := 14) (oi := ⟨some 12, _, _, _, _, _⟩) (v := ?_) rfl (by kernel_rfl) (by kernel_rfl) (by kernel_rfl) (fun _ _ _ h => h) (Or.inl ⟨by rfl, ?_⟩) (by assumption) ?_
        rotate_left
        · intro w hSw
          try dsimp only at hSw
          go_simp
          try with_reducible rfl
        simp only [Act.put, List.setIfInBounds_toArray, List.set_cons_zero, List.set_cons_succ]
        have HE := hidP (hHeld.2.2.2.2.2.2)
        refine wpAnyH_done (by kernel_rfl) ?_ _
        clear hHeld
        have lo := fun k hk => OwnG.lt op7 k hk
        have lb : w3.heap.size ≤ w6.heap.size := by first | exact b6.size | exact z6M.size
        have pl : w3.heap.size < w6.heap.size := z6L
        have HF := hidP (OwnG.mono op7 lb)
        have HLo := hidP lo
        have HzF := hidP z7F
        clear lo op7
        go_wp2_with fail
        go_meet
        refine ⟨_, ra7, rc7, rfl, rfl, rfl, bl4, ?_, ?_, ?_, ?_, (fun o => frz_set1 (frz_set1 (frz_set1 (HzF.out o)))), OwnG.put3 HF.out (fun k hk => by have := HLo.out k hk; omega), (fun k hk => by have := HLo.out k hk; omega), HE.out⟩
        · simp; exact z7L
        all_goals (simp [go_sem, z7x0, z7x1, z7x2])
    case rest =>
      obtain ⟨p1, A1, C1, rfl, rfl, rfl, hp1, waL_wc', q0, q1, q2, qF, oq, nq, hX⟩ := hcut
      have OQ := hidP oq
      have NQ1 := hidP nq
      have HP1 : Hid (w3.heap.size ≤ p1 ∧ p1 < wc.heap.size) := hidP ⟨hp1, waL_wc'⟩
      clear oq nq
      obtain ⟨X1, hX1⟩ : ∃ X, X = wc := ⟨_, rfl⟩
      rw [← hX1] at q0 q1 q2 qF OQ hX waL_wc' HP1 ⊢
      clear hX1
      have lb0_X1 := (hX.cell lbL_w3).trans lb0_w3
      have lb1_X1 := (hX.cell lbL_w3).trans lb1_w3
      have lb2_X1 := (hX.cell lbL_w3).trans lb2_w3
      have lbF_X1 : ∀ o, X1.frozen? ⟨w.heap.size, o, none⟩ = false := fun o => (hX.frozen lbL_w3).trans (lbF_w3 o)
      have lbL_X1 : w.heap.size < X1.heap.size := Nat.lt_of_lt_of_le lbL_w3 hX.size
      have la0_X1 := (hX.cell laL_w3).trans la0_w3
      have la1_X1 := (hX.cell laL_w3).trans la1_w3
      have la2_X1 := (hX.cell laL_w3).trans la2_w3
      have laF_X1 : ∀ o, X1.frozen? ⟨w.heap.size + 1, o, none⟩ = false := fun o => (hX.frozen laL_w3).trans (laF_w3 o)
      have laL_X1 : w.heap.size + 1 < X1.heap.size := Nat.lt_of_lt_of_le laL_w3 hX.size
      have acc_X1 := hidP (acc_w3.out.trans (hX.mono acc_w3.out.size))
      have sz_X1 : Hid (w3.heap.size ≤ X1.heap.size) := hidP hX.size
      clear hX lb0_w3 lb1_w3 lb2_w3 lbF_w3 lbL_w3 la0_w3 la1_w3 la2_w3 laF_w3 laL_w3 acc_w3
      have wa0_X1 := q0
      have wa1_X1 := q1
      have wa2_X1 := q2
      have waF_X1 := qF
      have waL_X1 := waL_wc'
      clear q0 q1 q2 qF waL_wc' hp1
      have oW_X1 := hidP (OQ.out)
      have lhW : Hid (∀ k, (Value.slice A1 nL C1).ownBlock = some k → w3.heap.size ≤ k ∧ k < X1.heap.size) := hidP (fun k hk => OwnG.lt oW_X1.out k hk)
      clear OQ
      go_wp2_with fail
      refine (HTo.out _ acc_X1.out).mono ?_
      rintro e w5 ⟨g2, rfl, og2, hb5⟩
      have OX := hidP og2
      clear og2
      have lb0_w5 := (hb5.cell lbL_X1).trans lb0_X1
      have lb1_w5 := (hb5.cell lbL_X1).trans lb1_X1
      have lb2_w5 := (hb5.cell lbL_X1).trans lb2_X1
      have lbF_w5 : ∀ o, w5.frozen? ⟨w.heap.size, o, none⟩ = false := fun o => (hb5.frozen lbL_X1).trans (lbF_X1 o)
      have lbL_w5 : w.heap.size < w5.heap.size := Nat.lt_of_lt_of_le lbL_X1 hb5.size
      have la0_w5 := (hb5.cell laL_X1).trans la0_X1
      have la1_w5 := (hb5.cell laL_X1).trans la1_X1
      have la2_w5 := (hb5.cell laL_X1).trans la2_X1
      have laF_w5 : ∀ o, w5.frozen? ⟨w.heap.size + 1, o, none⟩ = false := fun o => (hb5.frozen laL_X1).trans (laF_X1 o)
      have laL_w5 : w.heap.size + 1 < w5.heap.size := Nat.lt_of_lt_of_le laL_X1 hb5.size
      have wa0_w5 := (hb5.cell waL_X1).trans wa0_X1
      have wa1_w5 := (hb5.cell waL_X1).trans wa1_X1
      have wa2_w5 := (hb5.cell waL_X1).trans wa2_X1
      have waF_w5 : ∀ o, w5.frozen? ⟨p1, o, none⟩ = false := fun o => (hb5.frozen waL_X1).trans (waF_X1 o)
      have waL_w5 : p1 < w5.heap.size := Nat.lt_of_lt_of_le waL_X1 hb5.size
      have oW_w5 := hidP (OwnG.later oW_X1.out hb5)
      have acc_w5 := hidP (acc_X1.out.trans (hb5.mono acc_X1.out.size))
      have sz_w5 : Hid (X1.heap.size ≤ w5.heap.size) := hidP hb5.size
      clear hb5 lb0_X1 lb1_X1 lb2_X1 lbF_X1 lbL_X1 la0_X1 la1_X1 la2_X1 laF_X1 laL_X1 wa0_X1 wa1_X1 wa2_X1 waF_X1 waL_X1 oW_X1 acc_X1
      have oX_w5 := hidP (OX.out)
      have lhX : Hid (∀ k, (Value.slice (some ⟨g2, 0, none⟩) n n).ownBlock = some k → X1.heap.size ≤ k ∧ k < w5.heap.size) := hidP (fun k hk => OwnG.lt oX_w5.out k hk)
      clear OX
      go_upto_region 9 with fail
      obtain ⟨xa0_W6, xa1_W6, xa2_W6⟩ := box3B w5 30 (.slice (some ⟨g2, 0, none⟩) n n) (.int .i64 T) (.int .i64 N)
      have xaF_W6 : ∀ o, (w5.alloc (.cells #[.slice (some ⟨g2, 0, none⟩) n n, .int .i64 T, .int .i64 N] 30)).frozen? ⟨w5.heap.size, o, none⟩ = false := fun o => by simp [go_sem]
      have xaL_W6 : w5.heap.size < (w5.alloc (.cells #[.slice (some ⟨g2, 0, none⟩) n n, .int .i64 T, .int .i64 N] 30)).heap.size := by simp
      have ab_W6 := alloc_below w5 (.cells #[.slice (some ⟨g2, 0, none⟩) n n, .int .i64 T, .int .i64 N] 30)
      have as_W6 : Hid ((w5.alloc (.cells #[.slice (some ⟨g2, 0, none⟩) n n, .int .i64 T, .int .i64 N] 30)).heap.size = w5.heap.size + 1) := hidP (by simp)
      generalize w5.alloc (.cells #[.slice (some ⟨g2, 0, none⟩) n n, .int .i64 T, .int .i64 N] 30) = W6 at *
      have lb0_W6 := (ab_W6.cell lbL_w5).trans lb0_w5
      have lb1_W6 := (ab_W6.cell lbL_w5).trans lb1_w5
      have lb2_W6 := (ab_W6.cell lbL_w5).trans lb2_w5
      have lbF_W6 : ∀ o, W6.frozen? ⟨w.heap.size, o, none⟩ = false := fun o => (ab_W6.frozen lbL_w5).trans (lbF_w5 o)
      have lbL_W6 : w.heap.size < W6.heap.size := Nat.lt_of_lt_of_le lbL_w5 ab_W6.size
      have la0_W6 := (ab_W6.cell laL_w5).trans la0_w5
      have la1_W6 := (ab_W6.cell laL_w5).trans la1_w5
      have la2_W6 := (ab_W6.cell laL_w5).trans la2_w5
      have laF_W6 : ∀ o, W6.frozen? ⟨w.heap.size + 1, o, none⟩ = false := fun o => (ab_W6.frozen laL_w5).trans (laF_w5 o)
      have laL_W6 : w.heap.size + 1 < W6.heap.size := Nat.lt_of_lt_of_le laL_w5 ab_W6.size
      have wa0_W6 := (ab_W6.cell waL_w5).trans wa0_w5
      have wa1_W6 := (ab_W6.cell waL_w5).trans wa1_w5
      have wa2_W6 := (ab_W6.cell waL_w5).trans wa2_w5
      have waF_W6 : ∀ o, W6.frozen? ⟨p1, o, none⟩ = false := fun o => (ab_W6.frozen waL_w5).trans (waF_w5 o)
      have waL_W6 : p1 < W6.heap.size := Nat.lt_of_lt_of_le waL_w5 ab_W6.size
      have oW_W6 := hidP (OwnG.later oW_w5.out ab_W6)
      have oX_W6 := hidP (OwnG.later oX_w5.out ab_W6)
      have acc_W6 := hidP (acc_w5.out.trans (ab_W6.mono acc_w5.out.size))
      have sz_W6 : Hid (w5.heap.size ≤ W6.heap.size) := hidP ab_W6.size
      clear ab_W6 lb0_w5 lb1_w5 lb2_w5 lbF_w5 lbL_w5 la0_w5 la1_w5 la2_w5 laF_w5 laL_w5 wa0_w5 wa1_w5 wa2_w5 waF_w5 waL_w5 oW_w5 oX_w5 acc_w5
      go_cut [14, 15, 16] (fun t14 t15 t16 X => ∃ (p : Nat) (a : Option Addr) (c : Nat), t14 = .pointer (some ⟨p, 0, none⟩) ∧ t15 = .int .i64 K ∧ t16 = .int .i64 C ∧ W6.heap.size ≤ p ∧ p < X.heap.size ∧ X.cell? ⟨p, 0, none⟩ = some (.slice a nL c) ∧ X.cell? ⟨p, 1, none⟩ = some (.int .i64 T') ∧ X.cell? ⟨p, 2, none⟩ = some (.int .i64 N) ∧ (∀ o, X.frozen? ⟨p, o, none⟩ = false) ∧ OwnG KLs 47 X W6.heap.size (.slice a nL c) LS ∧ (∀ k, (Value.slice a nL c).ownBlock = some k → k ≠ p) ∧ Below W6.heap.size W6 X)
      case first =>
        have HSx : Hid (∀ x, Below W6.heap.size W6 x → (x.cell? ⟨w5.heap.size, 0, none⟩ = some (.slice (some ⟨g2, 0, none⟩) n n) ∧ x.cell? ⟨w5.heap.size, 1, none⟩ = some (.int .i64 T) ∧ x.cell? ⟨w5.heap.size, 2, none⟩ = some (.int .i64 N) ∧ x.cell? ⟨w.heap.size + 1, 0, none⟩ = some (.bool ad.s) ∧ x.cell? ⟨w.heap.size + 1, 1, none⟩ = some (.int .i64 ad.H.toInt) ∧ x.cell? ⟨w.heap.size + 1, 2, none⟩ = some (.int .i64 ad.L.toInt) ∧ Below W6.heap.size W6 x)) := hidP fun x h =>
          ⟨(h.cell xaL_W6).trans xa0_W6, (h.cell xaL_W6).trans xa1_W6, (h.cell xaL_W6).trans xa2_W6, (h.cell laL_W6).trans la0_W6, (h.cell laL_W6).trans la1_W6, (h.cell laL_W6).trans la2_W6, h⟩
        refine wp_region_held_drew (S := (fun x => x.cell? ⟨w5.heap.size, 0, none⟩ = some (.slice (some ⟨g2, 0, none⟩) n n) ∧ x.cell? ⟨w5.heap.size, 1, none⟩ = some (.int .i64 T) ∧ x.cell? ⟨w5.heap.size, 2, none⟩ = some (.int .i64 N) ∧ x.cell? ⟨w.heap.size + 1, 0, none⟩ = some (.bool ad.s) ∧ x.cell? ⟨w.heap.size + 1, 1, none⟩ = some (.int .i64 ad.H.toInt) ∧ x.cell? ⟨w.heap.size + 1, 2, none⟩ = some (.int .i64 ad.L.toInt) ∧ Below W6.heap.size W6 x)) (by kernel_rfl) ?_ (fun hHeld => ?_)
        · try dsimp only
          exact HSx.out _ (Below.refl _ _).drew
        refine wpAnyH_take (i := 0) (oi := ⟨some 45, _, _, _, _, _⟩) (v := ?_) rfl (by kernel_rfl) (by kernel_rfl) (by kernel_rfl) (fun _ _ _ h => h) (Or.inl ⟨by rfl, ?_⟩) (by assumption) ?_
        rotate_left
        · intro w hSw
          try dsimp only at hSw
          go_simp
          try with_reducible rfl
        simp only [Act.put, List.setIfInBounds_toArray, List.set_cons_zero, List.set_cons_succ]
        refine wpAnyH_take (i := 1) (oi := ⟨some 46, _, _, _, _, _⟩) (v := ?_) rfl (by kernel_rfl) (by kernel_rfl) (by kernel_rfl) (fun _ _ _ h => h) (Or.inl ⟨by rfl, ?_⟩) (by assumption) ?_
        rotate_left
        · intro w hSw
          try dsimp only at hSw
          go_simp
          try with_reducible rfl
        simp only [Act.put, List.setIfInBounds_toArray, List.set_cons_zero, List.set_cons_succ]
        refine wpAnyH_take (i := 3) (oi := ⟨some 48, _, _, _, _, _⟩) (v := ?_) rfl (by kernel_rfl) (by kernel_rfl) (by kernel_rfl) (fun _ _ _ h => h) (Or.inl ⟨by rfl, ?_⟩) (by assumption) ?_
        rotate_left
        · intro w hSw
          try dsimp only at hSw
          go_simp
          try with_reducible rfl
        simp only [Act.put, List.setIfInBounds_toArray, List.set_cons_zero, List.set_cons_succ]
        refine wpAnyH_take (i := 4) (oi := ⟨some 49, _, _, _, _, _⟩) (v := ?_) rfl (by kernel_rfl) (by kernel_rfl) (by kernel_rfl) (fun _ _ _ h => h) (Or.inl ⟨by rfl, ?_⟩) (by assumption) ?_
        rotate_left
        · intro w hSw
          try dsimp only at hSw
          go_simp
          try with_reducible rfl
        simp only [Act.put, List.setIfInBounds_toArray, List.set_cons_zero, List.set_cons_succ]
        refine wpAnyH_ready (rs := [2, 10]) (by kernel_rfl) (by simp) ?_
        refine AllReadyH.cons rfl (fun K hK => ?_) (AllReadyH.cons rfl (fun K hK => ?_) AllReadyH.nil)
        · go_simp
          go_wp2_with (first | (go_at_call 7; refine (HTa.out _).mono ?_; rintro e w7 ⟨rfl, hb7⟩; have b7 := (hHeld.2.2.2.2.2.2).trans (hb7.mono (hHeld.2.2.2.2.2.2).size)))
          refine hK.out _ _ ?_ (fun hHeld => ?_)
          · try dsimp only
            exact HSx.out _ b7
          clear hK K
          refine wpAnyH_ready (rs := [5, 10]) (by kernel_rfl) (by simp) ?_
          refine AllReadyH.cons rfl (fun K hK => ?_) (AllReadyH.cons rfl (fun K hK => ?_) AllReadyH.nil)
          · go_simp
            go_wp2_with (first | (go_at_call 8; refine (HIm.out g2 _ (oX_W6.out.row.later (hHeld.2.2.2.2.2.2)) (HG.out.later (acc_W6.out.trans ((hHeld.2.2.2.2.2.2).mono acc_W6.out.size)))).mono ?_; rintro e w8 ⟨ra8, rc8, rfl, op8, hb8⟩; have b8 := (hHeld.2.2.2.2.2.2).trans (hb8.mono (hHeld.2.2.2.2.2.2).size)))
            refine hK.out _ _ ?_ (fun hHeld => ?_)
            · try dsimp only
              exact HSx.out _ b8
            clear hK K
            refine wpAnyH_take (i := 6) (oi := ⟨some 44, _, _, _, _, _⟩) (v := ?_) rfl (by kernel_rfl) (by kernel_rfl) (by kernel_rfl) (fun _ _ _ h => h) (Or.inl ⟨by rfl, ?_⟩) (by assumption) ?_
            rotate_left
            · intro w hSw
              try dsimp only at hSw
              go_simp
              try with_reducible rfl
            simp only [Act.put, List.setIfInBounds_toArray, List.set_cons_zero, List.set_cons_succ]
            refine wpAnyH_take (i := 7) (oi := ⟨some 51, _, _, _, _, _⟩) (v := ?_) rfl (by kernel_rfl) (by kernel_rfl) (by kernel_rfl) (fun _ _ _ h => h) (Or.inl ⟨by rfl, ?_⟩) (by assumption) ?_
            rotate_left
            · intro w hSw
              try dsimp only at hSw
              go_simp
              try with_reducible rfl
            simp only [Act.put, List.setIfInBounds_toArray, List.set_cons_zero, List.set_cons_succ]
            refine wpAnyH_take (i := 8) (oi := ⟨some 52, _, _, _, _, _⟩) (v := ?_) rfl (by kernel_rfl) (by kernel_rfl) (by kernel_rfl) (fun _ _ _ h => h) (Or.inl ⟨by rfl, ?_⟩) (by assumption) ?_
            rotate_left
            · intro w hSw
              try dsimp only at hSw
              go_simp
              try with_reducible rfl
            simp only [Act.put, List.setIfInBounds_toArray, List.set_cons_zero, List.set_cons_succ]
            refine wpAnyH_take (i := 9) (oi := ⟨some 53, _, _, _, _, _⟩) (v := ?_) rfl (by kernel_rfl) (by kernel_rfl) (by kernel_rfl) (fun _ _ _ h => h) (Or.inl ⟨by rfl, ?_⟩) (by assumption) ?_
            rotate_left
            · intro w hSw
              try dsimp only at hSw
              go_simp
              try with_reducible rfl
            simp only [Act.put, List.setIfInBounds_toArray, List.set_cons_zero, List.set_cons_succ]
            refine wpAnyH_ready (rs := [10]) (by kernel_rfl) (by simp) ?_
            refine AllReadyH.cons rfl (fun K hK => ?_) AllReadyH.nil
            go_simp
            obtain ⟨z9x0, z9x1, z9x2⟩ := boxZ3 w8 30
            have z9F := frzZ3 w8 30
            have z9B := alloc_below w8 (.cells #[.slice none 0 0, .int .i64 0, .int .i64 0] 30)
            have z9L := alloc_lt w8 (.cells #[.slice none 0 0, .int .i64 0, .int .i64 0] 30)
            have z9M := (hHeld.2.2.2.2.2.2).trans (z9B.mono (hHeld.2.2.2.2.2.2).size)
            generalize w8.alloc (.cells #[.slice none 0 0, .int .i64 0, .int .i64 0] 30) = w9 at *
            refine hK.out _ _ ?_ (fun hHeld => ?_)
            · try dsimp only
              exact HSx.out _ z9M
            clear hK K
            have bl9 : W6.heap.size ≤ w8.heap.size := b8.size
            refine wpAnyH_ready (rs := [11]) (by kernel_rfl) (by simp) ?_
            refine AllReadyH.cons rfl (fun K hK => ?_) AllReadyH.nil
            go_simp
            refine hK.out _ _ ?_ (fun hHeld => ?_)
            · try dsimp only
              refine HSx.out _ ?_
              repeat (with_reducible refine Below.setCell ?_ ?_ _; rotate_left; (focus (exact (bl9))))
              exact (hHeld.2.2.2.2.2.2)
            clear hK K
            refine wpAnyH_take (i := 12) (oi := ⟨some 15, _, _, _, _, _⟩) (v := ?_) rfl (by kernel_rfl) (by kernel_rfl) (by kernel_rfl) (fun _ _ _ h => h) (Or.inl ⟨by rfl, ?_⟩) (by assumption) ?_
            rotate_left
            · intro w hSw
              try dsimp only at hSw
              go_simp
              try with_reducible rfl
            simp only [Act.put, List.setIfInBounds_toArray, List.set_cons_zero, List.set_cons_succ]
            refine wpAnyH_take (i := 13) (oi := ⟨some 16, _, _, _, _, _⟩) (v := ?_) rfl (by kernel_rfl) (by kernel_rfl) (by kernel_rfl) (fun _ _ _ h => h) (Or.inl ⟨by rfl, ?_⟩) (by assumption) ?_
            rotate_left
            · intro w hSw
              try dsimp only at hSw
              go_simp
              try with_reducible rfl
            simp only [Act.put, List.setIfInBounds_toArray, List.set_cons_zero, List.set_cons_succ]
            have HE := hidP (hHeld.2.2.2.2.2.2)
            refine wpAnyH_done (by kernel_rfl) ?_ _
            clear hHeld
            have lo := fun k hk => OwnG.lt op8 k hk
            have lb : W6.heap.size ≤ w7.heap.size := by first | exact b7.size | exact z7M.size
            have HF := hidP (OwnG.mono (OwnG.later op8 z9B) lb)
            have HLo := hidP lo
            have HzF := hidP z9F
            clear lo op8
            go_wp2_with fail
            go_meet
            refine ⟨_, ra8, rc8, rfl, rfl, rfl, bl9, ?_, ?_, ?_, ?_, (fun o => frz_set1 (frz_set1 (frz_set1 (HzF.out o)))), OwnG.put3 HF.out (fun k hk => by have := HLo.out k hk; omega), (fun k hk => by have := HLo.out k hk; omega), HE.out⟩
            · simp; exact z9L
            all_goals (simp [go_sem, z9x0, z9x1, z9x2])
          · go_simp
            obtain ⟨z8x0, z8x1, z8x2⟩ := boxZ3 w7 30
            have z8F := frzZ3 w7 30
            have z8B := alloc_below w7 (.cells #[.slice none 0 0, .int .i64 0, .int .i64 0] 30)
            have z8L := alloc_lt w7 (.cells #[.slice none 0 0, .int .i64 0, .int .i64 0] 30)
            have z8M := (hHeld.2.2.2.2.2.2).trans (z8B.mono (hHeld.2.2.2.2.2.2).size)
            generalize w7.alloc (.cells #[.slice none 0 0, .int .i64 0, .int .i64 0] 30) = w8 at *
            refine hK.out _ _ ?_ (fun hHeld => ?_)
            · try dsimp only
              exact HSx.out _ z8M
            clear hK K
            have bl8 : W6.heap.size ≤ w7.heap.size := b7.size
            refine wpAnyH_ready (rs := [5]) (by kernel_rfl) (by simp) ?_
            refine AllReadyH.cons rfl (fun K hK => ?_) AllReadyH.nil
            go_simp
            go_wp2_with (first | (go_at_call 8; refine (HIm.out g2 _ (oX_W6.out.row.later (hHeld.2.2.2.2.2.2)) (HG.out.later (acc_W6.out.trans ((hHeld.2.2.2.2.2.2).mono acc_W6.out.size)))).mono ?_; rintro e w9 ⟨ra9, rc9, rfl, op9, hb9⟩; have b9 := (hHeld.2.2.2.2.2.2).trans (hb9.mono (hHeld.2.2.2.2.2.2).size)))
            refine hK.out _ _ ?_ (fun hHeld => ?_)
            · try dsimp only
              exact HSx.out _ b9
            clear hK K
            have z9x0 := (hb9.cell z8L).trans z8x0
            have z9x1 := (hb9.cell z8L).trans z8x1
            have z9x2 := (hb9.cell z8L).trans z8x2
            have z9F : ∀ o, w9.frozen? ⟨w7.heap.size, o, none⟩ = false := fun o => (hb9.frozen z8L).trans (z8F o)
            have z9L : w7.heap.size < w9.heap.size := Nat.lt_of_lt_of_le z8L hb9.size
            clear z8x0 z8x1 z8x2 z8F
            refine wpAnyH_take (i := 6) (oi := ⟨some 44, _, _, _, _, _⟩) (v := ?_) rfl (by kernel_rfl) (by kernel_rfl) (by kernel_rfl) (fun _ _ _ h => h) (Or.inl ⟨by rfl, ?_⟩) (by assumption) ?_
            rotate_left
            · intro w hSw
              try dsimp only at hSw
              go_simp
              try with_reducible rfl
            simp only [Act.put, List.setIfInBounds_toArray, List.set_cons_zero, List.set_cons_succ]
            refine wpAnyH_take (i := 7) (oi := ⟨some 51, _, _, _, _, _⟩) (v := ?_) rfl (by kernel_rfl) (by kernel_rfl) (by kernel_rfl) (fun _ _ _ h => h) (Or.inl ⟨by rfl, ?_⟩) (by assumption) ?_
            rotate_left
            · intro w hSw
              try dsimp only at hSw
              go_simp
              try with_reducible rfl
            simp only [Act.put, List.setIfInBounds_toArray, List.set_cons_zero, List.set_cons_succ]
            refine wpAnyH_take (i := 8) (oi := ⟨some 52, _, _, _, _, _⟩) (v := ?_) rfl (by kernel_rfl) (by kernel_rfl) (by kernel_rfl) (fun _ _ _ h => h) (Or.inl ⟨by rfl, ?_⟩) (by assumption) ?_
            rotate_left
            · intro w hSw
              try dsimp only at hSw
              go_simp
              try with_reducible rfl
            simp only [Act.put, List.setIfInBounds_toArray, List.set_cons_zero, List.set_cons_succ]
            refine wpAnyH_take (i := 9) (oi := ⟨some 53, _, _, _, _, _⟩) (v := ?_) rfl (by kernel_rfl) (by kernel_rfl) (by kernel_rfl) (fun _ _ _ h => h) (Or.inl ⟨by rfl, ?_⟩) (by assumption) ?_
            rotate_left
            · intro w hSw
              try dsimp only at hSw
              go_simp
              try with_reducible rfl
            simp only [Act.put, List.setIfInBounds_toArray, List.set_cons_zero, List.set_cons_succ]
            refine wpAnyH_ready (rs := [11]) (by kernel_rfl) (by simp) ?_
            refine AllReadyH.cons rfl (fun K hK => ?_) AllReadyH.nil
            go_simp
            refine hK.out _ _ ?_ (fun hHeld => ?_)
            · try dsimp only
              refine HSx.out _ ?_
              repeat (with_reducible refine Below.setCell ?_ ?_ _; rotate_left; (focus (exact (bl8))))
              exact (hHeld.2.2.2.2.2.2)
            clear hK K
            refine wpAnyH_take (i := 12) (oi := ⟨some 15, _, _, _, _, _⟩) (v := ?_) rfl (by kernel_rfl) (by kernel_rfl) (by kernel_rfl) (fun _ _ _ h => h) (Or.inl ⟨by rfl, ?_⟩) (by assumption) ?_
            rotate_left
            · intro w hSw
              try dsimp only at hSw
              go_simp
              try with_reducible rfl
            simp only [Act.put, List.setIfInBounds_toArray, List.set_cons_zero, List.set_cons_succ]
            refine wpAnyH_take (i := 13) (oi := ⟨some 16, _, _, _, _, _⟩) (v := ?_) rfl (by kernel_rfl) (by kernel_rfl) (by kernel_rfl) (fun _ _ _ h => h) (Or.inl ⟨by rfl, ?_⟩) (by assumption) ?_
            rotate_left
            · intro w hSw
              try dsimp only at hSw
              go_simp
              try with_reducible rfl
            simp only [Act.put, List.setIfInBounds_toArray, List.set_cons_zero, List.set_cons_succ]
            have HE := hidP (hHeld.2.2.2.2.2.2)
            refine wpAnyH_done (by kernel_rfl) ?_ _
            clear hHeld
            have lo := fun k hk => OwnG.lt op9 k hk
            have lb : W6.heap.size ≤ w8.heap.size := by first | exact b8.size | exact z8M.size
            have pl : w7.heap.size < w8.heap.size := z8L
            have HF := hidP (OwnG.mono op9 lb)
            have HLo := hidP lo
            have HzF := hidP z9F
            clear lo op9
            go_wp2_with fail
            go_meet
            refine ⟨_, ra9, rc9, rfl, rfl, rfl, bl8, ?_, ?_, ?_, ?_, (fun o => frz_set1 (frz_set1 (frz_set1 (HzF.out o)))), OwnG.put3 HF.out (fun k hk => by have := HLo.out k hk; omega), (fun k hk => by have := HLo.out k hk; omega), HE.out⟩
            · simp; exact z9L
            all_goals (simp [go_sem, z9x0, z9x1, z9x2])
        · go_simp
          obtain ⟨z7x0, z7x1, z7x2⟩ := boxZ3 W6 30
          have z7F := frzZ3 W6 30
          have z7B := alloc_below W6 (.cells #[.slice none 0 0, .int .i64 0, .int .i64 0] 30)
          have z7L := alloc_lt W6 (.cells #[.slice none 0 0, .int .i64 0, .int .i64 0] 30)
          have z7x0 := (drew_cell (W6.alloc (.cells #[.slice none 0 0, .int .i64 0, .int .i64 0] 30)) _).trans z7x0
          have z7x1 := (drew_cell (W6.alloc (.cells #[.slice none 0 0, .int .i64 0, .int .i64 0] 30)) _).trans z7x1
          have z7x2 := (drew_cell (W6.alloc (.cells #[.slice none 0 0, .int .i64 0, .int .i64 0] 30)) _).trans z7x2
          have z7F := fun o => (drew_frozen (W6.alloc (.cells #[.slice none 0 0, .int .i64 0, .int .i64 0] 30)) _).trans (z7F o)
          have z7L := drew_size_lt z7L
          have z7M := z7B.drew
          generalize (W6.alloc (.cells #[.slice none 0 0, .int .i64 0, .int .i64 0] 30)).drew = w7 at *
          refine hK.out _ _ ?_ (fun hHeld => ?_)
          · try dsimp only
            exact HSx.out _ z7M
          clear hK K
          have bl7 : W6.heap.size ≤ W6.heap.size := Nat.le_refl _
          refine wpAnyH_ready (rs := [2]) (by kernel_rfl) (by simp) ?_
          refine AllReadyH.cons rfl (fun K hK => ?_) AllReadyH.nil
          go_simp
          go_wp2_with (first | (go_at_call 7; refine (HTa.out _).mono ?_; rintro e w8 ⟨rfl, hb8⟩; have b8 := (hHeld.2.2.2.2.2.2).trans (hb8.mono (hHeld.2.2.2.2.2.2).size)))
          refine hK.out _ _ ?_ (fun hHeld => ?_)
          · try dsimp only
            exact HSx.out _ b8
          clear hK K
          have z8x0 := (hb8.cell z7L).trans z7x0
          have z8x1 := (hb8.cell z7L).trans z7x1
          have z8x2 := (hb8.cell z7L).trans z7x2
          have z8F : ∀ o, w8.frozen? ⟨W6.heap.size, o, none⟩ = false := fun o => (hb8.frozen z7L).trans (z7F o)
          have z8L : W6.heap.size < w8.heap.size := Nat.lt_of_lt_of_le z7L hb8.size
          clear z7x0 z7x1 z7x2 z7F
          refine wpAnyH_ready (rs := [5]) (by kernel_rfl) (by simp) ?_
          refine AllReadyH.cons rfl (fun K hK => ?_) AllReadyH.nil
          go_simp
          go_wp2_with (first | (go_at_call 8; refine (HIm.out g2 _ (oX_W6.out.row.later (hHeld.2.2.2.2.2.2)) (HG.out.later (acc_W6.out.trans ((hHeld.2.2.2.2.2.2).mono acc_W6.out.size)))).mono ?_; rintro e w9 ⟨ra9, rc9, rfl, op9, hb9⟩; have b9 := (hHeld.2.2.2.2.2.2).trans (hb9.mono (hHeld.2.2.2.2.2.2).size)))
          refine hK.out _ _ ?_ (fun hHeld => ?_)
          · try dsimp only
            exact HSx.out _ b9
          clear hK K
          have z9x0 := (hb9.cell z8L).trans z8x0
          have z9x1 := (hb9.cell z8L).trans z8x1
          have z9x2 := (hb9.cell z8L).trans z8x2
          have z9F : ∀ o, w9.frozen? ⟨W6.heap.size, o, none⟩ = false := fun o => (hb9.frozen z8L).trans (z8F o)
          have z9L : W6.heap.size < w9.heap.size := Nat.lt_of_lt_of_le z8L hb9.size
          clear z8x0 z8x1 z8x2 z8F
          refine wpAnyH_take (i := 6) (oi := ⟨some 44, _, _, _, _, _⟩) (v := ?_) rfl (by kernel_rfl) (by kernel_rfl) (by kernel_rfl) (fun _ _ _ h => h) (Or.inl ⟨by rfl, ?_⟩) (by assumption) ?_
          rotate_left
          · intro w hSw
            try dsimp only at hSw
            go_simp
            try with_reducible rfl
          simp only [Act.put, List.setIfInBounds_toArray, List.set_cons_zero, List.set_cons_succ]
          refine wpAnyH_take (i := 7) (oi := ⟨some 51, _, _, _, _, _⟩) (v := ?_) rfl (by kernel_rfl) (by kernel_rfl) (by kernel_rfl) (fun _ _ _ h => h) (Or.inl ⟨by rfl, ?_⟩) (by assumption) ?_
          rotate_left
          · intro w hSw
            try dsimp only at hSw
            go_simp
            try with_reducible rfl
          simp only [Act.put, List.setIfInBounds_toArray, List.set_cons_zero, List.set_cons_succ]
          refine wpAnyH_take (i := 8) (oi := ⟨some 52, _, _, _, _, _⟩) (v := ?_) rfl (by kernel_rfl) (by kernel_rfl) (by kernel_rfl) (fun _ _ _ h => h) (Or.inl ⟨by rfl, ?_⟩) (by assumption) ?_
          rotate_left
          · intro w hSw
            try dsimp only at hSw
            go_simp
            try with_reducible rfl
          simp only [Act.put, List.setIfInBounds_toArray, List.set_cons_zero, List.set_cons_succ]
          refine wpAnyH_take (i := 9) (oi := ⟨some 53, _, _, _, _, _⟩) (v := ?_) rfl (by kernel_rfl) (by kernel_rfl) (by kernel_rfl) (fun _ _ _ h => h) (Or.inl ⟨by rfl, ?_⟩) (by assumption) ?_
          rotate_left
          · intro w hSw
            try dsimp only at hSw
            go_simp
            try with_reducible rfl
          simp only [Act.put, List.setIfInBounds_toArray, List.set_cons_zero, List.set_cons_succ]
          refine wpAnyH_ready (rs := [11]) (by kernel_rfl) (by simp) ?_
          refine AllReadyH.cons rfl (fun K hK => ?_) AllReadyH.nil
          go_simp
          refine hK.out _ _ ?_ (fun hHeld => ?_)
          · try dsimp only
            refine HSx.out _ ?_
            repeat (with_reducible refine Below.setCell ?_ ?_ _; rotate_left; (focus (exact (bl7))))
            exact (hHeld.2.2.2.2.2.2)
          clear hK K
          refine wpAnyH_take (i := 12) (oi := ⟨some 15, _, _, _, _, _⟩) (v := ?_) rfl (by kernel_rfl) (by kernel_rfl) (by kernel_rfl) (fun _ _ _ h => h) (Or.inl ⟨by rfl, ?_⟩) (by assumption) ?_
          rotate_left
          · intro w hSw
            try dsimp only at hSw
            go_simp
            try with_reducible rfl
          simp only [Act.put, List.setIfInBounds_toArray, List.set_cons_zero, List.set_cons_succ]
          refine wpAnyH_take (i := 13) (oi := ⟨some 16, _, _, _, _, _⟩) (v := ?_) rfl (by kernel_rfl) (by kernel_rfl) (by kernel_rfl) (fun _ _ _ h => h) (Or.inl ⟨by rfl, ?_⟩) (by assumption) ?_
          rotate_left
          · intro w hSw
            try dsimp only at hSw
            go_simp
            try with_reducible rfl
          simp only [Act.put, List.setIfInBounds_toArray, List.set_cons_zero, List.set_cons_succ]
          have HE := hidP (hHeld.2.2.2.2.2.2)
          refine wpAnyH_done (by kernel_rfl) ?_ _
          clear hHeld
          have lo := fun k hk => OwnG.lt op9 k hk
          have lb : W6.heap.size ≤ w8.heap.size := by first | exact b8.size | exact z8M.size
          have pl : W6.heap.size < w8.heap.size := z8L
          have HF := hidP (OwnG.mono op9 lb)
          have HLo := hidP lo
          have HzF := hidP z9F
          clear lo op9
          go_wp2_with fail
          go_meet
          refine ⟨_, ra9, rc9, rfl, rfl, rfl, bl7, ?_, ?_, ?_, ?_, (fun o => frz_set1 (frz_set1 (frz_set1 (HzF.out o)))), OwnG.put3 HF.out (fun k hk => by have := HLo.out k hk; omega), (fun k hk => by have := HLo.out k hk; omega), HE.out⟩
          · simp; exact z9L
          all_goals (simp [go_sem, z9x0, z9x1, z9x2])
      case rest =>
        obtain ⟨p2, A2, C2, rfl, rfl, rfl, hp2, gaL_wc', q0, q1, q2, qF, oq, nq, hX⟩ := hcut
        have OQ := hidP oq
        have NQ2 := hidP nq
        have HP2 : Hid (W6.heap.size ≤ p2 ∧ p2 < wc.heap.size) := hidP ⟨hp2, gaL_wc'⟩
        clear oq nq
        obtain ⟨X2, hX2⟩ : ∃ X, X = wc := ⟨_, rfl⟩
        rw [← hX2] at q0 q1 q2 qF OQ hX gaL_wc' HP2 ⊢
        clear hX2
        have lb0_X2 := (hX.cell lbL_W6).trans lb0_W6
        have lb1_X2 := (hX.cell lbL_W6).trans lb1_W6
        have lb2_X2 := (hX.cell lbL_W6).trans lb2_W6
        have lbF_X2 : ∀ o, X2.frozen? ⟨w.heap.size, o, none⟩ = false := fun o => (hX.frozen lbL_W6).trans (lbF_W6 o)
        have lbL_X2 : w.heap.size < X2.heap.size := Nat.lt_of_lt_of_le lbL_W6 hX.size
        have la0_X2 := (hX.cell laL_W6).trans la0_W6
        have la1_X2 := (hX.cell laL_W6).trans la1_W6
        have la2_X2 := (hX.cell laL_W6).trans la2_W6
        have laF_X2 : ∀ o, X2.frozen? ⟨w.heap.size + 1, o, none⟩ = false := fun o => (hX.frozen laL_W6).trans (laF_W6 o)
        have laL_X2 : w.heap.size + 1 < X2.heap.size := Nat.lt_of_lt_of_le laL_W6 hX.size
        have wa0_X2 := (hX.cell waL_W6).trans wa0_W6
        have wa1_X2 := (hX.cell waL_W6).trans wa1_W6
        have wa2_X2 := (hX.cell waL_W6).trans wa2_W6
        have waF_X2 : ∀ o, X2.frozen? ⟨p1, o, none⟩ = false := fun o => (hX.frozen waL_W6).trans (waF_W6 o)
        have waL_X2 : p1 < X2.heap.size := Nat.lt_of_lt_of_le waL_W6 hX.size
        have xa0_X2 := (hX.cell xaL_W6).trans xa0_W6
        have xa1_X2 := (hX.cell xaL_W6).trans xa1_W6
        have xa2_X2 := (hX.cell xaL_W6).trans xa2_W6
        have xaF_X2 : ∀ o, X2.frozen? ⟨w5.heap.size, o, none⟩ = false := fun o => (hX.frozen xaL_W6).trans (xaF_W6 o)
        have xaL_X2 : w5.heap.size < X2.heap.size := Nat.lt_of_lt_of_le xaL_W6 hX.size
        have oW_X2 := hidP (OwnG.later oW_W6.out hX)
        have oX_X2 := hidP (OwnG.later oX_W6.out hX)
        have acc_X2 := hidP (acc_W6.out.trans (hX.mono acc_W6.out.size))
        have sz_X2 : Hid (W6.heap.size ≤ X2.heap.size) := hidP hX.size
        clear hX lb0_W6 lb1_W6 lb2_W6 lbF_W6 lbL_W6 la0_W6 la1_W6 la2_W6 laF_W6 laL_W6 wa0_W6 wa1_W6 wa2_W6 waF_W6 waL_W6 xa0_W6 xa1_W6 xa2_W6 xaF_W6 xaL_W6 oW_W6 oX_W6 acc_W6
        have ga0_X2 := q0
        have ga1_X2 := q1
        have ga2_X2 := q2
        have gaF_X2 := qF
        have gaL_X2 := gaL_wc'
        clear q0 q1 q2 qF gaL_wc' hp2
        have oG_X2 := hidP (OQ.out)
        have lhG : Hid (∀ k, (Value.slice A2 nL C2).ownBlock = some k → W6.heap.size ≤ k ∧ k < X2.heap.size) := hidP (fun k hk => OwnG.lt oG_X2.out k hk)
        clear OQ
        go_wp2_with fail
        refine (HEq.out _ A2 C2 A1 C1 oG_X2.out.row oW_X2.out.row).mono ?_
        rintro e w10 ⟨rfl, hb10⟩
        have lb0_w10 := (hb10.cell lbL_X2).trans lb0_X2
        have lb1_w10 := (hb10.cell lbL_X2).trans lb1_X2
        have lb2_w10 := (hb10.cell lbL_X2).trans lb2_X2
        have lbF_w10 : ∀ o, w10.frozen? ⟨w.heap.size, o, none⟩ = false := fun o => (hb10.frozen lbL_X2).trans (lbF_X2 o)
        have lbL_w10 : w.heap.size < w10.heap.size := Nat.lt_of_lt_of_le lbL_X2 hb10.size
        have la0_w10 := (hb10.cell laL_X2).trans la0_X2
        have la1_w10 := (hb10.cell laL_X2).trans la1_X2
        have la2_w10 := (hb10.cell laL_X2).trans la2_X2
        have laF_w10 : ∀ o, w10.frozen? ⟨w.heap.size + 1, o, none⟩ = false := fun o => (hb10.frozen laL_X2).trans (laF_X2 o)
        have laL_w10 : w.heap.size + 1 < w10.heap.size := Nat.lt_of_lt_of_le laL_X2 hb10.size
        have wa0_w10 := (hb10.cell waL_X2).trans wa0_X2
        have wa1_w10 := (hb10.cell waL_X2).trans wa1_X2
        have wa2_w10 := (hb10.cell waL_X2).trans wa2_X2
        have waF_w10 : ∀ o, w10.frozen? ⟨p1, o, none⟩ = false := fun o => (hb10.frozen waL_X2).trans (waF_X2 o)
        have waL_w10 : p1 < w10.heap.size := Nat.lt_of_lt_of_le waL_X2 hb10.size
        have xa0_w10 := (hb10.cell xaL_X2).trans xa0_X2
        have xa1_w10 := (hb10.cell xaL_X2).trans xa1_X2
        have xa2_w10 := (hb10.cell xaL_X2).trans xa2_X2
        have xaF_w10 : ∀ o, w10.frozen? ⟨w5.heap.size, o, none⟩ = false := fun o => (hb10.frozen xaL_X2).trans (xaF_X2 o)
        have xaL_w10 : w5.heap.size < w10.heap.size := Nat.lt_of_lt_of_le xaL_X2 hb10.size
        have ga0_w10 := (hb10.cell gaL_X2).trans ga0_X2
        have ga1_w10 := (hb10.cell gaL_X2).trans ga1_X2
        have ga2_w10 := (hb10.cell gaL_X2).trans ga2_X2
        have gaF_w10 : ∀ o, w10.frozen? ⟨p2, o, none⟩ = false := fun o => (hb10.frozen gaL_X2).trans (gaF_X2 o)
        have gaL_w10 : p2 < w10.heap.size := Nat.lt_of_lt_of_le gaL_X2 hb10.size
        have oW_w10 := hidP (OwnG.later oW_X2.out hb10)
        have oX_w10 := hidP (OwnG.later oX_X2.out hb10)
        have oG_w10 := hidP (OwnG.later oG_X2.out hb10)
        have acc_w10 := hidP (acc_X2.out.trans (hb10.mono acc_X2.out.size))
        have sz_w10 : Hid (X2.heap.size ≤ w10.heap.size) := hidP hb10.size
        clear hb10 lb0_X2 lb1_X2 lb2_X2 lbF_X2 lbL_X2 la0_X2 la1_X2 la2_X2 laF_X2 laL_X2 wa0_X2 wa1_X2 wa2_X2 waF_X2 waL_X2 xa0_X2 xa1_X2 xa2_X2 xaF_X2 xaL_X2 ga0_X2 ga1_X2 ga2_X2 gaF_X2 gaL_X2 oW_X2 oX_X2 oG_X2 acc_X2
        go_wp2_with fail
        have HSx : Hid (∀ x, Below w10.heap.size w10 x → (x.cell? ⟨w5.heap.size, 0, none⟩ = some (.slice (some ⟨g2, 0, none⟩) n n) ∧ x.cell? ⟨w5.heap.size, 1, none⟩ = some (.int .i64 T) ∧ x.cell? ⟨w5.heap.size, 2, none⟩ = some (.int .i64 N) ∧ x.cell? ⟨w.heap.size, 0, none⟩ = some (.slice a n c) ∧ x.cell? ⟨w.heap.size, 1, none⟩ = some (.int .i64 T) ∧ x.cell? ⟨w.heap.size, 2, none⟩ = some (.int .i64 N) ∧ Below w10.heap.size w10 x)) := hidP fun x h =>
          ⟨(h.cell xaL_w10).trans xa0_w10, (h.cell xaL_w10).trans xa1_w10, (h.cell xaL_w10).trans xa2_w10, (h.cell lbL_w10).trans lb0_w10, (h.cell lbL_w10).trans lb1_w10, (h.cell lbL_w10).trans lb2_w10, h⟩
        refine wp_region_held_drew (S := (fun x => x.cell? ⟨w5.heap.size, 0, none⟩ = some (.slice (some ⟨g2, 0, none⟩) n n) ∧ x.cell? ⟨w5.heap.size, 1, none⟩ = some (.int .i64 T) ∧ x.cell? ⟨w5.heap.size, 2, none⟩ = some (.int .i64 N) ∧ x.cell? ⟨w.heap.size, 0, none⟩ = some (.slice a n c) ∧ x.cell? ⟨w.heap.size, 1, none⟩ = some (.int .i64 T) ∧ x.cell? ⟨w.heap.size, 2, none⟩ = some (.int .i64 N) ∧ Below w10.heap.size w10 x)) (by kernel_rfl) ?_ (fun hHeld => ?_)
        · try dsimp only
          exact HSx.out _ ((Below.refl _ _).drew)
        refine wpAnyH_take (i := 0) (oi := ⟨some 68, _, _, _, _, _⟩) (v := ?_) rfl (by kernel_rfl) (by kernel_rfl) (by kernel_rfl) (fun _ _ _ h => h) (Or.inl ⟨by rfl, ?_⟩) (by assumption) ?_
        rotate_left
        · intro w hSw
          try dsimp only at hSw
          go_simp
          try with_reducible rfl
        simp only [Act.put, List.setIfInBounds_toArray, List.set_cons_zero, List.set_cons_succ]
        refine wpAnyH_take (i := 1) (oi := ⟨some 69, _, _, _, _, _⟩) (v := ?_) rfl (by kernel_rfl) (by kernel_rfl) (by kernel_rfl) (fun _ _ _ h => h) (Or.inl ⟨by rfl, ?_⟩) (by assumption) ?_
        rotate_left
        · intro w hSw
          try dsimp only at hSw
          go_simp
          try with_reducible rfl
        simp only [Act.put, List.setIfInBounds_toArray, List.set_cons_zero, List.set_cons_succ]
        refine wpAnyH_ready (rs := [2]) (by kernel_rfl) (by simp) ?_
        refine AllReadyH.cons rfl (fun K hK => ?_) AllReadyH.nil
        go_simp
        go_wp2_with (first | (go_at_call 6; refine (HTo.out _ (acc_w10.out.trans ((hHeld.2.2.2.2.2.2).mono acc_w10.out.size))).mono ?_; rintro e w11 ⟨g3, rfl, og3, hb11⟩; have b11 := (hHeld.2.2.2.2.2.2).trans (hb11.mono (hHeld.2.2.2.2.2.2).size)))
        refine hK.out _ _ ?_ (fun hHeld => ?_)
        · try dsimp only
          exact HSx.out _ b11
        clear hK K
        refine wpAnyH_ready (rs := [3]) (by kernel_rfl) (by simp) ?_
        refine AllReadyH.cons rfl (fun K hK => ?_) AllReadyH.nil
        go_simp
        go_wp2_with (first | (go_at_call 9; refine (HEx.out _ g2 g3 (oX_w10.out.row.later (hHeld.2.2.2.2.2.2)) og3.row).mono ?_; rintro e w12 ⟨rfl, hb12⟩; have b12 := (hHeld.2.2.2.2.2.2).trans (hb12.mono (hHeld.2.2.2.2.2.2).size)))
        refine hK.out _ _ ?_ (fun hHeld => ?_)
        · try dsimp only
          exact HSx.out _ b12
        clear hK K
        refine wpAnyH_take (i := 4) (oi := ⟨some 72, _, _, _, _, _⟩) (v := ?_) rfl (by kernel_rfl) (by kernel_rfl) (by kernel_rfl) (fun _ _ _ h => h) (Or.inl ⟨by rfl, ?_⟩) (by assumption) ?_
        rotate_left
        · intro w hSw
          try dsimp only at hSw
          go_simp
          try with_reducible rfl
        simp only [Act.put, List.setIfInBounds_toArray, List.set_cons_zero, List.set_cons_succ]
        have HE := hidP (hHeld.2.2.2.2.2.2)
        refine wpAnyH_done (by kernel_rfl) ?_ _
        clear hHeld
        have hb12' := HE.out
        clear HE hb11 hb12 b11 b12 og3 HSx
        have lb0_w12 := (hb12'.cell lbL_w10).trans lb0_w10
        have lb1_w12 := (hb12'.cell lbL_w10).trans lb1_w10
        have lb2_w12 := (hb12'.cell lbL_w10).trans lb2_w10
        have lbF_w12 : ∀ o, w12.frozen? ⟨w.heap.size, o, none⟩ = false := fun o => (hb12'.frozen lbL_w10).trans (lbF_w10 o)
        have lbL_w12 : w.heap.size < w12.heap.size := Nat.lt_of_lt_of_le lbL_w10 hb12'.size
        have la0_w12 := (hb12'.cell laL_w10).trans la0_w10
        have la1_w12 := (hb12'.cell laL_w10).trans la1_w10
        have la2_w12 := (hb12'.cell laL_w10).trans la2_w10
        have laF_w12 : ∀ o, w12.frozen? ⟨w.heap.size + 1, o, none⟩ = false := fun o => (hb12'.frozen laL_w10).trans (laF_w10 o)
        have laL_w12 : w.heap.size + 1 < w12.heap.size := Nat.lt_of_lt_of_le laL_w10 hb12'.size
        have wa0_w12 := (hb12'.cell waL_w10).trans wa0_w10
        have wa1_w12 := (hb12'.cell waL_w10).trans wa1_w10
        have wa2_w12 := (hb12'.cell waL_w10).trans wa2_w10
        have waF_w12 : ∀ o, w12.frozen? ⟨p1, o, none⟩ = false := fun o => (hb12'.frozen waL_w10).trans (waF_w10 o)
        have waL_w12 : p1 < w12.heap.size := Nat.lt_of_lt_of_le waL_w10 hb12'.size
        have xa0_w12 := (hb12'.cell xaL_w10).trans xa0_w10
        have xa1_w12 := (hb12'.cell xaL_w10).trans xa1_w10
        have xa2_w12 := (hb12'.cell xaL_w10).trans xa2_w10
        have xaF_w12 : ∀ o, w12.frozen? ⟨w5.heap.size, o, none⟩ = false := fun o => (hb12'.frozen xaL_w10).trans (xaF_w10 o)
        have xaL_w12 : w5.heap.size < w12.heap.size := Nat.lt_of_lt_of_le xaL_w10 hb12'.size
        have ga0_w12 := (hb12'.cell gaL_w10).trans ga0_w10
        have ga1_w12 := (hb12'.cell gaL_w10).trans ga1_w10
        have ga2_w12 := (hb12'.cell gaL_w10).trans ga2_w10
        have gaF_w12 : ∀ o, w12.frozen? ⟨p2, o, none⟩ = false := fun o => (hb12'.frozen gaL_w10).trans (gaF_w10 o)
        have gaL_w12 : p2 < w12.heap.size := Nat.lt_of_lt_of_le gaL_w10 hb12'.size
        have oW_w12 := hidP (OwnG.later oW_w10.out hb12')
        have oX_w12 := hidP (OwnG.later oX_w10.out hb12')
        have oG_w12 := hidP (OwnG.later oG_w10.out hb12')
        have acc_w12 := hidP (acc_w10.out.trans (hb12'.mono acc_w10.out.size))
        have sz_w12 : Hid (w10.heap.size ≤ w12.heap.size) := hidP hb12'.size
        clear hb12' lb0_w10 lb1_w10 lb2_w10 lbF_w10 lbL_w10 la0_w10 la1_w10 la2_w10 laF_w10 laL_w10 wa0_w10 wa1_w10 wa2_w10 waF_w10 waL_w10 xa0_w10 xa1_w10 xa2_w10 xaF_w10 xaL_w10 ga0_w10 ga1_w10 ga2_w10 gaF_w10 gaL_w10 oW_w10 oX_w10 oG_w10 acc_w10
        go_wp2_with fail
        refine (HMx.out _ g2 _ oX_w12.out).mono ?_
        rintro e w13 ⟨rfl, om, hg13⟩
        have OM := hidP om
        clear om
        have nelb : ∀ k, (Value.slice (some ⟨g2, 0, none⟩) n n).ownBlock = some k → k ≠ w.heap.size := fun k hk => by have h5 := lhX.out k hk; have := as_W1.out; have := sz_W1.out; have := as_W2.out; have := sz_W2.out; have := sz_w3.out; have := sz_X1.out; have := HP1.out; have := sz_w5.out; have := as_W6.out; have := sz_W6.out; have := sz_X2.out; have := HP2.out; have := sz_w10.out; have := sz_w12.out; omega
        have lb0_w13 := cell_grown hg13 lb0_w12 nelb
        have lb1_w13 := cell_grown hg13 lb1_w12 nelb
        have lb2_w13 := cell_grown hg13 lb2_w12 nelb
        have lbF_w13 : ∀ o, w13.frozen? ⟨w.heap.size, o, none⟩ = false := fun o => frz_grownZ hg13 lbL_w12 (lbF_w12 o) nelb
        have lbL_w13 : w.heap.size < w13.heap.size := Nat.lt_of_lt_of_le lbL_w12 hg13.size
        have nela : ∀ k, (Value.slice (some ⟨g2, 0, none⟩) n n).ownBlock = some k → k ≠ w.heap.size + 1 := fun k hk => by have h5 := lhX.out k hk; have := as_W1.out; have := sz_W1.out; have := as_W2.out; have := sz_W2.out; have := sz_w3.out; have := sz_X1.out; have := HP1.out; have := sz_w5.out; have := as_W6.out; have := sz_W6.out; have := sz_X2.out; have := HP2.out; have := sz_w10.out; have := sz_w12.out; omega
        have la0_w13 := cell_grown hg13 la0_w12 nela
        have la1_w13 := cell_grown hg13 la1_w12 nela
        have la2_w13 := cell_grown hg13 la2_w12 nela
        have laF_w13 : ∀ o, w13.frozen? ⟨w.heap.size + 1, o, none⟩ = false := fun o => frz_grownZ hg13 laL_w12 (laF_w12 o) nela
        have laL_w13 : w.heap.size + 1 < w13.heap.size := Nat.lt_of_lt_of_le laL_w12 hg13.size
        have newa : ∀ k, (Value.slice (some ⟨g2, 0, none⟩) n n).ownBlock = some k → k ≠ p1 := fun k hk => by have h5 := lhX.out k hk; have := as_W1.out; have := sz_W1.out; have := as_W2.out; have := sz_W2.out; have := sz_w3.out; have := sz_X1.out; have := HP1.out; have := sz_w5.out; have := as_W6.out; have := sz_W6.out; have := sz_X2.out; have := HP2.out; have := sz_w10.out; have := sz_w12.out; omega
        have wa0_w13 := cell_grown hg13 wa0_w12 newa
        have wa1_w13 := cell_grown hg13 wa1_w12 newa
        have wa2_w13 := cell_grown hg13 wa2_w12 newa
        have waF_w13 : ∀ o, w13.frozen? ⟨p1, o, none⟩ = false := fun o => frz_grownZ hg13 waL_w12 (waF_w12 o) newa
        have waL_w13 : p1 < w13.heap.size := Nat.lt_of_lt_of_le waL_w12 hg13.size
        have nexa : ∀ k, (Value.slice (some ⟨g2, 0, none⟩) n n).ownBlock = some k → k ≠ w5.heap.size := fun k hk => by have h5 := lhX.out k hk; have := as_W1.out; have := sz_W1.out; have := as_W2.out; have := sz_W2.out; have := sz_w3.out; have := sz_X1.out; have := HP1.out; have := sz_w5.out; have := as_W6.out; have := sz_W6.out; have := sz_X2.out; have := HP2.out; have := sz_w10.out; have := sz_w12.out; omega
        have xa0_w13 := cell_grown hg13 xa0_w12 nexa
        have xa1_w13 := cell_grown hg13 xa1_w12 nexa
        have xa2_w13 := cell_grown hg13 xa2_w12 nexa
        have xaF_w13 : ∀ o, w13.frozen? ⟨w5.heap.size, o, none⟩ = false := fun o => frz_grownZ hg13 xaL_w12 (xaF_w12 o) nexa
        have xaL_w13 : w5.heap.size < w13.heap.size := Nat.lt_of_lt_of_le xaL_w12 hg13.size
        have nega : ∀ k, (Value.slice (some ⟨g2, 0, none⟩) n n).ownBlock = some k → k ≠ p2 := fun k hk => by have h5 := lhX.out k hk; have := as_W1.out; have := sz_W1.out; have := as_W2.out; have := sz_W2.out; have := sz_w3.out; have := sz_X1.out; have := HP1.out; have := sz_w5.out; have := as_W6.out; have := sz_W6.out; have := sz_X2.out; have := HP2.out; have := sz_w10.out; have := sz_w12.out; omega
        have ga0_w13 := cell_grown hg13 ga0_w12 nega
        have ga1_w13 := cell_grown hg13 ga1_w12 nega
        have ga2_w13 := cell_grown hg13 ga2_w12 nega
        have gaF_w13 : ∀ o, w13.frozen? ⟨p2, o, none⟩ = false := fun o => frz_grownZ hg13 gaL_w12 (gaF_w12 o) nega
        have gaL_w13 : p2 < w13.heap.size := Nat.lt_of_lt_of_le gaL_w12 hg13.size
        have oW_w13 := hidP (OwnG.grown oW_w12.out hg13 (fun j hj he => by have h5 := lhW.out j hj; have h6 := lhX.out j he; have := as_W1.out; have := sz_W1.out; have := as_W2.out; have := sz_W2.out; have := sz_w3.out; have := sz_X1.out; have := HP1.out; have := sz_w5.out; have := as_W6.out; have := sz_W6.out; have := sz_X2.out; have := HP2.out; have := sz_w10.out; have := sz_w12.out; omega))
        have oX_w13 := hidP (OM.out)
        have oG_w13 := hidP (OwnG.grown oG_w12.out hg13 (fun j hj he => by have h5 := lhG.out j hj; have h6 := lhX.out j he; have := as_W1.out; have := sz_W1.out; have := as_W2.out; have := sz_W2.out; have := sz_w3.out; have := sz_X1.out; have := HP1.out; have := sz_w5.out; have := as_W6.out; have := sz_W6.out; have := sz_X2.out; have := HP2.out; have := sz_w10.out; have := sz_w12.out; omega))
        have acc_w13 := hidP (Below.grown acc_w12.out hg13 acc_w12.out.size (fun k hk => by have h5 := lhX.out k hk; have := as_W1.out; have := sz_W1.out; have := as_W2.out; have := sz_W2.out; have := sz_w3.out; have := sz_X1.out; have := HP1.out; have := sz_w5.out; have := as_W6.out; have := sz_W6.out; have := sz_X2.out; have := HP2.out; have := sz_w10.out; have := sz_w12.out; omega))
        have sz_w13 : Hid (w12.heap.size ≤ w13.heap.size) := hidP hg13.size
        clear hg13 lb0_w12 lb1_w12 lb2_w12 lbF_w12 lbL_w12 nelb la0_w12 la1_w12 la2_w12 laF_w12 laL_w12 nela wa0_w12 wa1_w12 wa2_w12 waF_w12 waL_w12 newa xa0_w12 xa1_w12 xa2_w12 xaF_w12 xaL_w12 nexa ga0_w12 ga1_w12 ga2_w12 gaF_w12 gaL_w12 nega oW_w12 oX_w12 oG_w12 acc_w12
        clear OM
        go_wp2_with fail
        refine (HEq.out _ A2 C2 A1 C1 oG_w13.out.row oW_w13.out.row).mono ?_
        rintro e w14 ⟨rfl, hb14⟩
        have lb0_w14 := (hb14.cell lbL_w13).trans lb0_w13
        have lb1_w14 := (hb14.cell lbL_w13).trans lb1_w13
        have lb2_w14 := (hb14.cell lbL_w13).trans lb2_w13
        have lbF_w14 : ∀ o, w14.frozen? ⟨w.heap.size, o, none⟩ = false := fun o => (hb14.frozen lbL_w13).trans (lbF_w13 o)
        have lbL_w14 : w.heap.size < w14.heap.size := Nat.lt_of_lt_of_le lbL_w13 hb14.size
        have la0_w14 := (hb14.cell laL_w13).trans la0_w13
        have la1_w14 := (hb14.cell laL_w13).trans la1_w13
        have la2_w14 := (hb14.cell laL_w13).trans la2_w13
        have laF_w14 : ∀ o, w14.frozen? ⟨w.heap.size + 1, o, none⟩ = false := fun o => (hb14.frozen laL_w13).trans (laF_w13 o)
        have laL_w14 : w.heap.size + 1 < w14.heap.size := Nat.lt_of_lt_of_le laL_w13 hb14.size
        have wa0_w14 := (hb14.cell waL_w13).trans wa0_w13
        have wa1_w14 := (hb14.cell waL_w13).trans wa1_w13
        have wa2_w14 := (hb14.cell waL_w13).trans wa2_w13
        have waF_w14 : ∀ o, w14.frozen? ⟨p1, o, none⟩ = false := fun o => (hb14.frozen waL_w13).trans (waF_w13 o)
        have waL_w14 : p1 < w14.heap.size := Nat.lt_of_lt_of_le waL_w13 hb14.size
        have xa0_w14 := (hb14.cell xaL_w13).trans xa0_w13
        have xa1_w14 := (hb14.cell xaL_w13).trans xa1_w13
        have xa2_w14 := (hb14.cell xaL_w13).trans xa2_w13
        have xaF_w14 : ∀ o, w14.frozen? ⟨w5.heap.size, o, none⟩ = false := fun o => (hb14.frozen xaL_w13).trans (xaF_w13 o)
        have xaL_w14 : w5.heap.size < w14.heap.size := Nat.lt_of_lt_of_le xaL_w13 hb14.size
        have ga0_w14 := (hb14.cell gaL_w13).trans ga0_w13
        have ga1_w14 := (hb14.cell gaL_w13).trans ga1_w13
        have ga2_w14 := (hb14.cell gaL_w13).trans ga2_w13
        have gaF_w14 : ∀ o, w14.frozen? ⟨p2, o, none⟩ = false := fun o => (hb14.frozen gaL_w13).trans (gaF_w13 o)
        have gaL_w14 : p2 < w14.heap.size := Nat.lt_of_lt_of_le gaL_w13 hb14.size
        have oW_w14 := hidP (OwnG.later oW_w13.out hb14)
        have oX_w14 := hidP (OwnG.later oX_w13.out hb14)
        have oG_w14 := hidP (OwnG.later oG_w13.out hb14)
        have acc_w14 := hidP (acc_w13.out.trans (hb14.mono acc_w13.out.size))
        have sz_w14 : Hid (w13.heap.size ≤ w14.heap.size) := hidP hb14.size
        clear hb14 lb0_w13 lb1_w13 lb2_w13 lbF_w13 lbL_w13 la0_w13 la1_w13 la2_w13 laF_w13 laL_w13 wa0_w13 wa1_w13 wa2_w13 waF_w13 waL_w13 xa0_w13 xa1_w13 xa2_w13 xaF_w13 xaL_w13 ga0_w13 ga1_w13 ga2_w13 gaF_w13 gaL_w13 oW_w13 oX_w13 oG_w13 acc_w13
        go_wp2_with fail
        refine (HMg.out _ A2 C2 _ oG_w14.out).mono ?_
        rintro e w15 ⟨rfl, om, hg15⟩
        have OM := hidP om
        clear om
        have nelb : ∀ k, (Value.slice A2 nL C2).ownBlock = some k → k ≠ w.heap.size := fun k hk => by have h5 := lhG.out k hk; have := as_W1.out; have := sz_W1.out; have := as_W2.out; have := sz_W2.out; have := sz_w3.out; have := sz_X1.out; have := HP1.out; have := sz_w5.out; have := as_W6.out; have := sz_W6.out; have := sz_X2.out; have := HP2.out; have := sz_w10.out; have := sz_w12.out; have := sz_w13.out; have := sz_w14.out; omega
        have lb0_w15 := cell_grown hg15 lb0_w14 nelb
        have lb1_w15 := cell_grown hg15 lb1_w14 nelb
        have lb2_w15 := cell_grown hg15 lb2_w14 nelb
        have lbF_w15 : ∀ o, w15.frozen? ⟨w.heap.size, o, none⟩ = false := fun o => frz_grownZ hg15 lbL_w14 (lbF_w14 o) nelb
        have lbL_w15 : w.heap.size < w15.heap.size := Nat.lt_of_lt_of_le lbL_w14 hg15.size
        have nela : ∀ k, (Value.slice A2 nL C2).ownBlock = some k → k ≠ w.heap.size + 1 := fun k hk => by have h5 := lhG.out k hk; have := as_W1.out; have := sz_W1.out; have := as_W2.out; have := sz_W2.out; have := sz_w3.out; have := sz_X1.out; have := HP1.out; have := sz_w5.out; have := as_W6.out; have := sz_W6.out; have := sz_X2.out; have := HP2.out; have := sz_w10.out; have := sz_w12.out; have := sz_w13.out; have := sz_w14.out; omega
        have la0_w15 := cell_grown hg15 la0_w14 nela
        have la1_w15 := cell_grown hg15 la1_w14 nela
        have la2_w15 := cell_grown hg15 la2_w14 nela
        have laF_w15 : ∀ o, w15.frozen? ⟨w.heap.size + 1, o, none⟩ = false := fun o => frz_grownZ hg15 laL_w14 (laF_w14 o) nela
        have laL_w15 : w.heap.size + 1 < w15.heap.size := Nat.lt_of_lt_of_le laL_w14 hg15.size
        have newa : ∀ k, (Value.slice A2 nL C2).ownBlock = some k → k ≠ p1 := fun k hk => by have h5 := lhG.out k hk; have := as_W1.out; have := sz_W1.out; have := as_W2.out; have := sz_W2.out; have := sz_w3.out; have := sz_X1.out; have := HP1.out; have := sz_w5.out; have := as_W6.out; have := sz_W6.out; have := sz_X2.out; have := HP2.out; have := sz_w10.out; have := sz_w12.out; have := sz_w13.out; have := sz_w14.out; omega
        have wa0_w15 := cell_grown hg15 wa0_w14 newa
        have wa1_w15 := cell_grown hg15 wa1_w14 newa
        have wa2_w15 := cell_grown hg15 wa2_w14 newa
        have waF_w15 : ∀ o, w15.frozen? ⟨p1, o, none⟩ = false := fun o => frz_grownZ hg15 waL_w14 (waF_w14 o) newa
        have waL_w15 : p1 < w15.heap.size := Nat.lt_of_lt_of_le waL_w14 hg15.size
        have nexa : ∀ k, (Value.slice A2 nL C2).ownBlock = some k → k ≠ w5.heap.size := fun k hk => by have h5 := lhG.out k hk; have := as_W1.out; have := sz_W1.out; have := as_W2.out; have := sz_W2.out; have := sz_w3.out; have := sz_X1.out; have := HP1.out; have := sz_w5.out; have := as_W6.out; have := sz_W6.out; have := sz_X2.out; have := HP2.out; have := sz_w10.out; have := sz_w12.out; have := sz_w13.out; have := sz_w14.out; omega
        have xa0_w15 := cell_grown hg15 xa0_w14 nexa
        have xa1_w15 := cell_grown hg15 xa1_w14 nexa
        have xa2_w15 := cell_grown hg15 xa2_w14 nexa
        have xaF_w15 : ∀ o, w15.frozen? ⟨w5.heap.size, o, none⟩ = false := fun o => frz_grownZ hg15 xaL_w14 (xaF_w14 o) nexa
        have xaL_w15 : w5.heap.size < w15.heap.size := Nat.lt_of_lt_of_le xaL_w14 hg15.size
        have nega : ∀ k, (Value.slice A2 nL C2).ownBlock = some k → k ≠ p2 := NQ2.out
        have ga0_w15 := cell_grown hg15 ga0_w14 nega
        have ga1_w15 := cell_grown hg15 ga1_w14 nega
        have ga2_w15 := cell_grown hg15 ga2_w14 nega
        have gaF_w15 : ∀ o, w15.frozen? ⟨p2, o, none⟩ = false := fun o => frz_grownZ hg15 gaL_w14 (gaF_w14 o) nega
        have gaL_w15 : p2 < w15.heap.size := Nat.lt_of_lt_of_le gaL_w14 hg15.size
        have oW_w15 := hidP (OwnG.grown oW_w14.out hg15 (fun j hj he => by have h5 := lhW.out j hj; have h6 := lhG.out j he; have := as_W1.out; have := sz_W1.out; have := as_W2.out; have := sz_W2.out; have := sz_w3.out; have := sz_X1.out; have := HP1.out; have := sz_w5.out; have := as_W6.out; have := sz_W6.out; have := sz_X2.out; have := HP2.out; have := sz_w10.out; have := sz_w12.out; have := sz_w13.out; have := sz_w14.out; omega))
        have oX_w15 := hidP (OwnG.grown oX_w14.out hg15 (fun j hj he => by have h5 := lhX.out j hj; have h6 := lhG.out j he; have := as_W1.out; have := sz_W1.out; have := as_W2.out; have := sz_W2.out; have := sz_w3.out; have := sz_X1.out; have := HP1.out; have := sz_w5.out; have := as_W6.out; have := sz_W6.out; have := sz_X2.out; have := HP2.out; have := sz_w10.out; have := sz_w12.out; have := sz_w13.out; have := sz_w14.out; omega))
        have oG_w15 := hidP (OM.out)
        have acc_w15 := hidP (Below.grown acc_w14.out hg15 acc_w14.out.size (fun k hk => by have h5 := lhG.out k hk; have := as_W1.out; have := sz_W1.out; have := as_W2.out; have := sz_W2.out; have := sz_w3.out; have := sz_X1.out; have := HP1.out; have := sz_w5.out; have := as_W6.out; have := sz_W6.out; have := sz_X2.out; have := HP2.out; have := sz_w10.out; have := sz_w12.out; have := sz_w13.out; have := sz_w14.out; omega))
        have sz_w15 : Hid (w14.heap.size ≤ w15.heap.size) := hidP hg15.size
        clear hg15 lb0_w14 lb1_w14 lb2_w14 lbF_w14 lbL_w14 nelb la0_w14 la1_w14 la2_w14 laF_w14 laL_w14 nela wa0_w14 wa1_w14 wa2_w14 waF_w14 waL_w14 newa xa0_w14 xa1_w14 xa2_w14 xaF_w14 xaL_w14 nexa ga0_w14 ga1_w14 ga2_w14 gaF_w14 gaL_w14 nega oW_w14 oX_w14 oG_w14 acc_w14
        clear OM
        go_wp2_with fail
        refine (HHg.out _ A2 C2 oG_w15.out.row).mono ?_
        rintro e w16 ⟨rfl, hb16⟩
        have lb0_w16 := (hb16.cell lbL_w15).trans lb0_w15
        have lb1_w16 := (hb16.cell lbL_w15).trans lb1_w15
        have lb2_w16 := (hb16.cell lbL_w15).trans lb2_w15
        have lbF_w16 : ∀ o, w16.frozen? ⟨w.heap.size, o, none⟩ = false := fun o => (hb16.frozen lbL_w15).trans (lbF_w15 o)
        have lbL_w16 : w.heap.size < w16.heap.size := Nat.lt_of_lt_of_le lbL_w15 hb16.size
        have la0_w16 := (hb16.cell laL_w15).trans la0_w15
        have la1_w16 := (hb16.cell laL_w15).trans la1_w15
        have la2_w16 := (hb16.cell laL_w15).trans la2_w15
        have laF_w16 : ∀ o, w16.frozen? ⟨w.heap.size + 1, o, none⟩ = false := fun o => (hb16.frozen laL_w15).trans (laF_w15 o)
        have laL_w16 : w.heap.size + 1 < w16.heap.size := Nat.lt_of_lt_of_le laL_w15 hb16.size
        have wa0_w16 := (hb16.cell waL_w15).trans wa0_w15
        have wa1_w16 := (hb16.cell waL_w15).trans wa1_w15
        have wa2_w16 := (hb16.cell waL_w15).trans wa2_w15
        have waF_w16 : ∀ o, w16.frozen? ⟨p1, o, none⟩ = false := fun o => (hb16.frozen waL_w15).trans (waF_w15 o)
        have waL_w16 : p1 < w16.heap.size := Nat.lt_of_lt_of_le waL_w15 hb16.size
        have xa0_w16 := (hb16.cell xaL_w15).trans xa0_w15
        have xa1_w16 := (hb16.cell xaL_w15).trans xa1_w15
        have xa2_w16 := (hb16.cell xaL_w15).trans xa2_w15
        have xaF_w16 : ∀ o, w16.frozen? ⟨w5.heap.size, o, none⟩ = false := fun o => (hb16.frozen xaL_w15).trans (xaF_w15 o)
        have xaL_w16 : w5.heap.size < w16.heap.size := Nat.lt_of_lt_of_le xaL_w15 hb16.size
        have ga0_w16 := (hb16.cell gaL_w15).trans ga0_w15
        have ga1_w16 := (hb16.cell gaL_w15).trans ga1_w15
        have ga2_w16 := (hb16.cell gaL_w15).trans ga2_w15
        have gaF_w16 : ∀ o, w16.frozen? ⟨p2, o, none⟩ = false := fun o => (hb16.frozen gaL_w15).trans (gaF_w15 o)
        have gaL_w16 : p2 < w16.heap.size := Nat.lt_of_lt_of_le gaL_w15 hb16.size
        have oW_w16 := hidP (OwnG.later oW_w15.out hb16)
        have oX_w16 := hidP (OwnG.later oX_w15.out hb16)
        have oG_w16 := hidP (OwnG.later oG_w15.out hb16)
        have acc_w16 := hidP (acc_w15.out.trans (hb16.mono acc_w15.out.size))
        have sz_w16 : Hid (w15.heap.size ≤ w16.heap.size) := hidP hb16.size
        clear hb16 lb0_w15 lb1_w15 lb2_w15 lbF_w15 lbL_w15 la0_w15 la1_w15 la2_w15 laF_w15 laL_w15 wa0_w15 wa1_w15 wa2_w15 waF_w15 waL_w15 xa0_w15 xa1_w15 xa2_w15 xaF_w15 xaL_w15 ga0_w15 ga1_w15 ga2_w15 gaF_w15 gaL_w15 oW_w15 oX_w15 oG_w15 acc_w15
        go_upto_region 26 with fail
        go_cut [20, 21, 22] (fun t20 t21 t22 X => ∃ (p : Nat) (a : Option Addr) (c : Nat), t20 = .pointer (some ⟨p, 0, none⟩) ∧ t21 = .int .i64 K ∧ t22 = .int .i64 C ∧ w16.heap.size ≤ p ∧ p < X.heap.size ∧ X.cell? ⟨p, 0, none⟩ = some (.slice a nL c) ∧ X.cell? ⟨p, 1, none⟩ = some (.int .i64 T') ∧ X.cell? ⟨p, 2, none⟩ = some (.int .i64 N) ∧ (∀ o, X.frozen? ⟨p, o, none⟩ = false) ∧ OwnG KLs 47 X w16.heap.size (.slice a nL c) LS ∧ (∀ k, (Value.slice a nL c).ownBlock = some k → k ≠ p) ∧ Below w16.heap.size w16 X)
        case first =>
          have HSx : Hid (∀ x, Below w16.heap.size w16 x → (x.cell? ⟨w.heap.size, 0, none⟩ = some (.slice a n c) ∧ x.cell? ⟨w.heap.size, 1, none⟩ = some (.int .i64 T) ∧ x.cell? ⟨w.heap.size, 2, none⟩ = some (.int .i64 N) ∧ x.cell? ⟨w.heap.size + 1, 0, none⟩ = some (.bool ad.s) ∧ x.cell? ⟨w.heap.size + 1, 1, none⟩ = some (.int .i64 ad.H.toInt) ∧ x.cell? ⟨w.heap.size + 1, 2, none⟩ = some (.int .i64 ad.L.toInt) ∧ Below w16.heap.size w16 x)) := hidP fun x h =>
            ⟨(h.cell lbL_w16).trans lb0_w16, (h.cell lbL_w16).trans lb1_w16, (h.cell lbL_w16).trans lb2_w16, (h.cell laL_w16).trans la0_w16, (h.cell laL_w16).trans la1_w16, (h.cell laL_w16).trans la2_w16, h⟩
          refine wp_region_held_drew (S := (fun x => x.cell? ⟨w.heap.size, 0, none⟩ = some (.slice a n c) ∧ x.cell? ⟨w.heap.size, 1, none⟩ = some (.int .i64 T) ∧ x.cell? ⟨w.heap.size, 2, none⟩ = some (.int .i64 N) ∧ x.cell? ⟨w.heap.size + 1, 0, none⟩ = some (.bool ad.s) ∧ x.cell? ⟨w.heap.size + 1, 1, none⟩ = some (.int .i64 ad.H.toInt) ∧ x.cell? ⟨w.heap.size + 1, 2, none⟩ = some (.int .i64 ad.L.toInt) ∧ Below w16.heap.size w16 x)) (by kernel_rfl) ?_ (fun hHeld => ?_)
          · try dsimp only
            exact HSx.out _ (Below.refl _ _).drew
          refine wpAnyH_take (i := 0) (oi := ⟨some 106, _, _, _, _, _⟩) (v := ?_) rfl (by kernel_rfl) (by kernel_rfl) (by kernel_rfl) (fun _ _ _ h => h) (Or.inl ⟨by rfl, ?_⟩) (by assumption) ?_
          rotate_left
          · intro w hSw
            try dsimp only at hSw
            go_simp
            try with_reducible rfl
          simp only [Act.put, List.setIfInBounds_toArray, List.set_cons_zero, List.set_cons_succ]
          refine wpAnyH_take (i := 2) (oi := ⟨some 108, _, _, _, _, _⟩) (v := ?_) rfl (by kernel_rfl) (by kernel_rfl) (by kernel_rfl) (fun _ _ _ h => h) (Or.inl ⟨by rfl, ?_⟩) (by assumption) ?_
          rotate_left
          · intro w hSw
            try dsimp only at hSw
            go_simp
            try with_reducible rfl
          simp only [Act.put, List.setIfInBounds_toArray, List.set_cons_zero, List.set_cons_succ]
          refine wpAnyH_take (i := 4) (oi := ⟨some 110, _, _, _, _, _⟩) (v := ?_) rfl (by kernel_rfl) (by kernel_rfl) (by kernel_rfl) (fun _ _ _ h => h) (Or.inl ⟨by rfl, ?_⟩) (by assumption) ?_
          rotate_left
          · intro w hSw
            try dsimp only at hSw
            go_simp
            try with_reducible rfl
          simp only [Act.put, List.setIfInBounds_toArray, List.set_cons_zero, List.set_cons_succ]
          refine wpAnyH_take (i := 5) (oi := ⟨some 111, _, _, _, _, _⟩) (v := ?_) rfl (by kernel_rfl) (by kernel_rfl) (by kernel_rfl) (fun _ _ _ h => h) (Or.inl ⟨by rfl, ?_⟩) (by assumption) ?_
          rotate_left
          · intro w hSw
            try dsimp only at hSw
            go_simp
            try with_reducible rfl
          simp only [Act.put, List.setIfInBounds_toArray, List.set_cons_zero, List.set_cons_succ]
          refine wpAnyH_ready (rs := [1, 11]) (by kernel_rfl) (by simp) ?_
          refine AllReadyH.cons rfl (fun K hK => ?_) (AllReadyH.cons rfl (fun K hK => ?_) AllReadyH.nil)
          · go_simp
            go_wp2_with (first | (go_at_call 6; refine (HTo.out _ (acc_w16.out.trans ((hHeld.2.2.2.2.2.2).mono acc_w16.out.size))).mono ?_; rintro e w17 ⟨g17, rfl, og17, hb17⟩; have b17 := (hHeld.2.2.2.2.2.2).trans (hb17.mono (hHeld.2.2.2.2.2.2).size)))
            refine hK.out _ _ ?_ (fun hHeld => ?_)
            · try dsimp only
              exact HSx.out _ b17
            clear hK K
            refine wpAnyH_ready (rs := [3, 11]) (by kernel_rfl) (by simp) ?_
            refine AllReadyH.cons rfl (fun K hK => ?_) (AllReadyH.cons rfl (fun K hK => ?_) AllReadyH.nil)
            · go_simp
              go_wp2_with (first | (go_at_call 7; refine (HTa.out _).mono ?_; rintro e w18 ⟨rfl, hb18⟩; have b18 := (hHeld.2.2.2.2.2.2).trans (hb18.mono (hHeld.2.2.2.2.2.2).size)))
              refine hK.out _ _ ?_ (fun hHeld => ?_)
              · try dsimp only
                exact HSx.out _ b18
              clear hK K
              refine wpAnyH_ready (rs := [6, 11]) (by kernel_rfl) (by simp) ?_
              refine AllReadyH.cons rfl (fun K hK => ?_) (AllReadyH.cons rfl (fun K hK => ?_) AllReadyH.nil)
              · go_simp
                go_wp2_with (first | (go_at_call 8; refine (HIm.out g17 _ (RowG.later og17.row hb18) (HG.out.later (acc_w16.out.trans ((hHeld.2.2.2.2.2.2).mono acc_w16.out.size)))).mono ?_; rintro e w19 ⟨ra19, rc19, rfl, op19, hb19⟩; have b19 := (hHeld.2.2.2.2.2.2).trans (hb19.mono (hHeld.2.2.2.2.2.2).size)))
                refine hK.out _ _ ?_ (fun hHeld => ?_)
                · try dsimp only
                  exact HSx.out _ b19
                clear hK K
                refine wpAnyH_take (i := 7) (oi := ⟨some 105, _, _, _, _, _⟩) (v := ?_) rfl (by kernel_rfl) (by kernel_rfl) (by kernel_rfl) (fun _ _ _ h => h) (Or.inl ⟨by rfl, ?_⟩) (by assumption) ?_
                rotate_left
                · intro w hSw
                  try dsimp only at hSw
                  go_simp
                  try with_reducible rfl
                simp only [Act.put, List.setIfInBounds_toArray, List.set_cons_zero, List.set_cons_succ]
                refine wpAnyH_take (i := 8) (oi := ⟨some 113, _, _, _, _, _⟩) (v := ?_) rfl (by kernel_rfl) (by kernel_rfl) (by kernel_rfl) (fun _ _ _ h => h) (Or.inl ⟨by rfl, ?_⟩) (by assumption) ?_
                rotate_left
                · intro w hSw
                  try dsimp only at hSw
                  go_simp
                  try with_reducible rfl
                simp only [Act.put, List.setIfInBounds_toArray, List.set_cons_zero, List.set_cons_succ]
                refine wpAnyH_take (i := 9) (oi := ⟨some 114, _, _, _, _, _⟩) (v := ?_) rfl (by kernel_rfl) (by kernel_rfl) (by kernel_rfl) (fun _ _ _ h => h) (Or.inl ⟨by rfl, ?_⟩) (by assumption) ?_
                rotate_left
                · intro w hSw
                  try dsimp only at hSw
                  go_simp
                  try with_reducible rfl
                simp only [Act.put, List.setIfInBounds_toArray, List.set_cons_zero, List.set_cons_succ]
                refine wpAnyH_take (i := 10) (oi := ⟨some 115, _, _, _, _, _⟩) (v := ?_) rfl (by kernel_rfl) (by kernel_rfl) (by kernel_rfl) (fun _ _ _ h => h) (Or.inl ⟨by rfl, ?_⟩) (by assumption) ?_
                rotate_left
                · intro w hSw
                  try dsimp only at hSw
                  go_simp
                  try with_reducible rfl
                simp only [Act.put, List.setIfInBounds_toArray, List.set_cons_zero, List.set_cons_succ]
                refine wpAnyH_ready (rs := [11]) (by kernel_rfl) (by simp) ?_
                refine AllReadyH.cons rfl (fun K hK => ?_) AllReadyH.nil
                go_simp
                obtain ⟨z20x0, z20x1, z20x2⟩ := boxZ3 w19 30
                have z20F := frzZ3 w19 30
                have z20B := alloc_below w19 (.cells #[.slice none 0 0, .int .i64 0, .int .i64 0] 30)
                have z20L := alloc_lt w19 (.cells #[.slice none 0 0, .int .i64 0, .int .i64 0] 30)
                have z20M := (hHeld.2.2.2.2.2.2).trans (z20B.mono (hHeld.2.2.2.2.2.2).size)
                generalize w19.alloc (.cells #[.slice none 0 0, .int .i64 0, .int .i64 0] 30) = w20 at *
                refine hK.out _ _ ?_ (fun hHeld => ?_)
                · try dsimp only
                  exact HSx.out _ z20M
                clear hK K
                have bl20 : w16.heap.size ≤ w19.heap.size := b19.size
                refine wpAnyH_ready (rs := [12]) (by kernel_rfl) (by simp) ?_
                refine AllReadyH.cons rfl (fun K hK => ?_) AllReadyH.nil
                go_simp
                refine hK.out _ _ ?_ (fun hHeld => ?_)
                · try dsimp only
                  refine HSx.out _ ?_
                  repeat (with_reducible refine Below.setCell ?_ ?_ _; rotate_left; (focus (exact (bl20))))
                  exact (hHeld.2.2.2.2.2.2)
                clear hK K
                refine wpAnyH_take (i := 13) (oi := ⟨some 21, _, _, _, _, _⟩) (v := ?_) rfl (by kernel_rfl) (by kernel_rfl) (by kernel_rfl) (fun _ _ _ h => h) (Or.inl ⟨by rfl, ?_⟩) (by assumption) ?_
                rotate_left
                · intro w hSw
                  try dsimp only at hSw
                  go_simp
                  try with_reducible rfl
                simp only [Act.put, List.setIfInBounds_toArray, List.set_cons_zero, List.set_cons_succ]
                refine wpAnyH_take (i := 14) (oi := ⟨some 22, _, _, _, _, _⟩) (v := ?_) rfl (by kernel_rfl) (by kernel_rfl) (by kernel_rfl) (fun _ _ _ h => h) (Or.inl ⟨by rfl, ?_⟩) (by assumption) ?_
                rotate_left
                · intro w hSw
                  try dsimp only at hSw
                  go_simp
                  try with_reducible rfl
                simp only [Act.put, List.setIfInBounds_toArray, List.set_cons_zero, List.set_cons_succ]
                have HE := hidP (hHeld.2.2.2.2.2.2)
                refine wpAnyH_done (by kernel_rfl) ?_ _
                clear hHeld
                have lo := fun k hk => OwnG.lt op19 k hk
                have lb : w16.heap.size ≤ w18.heap.size := by first | exact b18.size | exact z18M.size
                have HF := hidP (OwnG.mono (OwnG.later op19 z20B) lb)
                have HLo := hidP lo
                have HzF := hidP z20F
                clear lo op19
                go_wp2_with fail
                go_meet
                refine ⟨_, ra19, rc19, rfl, rfl, rfl, bl20, ?_, ?_, ?_, ?_, (fun o => frz_set1 (frz_set1 (frz_set1 (HzF.out o)))), OwnG.put3 HF.out (fun k hk => by have := HLo.out k hk; omega), (fun k hk => by have := HLo.out k hk; omega), HE.out⟩
                · simp; exact z20L
                all_goals (simp [go_sem, z20x0, z20x1, z20x2])
              · go_simp
                obtain ⟨z19x0, z19x1, z19x2⟩ := boxZ3 w18 30
                have z19F := frzZ3 w18 30
                have z19B := alloc_below w18 (.cells #[.slice none 0 0, .int .i64 0, .int .i64 0] 30)
                have z19L := alloc_lt w18 (.cells #[.slice none 0 0, .int .i64 0, .int .i64 0] 30)
                have z19M := (hHeld.2.2.2.2.2.2).trans (z19B.mono (hHeld.2.2.2.2.2.2).size)
                generalize w18.alloc (.cells #[.slice none 0 0, .int .i64 0, .int .i64 0] 30) = w19 at *
                refine hK.out _ _ ?_ (fun hHeld => ?_)
                · try dsimp only
                  exact HSx.out _ z19M
                clear hK K
                have bl19 : w16.heap.size ≤ w18.heap.size := b18.size
                refine wpAnyH_ready (rs := [6]) (by kernel_rfl) (by simp) ?_
                refine AllReadyH.cons rfl (fun K hK => ?_) AllReadyH.nil
                go_simp
                go_wp2_with (first | (go_at_call 8; refine (HIm.out g17 _ (RowG.later (RowG.later og17.row hb18) z19B) (HG.out.later (acc_w16.out.trans ((hHeld.2.2.2.2.2.2).mono acc_w16.out.size)))).mono ?_; rintro e w20 ⟨ra20, rc20, rfl, op20, hb20⟩; have b20 := (hHeld.2.2.2.2.2.2).trans (hb20.mono (hHeld.2.2.2.2.2.2).size)))
                refine hK.out _ _ ?_ (fun hHeld => ?_)
                · try dsimp only
                  exact HSx.out _ b20
                clear hK K
                have z20x0 := (hb20.cell z19L).trans z19x0
                have z20x1 := (hb20.cell z19L).trans z19x1
                have z20x2 := (hb20.cell z19L).trans z19x2
                have z20F : ∀ o, w20.frozen? ⟨w18.heap.size, o, none⟩ = false := fun o => (hb20.frozen z19L).trans (z19F o)
                have z20L : w18.heap.size < w20.heap.size := Nat.lt_of_lt_of_le z19L hb20.size
                clear z19x0 z19x1 z19x2 z19F
                refine wpAnyH_take (i := 7) (oi := ⟨some 105, _, _, _, _, _⟩) (v := ?_) rfl (by kernel_rfl) (by kernel_rfl) (by kernel_rfl) (fun _ _ _ h => h) (Or.inl ⟨by rfl, ?_⟩) (by assumption) ?_
                rotate_left
                · intro w hSw
                  try dsimp only at hSw
                  go_simp
                  try with_reducible rfl
                simp only [Act.put, List.setIfInBounds_toArray, List.set_cons_zero, List.set_cons_succ]
                refine wpAnyH_take (i := 8) (oi := ⟨some 113, _, _, _, _, _⟩) (v := ?_) rfl (by kernel_rfl) (by kernel_rfl) (by kernel_rfl) (fun _ _ _ h => h) (Or.inl ⟨by rfl, ?_⟩) (by assumption) ?_
                rotate_left
                · intro w hSw
                  try dsimp only at hSw
                  go_simp
                  try with_reducible rfl
                simp only [Act.put, List.setIfInBounds_toArray, List.set_cons_zero, List.set_cons_succ]
                refine wpAnyH_take (i := 9) (oi := ⟨some 114, _, _, _, _, _⟩) (v := ?_) rfl (by kernel_rfl) (by kernel_rfl) (by kernel_rfl) (fun _ _ _ h => h) (Or.inl ⟨by rfl, ?_⟩) (by assumption) ?_
                rotate_left
                · intro w hSw
                  try dsimp only at hSw
                  go_simp
                  try with_reducible rfl
                simp only [Act.put, List.setIfInBounds_toArray, List.set_cons_zero, List.set_cons_succ]
                refine wpAnyH_take (i := 10) (oi := ⟨some 115, _, _, _, _, _⟩) (v := ?_) rfl (by kernel_rfl) (by kernel_rfl) (by kernel_rfl) (fun _ _ _ h => h) (Or.inl ⟨by rfl, ?_⟩) (by assumption) ?_
                rotate_left
                · intro w hSw
                  try dsimp only at hSw
                  go_simp
                  try with_reducible rfl
                simp only [Act.put, List.setIfInBounds_toArray, List.set_cons_zero, List.set_cons_succ]
                refine wpAnyH_ready (rs := [12]) (by kernel_rfl) (by simp) ?_
                refine AllReadyH.cons rfl (fun K hK => ?_) AllReadyH.nil
                go_simp
                refine hK.out _ _ ?_ (fun hHeld => ?_)
                · try dsimp only
                  refine HSx.out _ ?_
                  repeat (with_reducible refine Below.setCell ?_ ?_ _; rotate_left; (focus (exact (bl19))))
                  exact (hHeld.2.2.2.2.2.2)
                clear hK K
                refine wpAnyH_take (i := 13) (oi := ⟨some 21, _, _, _, _, _⟩) (v := ?_) rfl (by kernel_rfl) (by kernel_rfl) (by kernel_rfl) (fun _ _ _ h => h) (Or.inl ⟨by rfl, ?_⟩) (by assumption) ?_
                rotate_left
                · intro w hSw
                  try dsimp only at hSw
                  go_simp
                  try with_reducible rfl
                simp only [Act.put, List.setIfInBounds_toArray, List.set_cons_zero, List.set_cons_succ]
                refine wpAnyH_take (i := 14) (oi := ⟨some 22, _, _, _, _, _⟩) (v := ?_) rfl (by kernel_rfl) (by kernel_rfl) (by kernel_rfl) (fun _ _ _ h => h) (Or.inl ⟨by rfl, ?_⟩) (by assumption) ?_
                rotate_left
                · intro w hSw
                  try dsimp only at hSw
                  go_simp
                  try with_reducible rfl
                simp only [Act.put, List.setIfInBounds_toArray, List.set_cons_zero, List.set_cons_succ]
                have HE := hidP (hHeld.2.2.2.2.2.2)
                refine wpAnyH_done (by kernel_rfl) ?_ _
                clear hHeld
                have lo := fun k hk => OwnG.lt op20 k hk
                have lb : w16.heap.size ≤ w19.heap.size := by first | exact b19.size | exact z19M.size
                have pl : w18.heap.size < w19.heap.size := z19L
                have HF := hidP (OwnG.mono op20 lb)
                have HLo := hidP lo
                have HzF := hidP z20F
                clear lo op20
                go_wp2_with fail
                go_meet
                refine ⟨_, ra20, rc20, rfl, rfl, rfl, bl19, ?_, ?_, ?_, ?_, (fun o => frz_set1 (frz_set1 (frz_set1 (HzF.out o)))), OwnG.put3 HF.out (fun k hk => by have := HLo.out k hk; omega), (fun k hk => by have := HLo.out k hk; omega), HE.out⟩
                · simp; exact z20L
                all_goals (simp [go_sem, z20x0, z20x1, z20x2])
            · go_simp
              obtain ⟨z18x0, z18x1, z18x2⟩ := boxZ3 w17 30
              have z18F := frzZ3 w17 30
              have z18B := alloc_below w17 (.cells #[.slice none 0 0, .int .i64 0, .int .i64 0] 30)
              have z18L := alloc_lt w17 (.cells #[.slice none 0 0, .int .i64 0, .int .i64 0] 30)
              have z18M := (hHeld.2.2.2.2.2.2).trans (z18B.mono (hHeld.2.2.2.2.2.2).size)
              generalize w17.alloc (.cells #[.slice none 0 0, .int .i64 0, .int .i64 0] 30) = w18 at *
              refine hK.out _ _ ?_ (fun hHeld => ?_)
              · try dsimp only
                exact HSx.out _ z18M
              clear hK K
              have bl18 : w16.heap.size ≤ w17.heap.size := b17.size
              refine wpAnyH_ready (rs := [3]) (by kernel_rfl) (by simp) ?_
              refine AllReadyH.cons rfl (fun K hK => ?_) AllReadyH.nil
              go_simp
              go_wp2_with (first | (go_at_call 7; refine (HTa.out _).mono ?_; rintro e w19 ⟨rfl, hb19⟩; have b19 := (hHeld.2.2.2.2.2.2).trans (hb19.mono (hHeld.2.2.2.2.2.2).size)))
              refine hK.out _ _ ?_ (fun hHeld => ?_)
              · try dsimp only
                exact HSx.out _ b19
              clear hK K
              have z19x0 := (hb19.cell z18L).trans z18x0
              have z19x1 := (hb19.cell z18L).trans z18x1
              have z19x2 := (hb19.cell z18L).trans z18x2
              have z19F : ∀ o, w19.frozen? ⟨w17.heap.size, o, none⟩ = false := fun o => (hb19.frozen z18L).trans (z18F o)
              have z19L : w17.heap.size < w19.heap.size := Nat.lt_of_lt_of_le z18L hb19.size
              clear z18x0 z18x1 z18x2 z18F
              refine wpAnyH_ready (rs := [6]) (by kernel_rfl) (by simp) ?_
              refine AllReadyH.cons rfl (fun K hK => ?_) AllReadyH.nil
              go_simp
              go_wp2_with (first | (go_at_call 8; refine (HIm.out g17 _ (RowG.later (RowG.later og17.row z18B) hb19) (HG.out.later (acc_w16.out.trans ((hHeld.2.2.2.2.2.2).mono acc_w16.out.size)))).mono ?_; rintro e w20 ⟨ra20, rc20, rfl, op20, hb20⟩; have b20 := (hHeld.2.2.2.2.2.2).trans (hb20.mono (hHeld.2.2.2.2.2.2).size)))
              refine hK.out _ _ ?_ (fun hHeld => ?_)
              · try dsimp only
                exact HSx.out _ b20
              clear hK K
              have z20x0 := (hb20.cell z19L).trans z19x0
              have z20x1 := (hb20.cell z19L).trans z19x1
              have z20x2 := (hb20.cell z19L).trans z19x2
              have z20F : ∀ o, w20.frozen? ⟨w17.heap.size, o, none⟩ = false := fun o => (hb20.frozen z19L).trans (z19F o)
              have z20L : w17.heap.size < w20.heap.size := Nat.lt_of_lt_of_le z19L hb20.size
              clear z19x0 z19x1 z19x2 z19F
              refine wpAnyH_take (i := 7) (oi := ⟨some 105, _, _, _, _, _⟩) (v := ?_) rfl (by kernel_rfl) (by kernel_rfl) (by kernel_rfl) (fun _ _ _ h => h) (Or.inl ⟨by rfl, ?_⟩) (by assumption) ?_
              rotate_left
              · intro w hSw
                try dsimp only at hSw
                go_simp
                try with_reducible rfl
              simp only [Act.put, List.setIfInBounds_toArray, List.set_cons_zero, List.set_cons_succ]
              refine wpAnyH_take (i := 8) (oi := ⟨some 113, _, _, _, _, _⟩) (v := ?_) rfl (by kernel_rfl) (by kernel_rfl) (by kernel_rfl) (fun _ _ _ h => h) (Or.inl ⟨by rfl, ?_⟩) (by assumption) ?_
              rotate_left
              · intro w hSw
                try dsimp only at hSw
                go_simp
                try with_reducible rfl
              simp only [Act.put, List.setIfInBounds_toArray, List.set_cons_zero, List.set_cons_succ]
              refine wpAnyH_take (i := 9) (oi := ⟨some 114, _, _, _, _, _⟩) (v := ?_) rfl (by kernel_rfl) (by kernel_rfl) (by kernel_rfl) (fun _ _ _ h => h) (Or.inl ⟨by rfl, ?_⟩) (by assumption) ?_
              rotate_left
              · intro w hSw
                try dsimp only at hSw
                go_simp
                try with_reducible rfl
              simp only [Act.put, List.setIfInBounds_toArray, List.set_cons_zero, List.set_cons_succ]
              refine wpAnyH_take (i := 10) (oi := ⟨some 115, _, _, _, _, _⟩) (v := ?_) rfl (by kernel_rfl) (by kernel_rfl) (by kernel_rfl) (fun _ _ _ h => h) (Or.inl ⟨by rfl, ?_⟩) (by assumption) ?_
              rotate_left
              · intro w hSw
                try dsimp only at hSw
                go_simp
                try with_reducible rfl
              simp only [Act.put, List.setIfInBounds_toArray, List.set_cons_zero, List.set_cons_succ]
              refine wpAnyH_ready (rs := [12]) (by kernel_rfl) (by simp) ?_
              refine AllReadyH.cons rfl (fun K hK => ?_) AllReadyH.nil
              go_simp
              refine hK.out _ _ ?_ (fun hHeld => ?_)
              · try dsimp only
                refine HSx.out _ ?_
                repeat (with_reducible refine Below.setCell ?_ ?_ _; rotate_left; (focus (exact (bl18))))
                exact (hHeld.2.2.2.2.2.2)
              clear hK K
              refine wpAnyH_take (i := 13) (oi := ⟨some 21, _, _, _, _, _⟩) (v := ?_) rfl (by kernel_rfl) (by kernel_rfl) (by kernel_rfl) (fun _ _ _ h => h) (Or.inl ⟨by rfl, ?_⟩) (by assumption) ?_
              rotate_left
              · intro w hSw
                try dsimp only at hSw
                go_simp
                try with_reducible rfl
              simp only [Act.put, List.setIfInBounds_toArray, List.set_cons_zero, List.set_cons_succ]
              refine wpAnyH_take (i := 14) (oi := ⟨some 22, _, _, _, _, _⟩) (v := ?_) rfl (by kernel_rfl) (by kernel_rfl) (by kernel_rfl) (fun _ _ _ h => h) (Or.inl ⟨by rfl, ?_⟩) (by assumption) ?_
              rotate_left
              · intro w hSw
                try dsimp only at hSw
                go_simp
                try with_reducible rfl
              simp only [Act.put, List.setIfInBounds_toArray, List.set_cons_zero, List.set_cons_succ]
              have HE := hidP (hHeld.2.2.2.2.2.2)
              refine wpAnyH_done (by kernel_rfl) ?_ _
              clear hHeld
              have lo := fun k hk => OwnG.lt op20 k hk
              have lb : w16.heap.size ≤ w19.heap.size := by first | exact b19.size | exact z19M.size
              have pl : w17.heap.size < w19.heap.size := z19L
              have HF := hidP (OwnG.mono op20 lb)
              have HLo := hidP lo
              have HzF := hidP z20F
              clear lo op20
              go_wp2_with fail
              go_meet
              refine ⟨_, ra20, rc20, rfl, rfl, rfl, bl18, ?_, ?_, ?_, ?_, (fun o => frz_set1 (frz_set1 (frz_set1 (HzF.out o)))), OwnG.put3 HF.out (fun k hk => by have := HLo.out k hk; omega), (fun k hk => by have := HLo.out k hk; omega), HE.out⟩
              · simp; exact z20L
              all_goals (simp [go_sem, z20x0, z20x1, z20x2])
          · go_simp
            obtain ⟨z17x0, z17x1, z17x2⟩ := boxZ3 w16 30
            have z17F := frzZ3 w16 30
            have z17B := alloc_below w16 (.cells #[.slice none 0 0, .int .i64 0, .int .i64 0] 30)
            have z17L := alloc_lt w16 (.cells #[.slice none 0 0, .int .i64 0, .int .i64 0] 30)
            have z17x0 := (drew_cell (w16.alloc (.cells #[.slice none 0 0, .int .i64 0, .int .i64 0] 30)) _).trans z17x0
            have z17x1 := (drew_cell (w16.alloc (.cells #[.slice none 0 0, .int .i64 0, .int .i64 0] 30)) _).trans z17x1
            have z17x2 := (drew_cell (w16.alloc (.cells #[.slice none 0 0, .int .i64 0, .int .i64 0] 30)) _).trans z17x2
            have z17F := fun o => (drew_frozen (w16.alloc (.cells #[.slice none 0 0, .int .i64 0, .int .i64 0] 30)) _).trans (z17F o)
            have z17L := drew_size_lt z17L
            have z17M := z17B.drew
            generalize (w16.alloc (.cells #[.slice none 0 0, .int .i64 0, .int .i64 0] 30)).drew = w17 at *
            refine hK.out _ _ ?_ (fun hHeld => ?_)
            · try dsimp only
              exact HSx.out _ z17M
            clear hK K
            have bl17 : w16.heap.size ≤ w16.heap.size := Nat.le_refl _
            refine wpAnyH_ready (rs := [1]) (by kernel_rfl) (by simp) ?_
            refine AllReadyH.cons rfl (fun K hK => ?_) AllReadyH.nil
            go_simp
            go_wp2_with (first | (go_at_call 6; refine (HTo.out _ (acc_w16.out.trans ((hHeld.2.2.2.2.2.2).mono acc_w16.out.size))).mono ?_; rintro e w18 ⟨g18, rfl, og18, hb18⟩; have b18 := (hHeld.2.2.2.2.2.2).trans (hb18.mono (hHeld.2.2.2.2.2.2).size)))
            refine hK.out _ _ ?_ (fun hHeld => ?_)
            · try dsimp only
              exact HSx.out _ b18
            clear hK K
            have z18x0 := (hb18.cell z17L).trans z17x0
            have z18x1 := (hb18.cell z17L).trans z17x1
            have z18x2 := (hb18.cell z17L).trans z17x2
            have z18F : ∀ o, w18.frozen? ⟨w16.heap.size, o, none⟩ = false := fun o => (hb18.frozen z17L).trans (z17F o)
            have z18L : w16.heap.size < w18.heap.size := Nat.lt_of_lt_of_le z17L hb18.size
            clear z17x0 z17x1 z17x2 z17F
            refine wpAnyH_ready (rs := [3]) (by kernel_rfl) (by simp) ?_
            refine AllReadyH.cons rfl (fun K hK => ?_) AllReadyH.nil
            go_simp
            go_wp2_with (first | (go_at_call 7; refine (HTa.out _).mono ?_; rintro e w19 ⟨rfl, hb19⟩; have b19 := (hHeld.2.2.2.2.2.2).trans (hb19.mono (hHeld.2.2.2.2.2.2).size)))
            refine hK.out _ _ ?_ (fun hHeld => ?_)
            · try dsimp only
              exact HSx.out _ b19
            clear hK K
            have z19x0 := (hb19.cell z18L).trans z18x0
            have z19x1 := (hb19.cell z18L).trans z18x1
            have z19x2 := (hb19.cell z18L).trans z18x2
            have z19F : ∀ o, w19.frozen? ⟨w16.heap.size, o, none⟩ = false := fun o => (hb19.frozen z18L).trans (z18F o)
            have z19L : w16.heap.size < w19.heap.size := Nat.lt_of_lt_of_le z18L hb19.size
            clear z18x0 z18x1 z18x2 z18F
            refine wpAnyH_ready (rs := [6]) (by kernel_rfl) (by simp) ?_
            refine AllReadyH.cons rfl (fun K hK => ?_) AllReadyH.nil
            go_simp
            go_wp2_with (first | (go_at_call 8; refine (HIm.out g18 _ (RowG.later og18.row hb19) (HG.out.later (acc_w16.out.trans ((hHeld.2.2.2.2.2.2).mono acc_w16.out.size)))).mono ?_; rintro e w20 ⟨ra20, rc20, rfl, op20, hb20⟩; have b20 := (hHeld.2.2.2.2.2.2).trans (hb20.mono (hHeld.2.2.2.2.2.2).size)))
            refine hK.out _ _ ?_ (fun hHeld => ?_)
            · try dsimp only
              exact HSx.out _ b20
            clear hK K
            have z20x0 := (hb20.cell z19L).trans z19x0
            have z20x1 := (hb20.cell z19L).trans z19x1
            have z20x2 := (hb20.cell z19L).trans z19x2
            have z20F : ∀ o, w20.frozen? ⟨w16.heap.size, o, none⟩ = false := fun o => (hb20.frozen z19L).trans (z19F o)
            have z20L : w16.heap.size < w20.heap.size := Nat.lt_of_lt_of_le z19L hb20.size
            clear z19x0 z19x1 z19x2 z19F
            refine wpAnyH_take (i := 7) (oi := ⟨some 105, _, _, _, _, _⟩) (v := ?_) rfl (by kernel_rfl) (by kernel_rfl) (by kernel_rfl) (fun _ _ _ h => h) (Or.inl ⟨by rfl, ?_⟩) (by assumption) ?_
            rotate_left
            · intro w hSw
              try dsimp only at hSw
              go_simp
              try with_reducible rfl
            simp only [Act.put, List.setIfInBounds_toArray, List.set_cons_zero, List.set_cons_succ]
            refine wpAnyH_take (i := 8) (oi := ⟨some 113, _, _, _, _, _⟩) (v := ?_) rfl (by kernel_rfl) (by kernel_rfl) (by kernel_rfl) (fun _ _ _ h => h) (Or.inl ⟨by rfl, ?_⟩) (by assumption) ?_
            rotate_left
            · intro w hSw
              try dsimp only at hSw
              go_simp
              try with_reducible rfl
            simp only [Act.put, List.setIfInBounds_toArray, List.set_cons_zero, List.set_cons_succ]
            refine wpAnyH_take (i := 9) (oi := ⟨some 114, _, _, _, _, _⟩) (v := ?_) rfl (by kernel_rfl) (by kernel_rfl) (by kernel_rfl) (fun _ _ _ h => h) (Or.inl ⟨by rfl, ?_⟩) (by assumption) ?_
            rotate_left
            · intro w hSw
              try dsimp only at hSw
              go_simp
              try with_reducible rfl
            simp only [Act.put, List.setIfInBounds_toArray, List.set_cons_zero, List.set_cons_succ]
            refine wpAnyH_take (i := 10) (oi := ⟨some 115, _, _, _, _, _⟩) (v := ?_) rfl (by kernel_rfl) (by kernel_rfl) (by kernel_rfl) (fun _ _ _ h => h) (Or.inl ⟨by rfl, ?_⟩) (by assumption) ?_
            rotate_left
            · intro w hSw
              try dsimp only at hSw
              go_simp
              try with_reducible rfl
            simp only [Act.put, List.setIfInBounds_toArray, List.set_cons_zero, List.set_cons_succ]
            refine wpAnyH_ready (rs := [12]) (by kernel_rfl) (by simp) ?_
            refine AllReadyH.cons rfl (fun K hK => ?_) AllReadyH.nil
            go_simp
            refine hK.out _ _ ?_ (fun hHeld => ?_)
            · try dsimp only
              refine HSx.out _ ?_
              repeat (with_reducible refine Below.setCell ?_ ?_ _; rotate_left; (focus (exact (bl17))))
              exact (hHeld.2.2.2.2.2.2)
            clear hK K
            refine wpAnyH_take (i := 13) (oi := ⟨some 21, _, _, _, _, _⟩) (v := ?_) rfl (by kernel_rfl) (by kernel_rfl) (by kernel_rfl) (fun _ _ _ h => h) (Or.inl ⟨by rfl, ?_⟩) (by assumption) ?_
            rotate_left
            · intro w hSw
              try dsimp only at hSw
              go_simp
              try with_reducible rfl
            simp only [Act.put, List.setIfInBounds_toArray, List.set_cons_zero, List.set_cons_succ]
            refine wpAnyH_take (i := 14) (oi := ⟨some 22, _, _, _, _, _⟩) (v := ?_) rfl (by kernel_rfl) (by kernel_rfl) (by kernel_rfl) (fun _ _ _ h => h) (Or.inl ⟨by rfl, ?_⟩) (by assumption) ?_
            rotate_left
            · intro w hSw
              try dsimp only at hSw
              go_simp
              try with_reducible rfl
            simp only [Act.put, List.setIfInBounds_toArray, List.set_cons_zero, List.set_cons_succ]
            have HE := hidP (hHeld.2.2.2.2.2.2)
            refine wpAnyH_done (by kernel_rfl) ?_ _
            clear hHeld
            have lo := fun k hk => OwnG.lt op20 k hk
            have lb : w16.heap.size ≤ w19.heap.size := by first | exact b19.size | exact z19M.size
            have pl : w16.heap.size < w19.heap.size := z19L
            have HF := hidP (OwnG.mono op20 lb)
            have HLo := hidP lo
            have HzF := hidP z20F
            clear lo op20
            go_wp2_with fail
            go_meet
            refine ⟨_, ra20, rc20, rfl, rfl, rfl, bl17, ?_, ?_, ?_, ?_, (fun o => frz_set1 (frz_set1 (frz_set1 (HzF.out o)))), OwnG.put3 HF.out (fun k hk => by have := HLo.out k hk; omega), (fun k hk => by have := HLo.out k hk; omega), HE.out⟩
            · simp; exact z20L
            all_goals (simp [go_sem, z20x0, z20x1, z20x2])
        case rest =>
          obtain ⟨p3, A3, C3, rfl, rfl, rfl, hp3, vaL_wc', q0, q1, q2, qF, oq, nq, hX⟩ := hcut
          have OQ := hidP oq
          have NQ3 := hidP nq
          have HP3 : Hid (w16.heap.size ≤ p3 ∧ p3 < wc.heap.size) := hidP ⟨hp3, vaL_wc'⟩
          clear oq nq
          obtain ⟨X3, hX3⟩ : ∃ X, X = wc := ⟨_, rfl⟩
          rw [← hX3] at q0 q1 q2 qF OQ hX vaL_wc' HP3 ⊢
          clear hX3
          have lb0_X3 := (hX.cell lbL_w16).trans lb0_w16
          have lb1_X3 := (hX.cell lbL_w16).trans lb1_w16
          have lb2_X3 := (hX.cell lbL_w16).trans lb2_w16
          have lbF_X3 : ∀ o, X3.frozen? ⟨w.heap.size, o, none⟩ = false := fun o => (hX.frozen lbL_w16).trans (lbF_w16 o)
          have lbL_X3 : w.heap.size < X3.heap.size := Nat.lt_of_lt_of_le lbL_w16 hX.size
          have la0_X3 := (hX.cell laL_w16).trans la0_w16
          have la1_X3 := (hX.cell laL_w16).trans la1_w16
          have la2_X3 := (hX.cell laL_w16).trans la2_w16
          have laF_X3 : ∀ o, X3.frozen? ⟨w.heap.size + 1, o, none⟩ = false := fun o => (hX.frozen laL_w16).trans (laF_w16 o)
          have laL_X3 : w.heap.size + 1 < X3.heap.size := Nat.lt_of_lt_of_le laL_w16 hX.size
          have wa0_X3 := (hX.cell waL_w16).trans wa0_w16
          have wa1_X3 := (hX.cell waL_w16).trans wa1_w16
          have wa2_X3 := (hX.cell waL_w16).trans wa2_w16
          have waF_X3 : ∀ o, X3.frozen? ⟨p1, o, none⟩ = false := fun o => (hX.frozen waL_w16).trans (waF_w16 o)
          have waL_X3 : p1 < X3.heap.size := Nat.lt_of_lt_of_le waL_w16 hX.size
          have xa0_X3 := (hX.cell xaL_w16).trans xa0_w16
          have xa1_X3 := (hX.cell xaL_w16).trans xa1_w16
          have xa2_X3 := (hX.cell xaL_w16).trans xa2_w16
          have xaF_X3 : ∀ o, X3.frozen? ⟨w5.heap.size, o, none⟩ = false := fun o => (hX.frozen xaL_w16).trans (xaF_w16 o)
          have xaL_X3 : w5.heap.size < X3.heap.size := Nat.lt_of_lt_of_le xaL_w16 hX.size
          have ga0_X3 := (hX.cell gaL_w16).trans ga0_w16
          have ga1_X3 := (hX.cell gaL_w16).trans ga1_w16
          have ga2_X3 := (hX.cell gaL_w16).trans ga2_w16
          have gaF_X3 : ∀ o, X3.frozen? ⟨p2, o, none⟩ = false := fun o => (hX.frozen gaL_w16).trans (gaF_w16 o)
          have gaL_X3 : p2 < X3.heap.size := Nat.lt_of_lt_of_le gaL_w16 hX.size
          have oW_X3 := hidP (OwnG.later oW_w16.out hX)
          have oX_X3 := hidP (OwnG.later oX_w16.out hX)
          have oG_X3 := hidP (OwnG.later oG_w16.out hX)
          have acc_X3 := hidP (acc_w16.out.trans (hX.mono acc_w16.out.size))
          have sz_X3 : Hid (w16.heap.size ≤ X3.heap.size) := hidP hX.size
          clear hX lb0_w16 lb1_w16 lb2_w16 lbF_w16 lbL_w16 la0_w16 la1_w16 la2_w16 laF_w16 laL_w16 wa0_w16 wa1_w16 wa2_w16 waF_w16 waL_w16 xa0_w16 xa1_w16 xa2_w16 xaF_w16 xaL_w16 ga0_w16 ga1_w16 ga2_w16 gaF_w16 gaL_w16 oW_w16 oX_w16 oG_w16 acc_w16
          have va0_X3 := q0
          have va1_X3 := q1
          have va2_X3 := q2
          have vaF_X3 := qF
          have vaL_X3 := vaL_wc'
          clear q0 q1 q2 qF vaL_wc' hp3
          have oV_X3 := hidP (OQ.out)
          have lhV : Hid (∀ k, (Value.slice A3 nL C3).ownBlock = some k → w16.heap.size ≤ k ∧ k < X3.heap.size) := hidP (fun k hk => OwnG.lt oV_X3.out k hk)
          clear OQ
          go_wp2_with fail
          refine (HEq.out _ A3 C3 A1 C1 oV_X3.out.row oW_X3.out.row).mono ?_
          rintro e w21 ⟨rfl, hb21⟩
          have lb0_w21 := (hb21.cell lbL_X3).trans lb0_X3
          have lb1_w21 := (hb21.cell lbL_X3).trans lb1_X3
          have lb2_w21 := (hb21.cell lbL_X3).trans lb2_X3
          have lbF_w21 : ∀ o, w21.frozen? ⟨w.heap.size, o, none⟩ = false := fun o => (hb21.frozen lbL_X3).trans (lbF_X3 o)
          have lbL_w21 : w.heap.size < w21.heap.size := Nat.lt_of_lt_of_le lbL_X3 hb21.size
          have la0_w21 := (hb21.cell laL_X3).trans la0_X3
          have la1_w21 := (hb21.cell laL_X3).trans la1_X3
          have la2_w21 := (hb21.cell laL_X3).trans la2_X3
          have laF_w21 : ∀ o, w21.frozen? ⟨w.heap.size + 1, o, none⟩ = false := fun o => (hb21.frozen laL_X3).trans (laF_X3 o)
          have laL_w21 : w.heap.size + 1 < w21.heap.size := Nat.lt_of_lt_of_le laL_X3 hb21.size
          have wa0_w21 := (hb21.cell waL_X3).trans wa0_X3
          have wa1_w21 := (hb21.cell waL_X3).trans wa1_X3
          have wa2_w21 := (hb21.cell waL_X3).trans wa2_X3
          have waF_w21 : ∀ o, w21.frozen? ⟨p1, o, none⟩ = false := fun o => (hb21.frozen waL_X3).trans (waF_X3 o)
          have waL_w21 : p1 < w21.heap.size := Nat.lt_of_lt_of_le waL_X3 hb21.size
          have xa0_w21 := (hb21.cell xaL_X3).trans xa0_X3
          have xa1_w21 := (hb21.cell xaL_X3).trans xa1_X3
          have xa2_w21 := (hb21.cell xaL_X3).trans xa2_X3
          have xaF_w21 : ∀ o, w21.frozen? ⟨w5.heap.size, o, none⟩ = false := fun o => (hb21.frozen xaL_X3).trans (xaF_X3 o)
          have xaL_w21 : w5.heap.size < w21.heap.size := Nat.lt_of_lt_of_le xaL_X3 hb21.size
          have ga0_w21 := (hb21.cell gaL_X3).trans ga0_X3
          have ga1_w21 := (hb21.cell gaL_X3).trans ga1_X3
          have ga2_w21 := (hb21.cell gaL_X3).trans ga2_X3
          have gaF_w21 : ∀ o, w21.frozen? ⟨p2, o, none⟩ = false := fun o => (hb21.frozen gaL_X3).trans (gaF_X3 o)
          have gaL_w21 : p2 < w21.heap.size := Nat.lt_of_lt_of_le gaL_X3 hb21.size
          have va0_w21 := (hb21.cell vaL_X3).trans va0_X3
          have va1_w21 := (hb21.cell vaL_X3).trans va1_X3
          have va2_w21 := (hb21.cell vaL_X3).trans va2_X3
          have vaF_w21 : ∀ o, w21.frozen? ⟨p3, o, none⟩ = false := fun o => (hb21.frozen vaL_X3).trans (vaF_X3 o)
          have vaL_w21 : p3 < w21.heap.size := Nat.lt_of_lt_of_le vaL_X3 hb21.size
          have oW_w21 := hidP (OwnG.later oW_X3.out hb21)
          have oX_w21 := hidP (OwnG.later oX_X3.out hb21)
          have oG_w21 := hidP (OwnG.later oG_X3.out hb21)
          have oV_w21 := hidP (OwnG.later oV_X3.out hb21)
          have acc_w21 := hidP (acc_X3.out.trans (hb21.mono acc_X3.out.size))
          have sz_w21 : Hid (X3.heap.size ≤ w21.heap.size) := hidP hb21.size
          clear hb21 lb0_X3 lb1_X3 lb2_X3 lbF_X3 lbL_X3 la0_X3 la1_X3 la2_X3 laF_X3 laL_X3 wa0_X3 wa1_X3 wa2_X3 waF_X3 waL_X3 xa0_X3 xa1_X3 xa2_X3 xaF_X3 xaL_X3 ga0_X3 ga1_X3 ga2_X3 gaF_X3 gaL_X3 va0_X3 va1_X3 va2_X3 vaF_X3 vaL_X3 oW_X3 oX_X3 oG_X3 oV_X3 acc_X3
          go_wp2_with fail
          refine (HHg.out _ A2 C2 oG_w21.out.row).mono ?_
          rintro e w22 ⟨rfl, hb22⟩
          have lb0_w22 := (hb22.cell lbL_w21).trans lb0_w21
          have lb1_w22 := (hb22.cell lbL_w21).trans lb1_w21
          have lb2_w22 := (hb22.cell lbL_w21).trans lb2_w21
          have lbF_w22 : ∀ o, w22.frozen? ⟨w.heap.size, o, none⟩ = false := fun o => (hb22.frozen lbL_w21).trans (lbF_w21 o)
          have lbL_w22 : w.heap.size < w22.heap.size := Nat.lt_of_lt_of_le lbL_w21 hb22.size
          have la0_w22 := (hb22.cell laL_w21).trans la0_w21
          have la1_w22 := (hb22.cell laL_w21).trans la1_w21
          have la2_w22 := (hb22.cell laL_w21).trans la2_w21
          have laF_w22 : ∀ o, w22.frozen? ⟨w.heap.size + 1, o, none⟩ = false := fun o => (hb22.frozen laL_w21).trans (laF_w21 o)
          have laL_w22 : w.heap.size + 1 < w22.heap.size := Nat.lt_of_lt_of_le laL_w21 hb22.size
          have wa0_w22 := (hb22.cell waL_w21).trans wa0_w21
          have wa1_w22 := (hb22.cell waL_w21).trans wa1_w21
          have wa2_w22 := (hb22.cell waL_w21).trans wa2_w21
          have waF_w22 : ∀ o, w22.frozen? ⟨p1, o, none⟩ = false := fun o => (hb22.frozen waL_w21).trans (waF_w21 o)
          have waL_w22 : p1 < w22.heap.size := Nat.lt_of_lt_of_le waL_w21 hb22.size
          have xa0_w22 := (hb22.cell xaL_w21).trans xa0_w21
          have xa1_w22 := (hb22.cell xaL_w21).trans xa1_w21
          have xa2_w22 := (hb22.cell xaL_w21).trans xa2_w21
          have xaF_w22 : ∀ o, w22.frozen? ⟨w5.heap.size, o, none⟩ = false := fun o => (hb22.frozen xaL_w21).trans (xaF_w21 o)
          have xaL_w22 : w5.heap.size < w22.heap.size := Nat.lt_of_lt_of_le xaL_w21 hb22.size
          have ga0_w22 := (hb22.cell gaL_w21).trans ga0_w21
          have ga1_w22 := (hb22.cell gaL_w21).trans ga1_w21
          have ga2_w22 := (hb22.cell gaL_w21).trans ga2_w21
          have gaF_w22 : ∀ o, w22.frozen? ⟨p2, o, none⟩ = false := fun o => (hb22.frozen gaL_w21).trans (gaF_w21 o)
          have gaL_w22 : p2 < w22.heap.size := Nat.lt_of_lt_of_le gaL_w21 hb22.size
          have va0_w22 := (hb22.cell vaL_w21).trans va0_w21
          have va1_w22 := (hb22.cell vaL_w21).trans va1_w21
          have va2_w22 := (hb22.cell vaL_w21).trans va2_w21
          have vaF_w22 : ∀ o, w22.frozen? ⟨p3, o, none⟩ = false := fun o => (hb22.frozen vaL_w21).trans (vaF_w21 o)
          have vaL_w22 : p3 < w22.heap.size := Nat.lt_of_lt_of_le vaL_w21 hb22.size
          have oW_w22 := hidP (OwnG.later oW_w21.out hb22)
          have oX_w22 := hidP (OwnG.later oX_w21.out hb22)
          have oG_w22 := hidP (OwnG.later oG_w21.out hb22)
          have oV_w22 := hidP (OwnG.later oV_w21.out hb22)
          have acc_w22 := hidP (acc_w21.out.trans (hb22.mono acc_w21.out.size))
          have sz_w22 : Hid (w21.heap.size ≤ w22.heap.size) := hidP hb22.size
          clear hb22 lb0_w21 lb1_w21 lb2_w21 lbF_w21 lbL_w21 la0_w21 la1_w21 la2_w21 laF_w21 laL_w21 wa0_w21 wa1_w21 wa2_w21 waF_w21 waL_w21 xa0_w21 xa1_w21 xa2_w21 xaF_w21 xaL_w21 ga0_w21 ga1_w21 ga2_w21 gaF_w21 gaL_w21 va0_w21 va1_w21 va2_w21 vaF_w21 vaL_w21 oW_w21 oX_w21 oG_w21 oV_w21 acc_w21
          go_wp2_with fail
          go_ret
          exact ⟨rfl, acc_w22.out⟩
  · rw [szT_no ht] at HSz
    clear hP hn hst ht
    go_enter Tryz.func3, Tryz.ntmps3
    go_wp2_with fail
    refine (HSz.out _ ((alloc_below w _).alloc (by simp) _)).mono ?_
    rintro e w2 ⟨rfl, hb2⟩
    go_wp2_with fail
    go_ret
    exact ⟨rfl, ((alloc_below w _).alloc (by simp) _).trans (hb2.mono (by simp; omega))⟩

theorem Tryz.et : Tryz.prog.globalNamed "errors.errorType" = some 0 := by kernel_rfl
theorem Tryz.rt : (Tryz.prog.cutTypes.find? (·.1 == "internal/reflectlite.rtype")).map (·.2) = some 105 := by kernel_rfl
theorem Tryz.oneRow : ((List.range 172).filter fun t => Tryz.prog.rowNamed t [101, 114, 114, 111, 114]) = [51] := by kernel_rfl
theorem Tryz.sizeT : Tryz.prog.types.size = 172 := by kernel_rfl
/-- What the row's list gives: the one variable's cell. -/
theorem glob_of {W : World} (h : laidMetH Tryz.prog Rows.fnExactGrantRow.laid W) : GlobE W := by
  have h' : laidMet Tryz.prog [] W ∧ handlesMet Tryz.prog Rows.fnExactGrantRow.laid W := h
  obtain ⟨name, u, ty, e1, e2, e3, e4, e5⟩ := h'.2 _ (List.mem_singleton.2 rfl)
  have en : name = [101, 114, 114, 111, 114] := (Option.some.inj e1).symm
  subst en
  obtain rfl := Option.some.inj (Tryz.rt.symm.trans e2)
  have hm : ty ∈ (List.range 172).filter fun t => Tryz.prog.rowNamed t [101, 114, 114, 111, 114] := List.mem_filter.2 ⟨List.mem_range.2 (by rw [← Tryz.sizeT]; exact e3), e4⟩
  rw [Tryz.oneRow] at hm
  obtain rfl := List.mem_singleton.1 hm
  have hh : typeHandle Tryz.prog 51 = .pointer (some ⟨1, 51, none⟩) := by kernel_rfl
  rw [hh] at e5
  simpa [GlobE] using World.var?_cell Tryz.et e5 0

/-- A world for the witness: the settled one, the variable's cell laid. -/
noncomputable def laidWorld (os : Os) : World :=
  let w0 := World.holding Tryz.prog os ⟨#[], #[], []⟩
  { w0 with heap := w0.heap.modify 0 fun
      | .cells _ t frozen => .cells #[.iface 105 (.agg #[.pointer (some ⟨1, 51, none⟩)])] t frozen
      | o => o }
theorem laidWorld_met (os : Os) (args : Array Value) : laidMetH Tryz.prog Rows.fnExactGrantRow.laid ((laidWorld os).forCall (fun _ _ => 0) ⟨#[], args, []⟩).memory :=
  laidMetH_of_parts (laidMet_nil _ _) (by kernel_rfl)

set_option maxRecDepth 100000 in
theorem grant_lifted (os : Os) (started : os.Started) (H : Type) (enc : TypeId × Value → H) :
    ReturnsInHanded {} Tryz.checked os 3 .any (fun w args => (Rows.fnExactGrantSpec.pre enc Tryz.prog Tryz.f3 [] false w args ∧ laidMetH Tryz.prog Rows.fnExactGrantRow.laid w) ∧ sizedMet enc Tryz.prog Tryz.f3 (OpenSpec.ofChange Rows.fnExactGrantSpec) false w args)
      (Rows.fnExactGrantSpec.post enc Tryz.prog Tryz.f3 false true false false) := by
  refine returnsInHanded_of_change_and (C := Tryz.checked) (X := fun w _ => laidMetH Tryz.prog Rows.fnExactGrantRow.laid w) (fun _ _ _ hh h => h.of_heap hh) Tryz.ownB6 started (by kernel_rfl) Tryz.func3
    (ChangeSpec.witness_at (enc := enc) (C := Tryz.checked) (os := os) (X := fun w _ => laidMetH Tryz.prog Rows.fnExactGrantRow.laid w) false (laidWorld os) #[.agg #[.slice none 0 0, .int .i64 0, .int .i64 0], .agg #[.bool false, .int .i64 0, .int .i64 0], .string ⟨#[]⟩, .int .i64 0] 8 rfl (by kernel_rfl) (by kernel_rfl) (by kernel_rfl) (by kernel_rfl) (by kernel_rfl) (laidWorld_met os _)) ?_
  intro W base args ds gs before hval0 hW _ _ hL _
  have hval : ∀ (j : Nat) t v, Tryz.f3.params[j]? = some t → args[j]? = some v → Value.okWide Tryz.prog W .any base t v := hval0
  have hW' := hW
  obtain ⟨p, q, hA0, hV, rfl, _, _⟩ := hW
  have hA : DataW.TrodAll enc Tryz.prog W 0 (fun _ => true) true Tryz.f3.params.toList args.toList ds p := hA0
  rw [Tryz.params3] at hA hval
  obtain ⟨v0, v1, v2, v3, d0, d1, d2, d3, p0, p1, p2, p3, rfl, rfl, rfl, h0, h1, h2, h3⟩ := trodAll_four hA
  obtain ⟨rfl, rfl⟩ := trodVars_none hV
  obtain ⟨a, n, c, T, N, ls, rfl, hn, hP, h9, hst, wT, wN⟩ := openBook (hval 0 24 v0 rfl rfl) h0
  obtain ⟨ad, rfl⟩ := openOneAd (hval 1 26 v1 rfl rfl) h1
  obtain ⟨own, rfl, rfl, rfl, wo⟩ := Go.ChangeMaps.open_string Tryz.underlying9 (hval 2 9 v2 rfl rfl) h2
  obtain ⟨span, rfl, rfl, rfl, wsp⟩ := open_int Tryz.underlying3 (hval 3 3 v3 rfl rfl) h3
  have hos : own.size ≤ 9223372036854775807 := by unfold maxLen at wo; omega
  clear hA0 hval0
  simp only [List.append_nil] at hW'
  have hg := glob_of hL
  have hlt : ∀ x ∈ p0 ++ p1, x.block < W.heap.size := fun x hx => by have := hW'.lt x (by simpa using hx); exact this
  have hlt0 : ∀ x ∈ p0, x.block < W.heap.size := fun x hx => hlt x (List.mem_append_left _ hx)
  have hlt1 : ∀ x ∈ p1, x.block < W.heap.size := fun x hx => hlt x (List.mem_append_right _ hx)
  refine (lawGrant a n c T N ls ad own span W hn hP h9 hst hos hg).mono fun e W' ⟨he, hb⟩ => ?_
  subst he
  exact ⟨_, rfl, ⟨_, _, _, [], _, [], hW', trodAll_mk1 (shut_bool Tryz.underlying4 true), trodAll_mk4 (Below.trod Tryz.laidOutB6 (by kernel_rfl) (of_decide_eq_true (by kernel_rfl)) h0 hb hlt0) (Below.trod Tryz.laidOutB6 (by kernel_rfl) (of_decide_eq_true (by kernel_rfl)) h1 hb hlt1) (Go.ChangeMaps.shut_string Tryz.underlying9 wo) (shut_int Tryz.underlying3 wsp), rfl, hb.frame _, fun h => by cases h⟩⟩


theorem grant_said : Rows.FnExactGrantSaid :=
  OpenClaim.holds_of_wide 3 Tryz.f3 rfl rfl rfl rfl rfl rfl rfl ⟨rfl, rfl, rfl, rfl, rfl⟩ rfl rfl rfl rfl rfl (by kernel_rfl) Tryz.func3 (by kernel_rfl)
    (of_decide_eq_true (by kernel_rfl)) (by unfold Func.isWrapper; rw [if_neg (of_decide_eq_false (by kernel_rfl))]; exact ⟨rfl, rfl⟩)
    (fun os started H enc _ => grant_lifted os started H enc)

theorem plainD (f : FuncId) (fn : Func) (hf : Tryz.pinned.checked.prog.funcNamed "loop.example/g00113/laws.FnExactGrant" = some f) (hfn : Tryz.pinned.checked.prog.funcs[f]? = some fn) :
    true = Tryz.pinned.checked.prog.looks [] ∧ ∀ (j : Nat) t, fn.params[j]? = some t → Tryz.pinned.checked.prog.wantsStandIn t = false := by
  obtain rfl : f = 3 := Option.some.inj ((show Tryz.prog.funcNamed "loop.example/g00113/laws.FnExactGrant" = some 3 by kernel_rfl).symm.trans hf) |>.symm
  obtain rfl : fn = Tryz.f3 := (Option.some.inj (Tryz.func3.symm.trans hfn)).symm
  refine ⟨by kernel_rfl, fun j t ht => ?_⟩
  rw [Tryz.params3] at ht
  have hm := Array.mem_of_getElem? ht
  simp at hm
  rcases hm with rfl | rfl | rfl | rfl
  all_goals (first | exact (show Tryz.prog.wantsStandIn _ = false by kernel_rfl))

theorem grant_card : Rows.FnExactGrantCardSaid :=
  Claim7.holds_tied_plain_at .later [] _ _ _ _ grant_said (fun _ h => by cases h) (by kernel_rfl) (fun _ h => by cases h) fnExactGrant_row_tie rfl ⟨rfl, rfl⟩ (by kernel_rfl) rfl plainD (by kernel_rfl)

end Go.Proofs.YtafbekjpmjjlpaaGreatDoor
