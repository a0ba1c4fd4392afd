/-
  For every book, address and token the two Holder answer alike and leave the book as it was, so the exact law of Holder returns true; the card ties the one variable that errors.As reads to the program's text; no other condition.
-/
import Derived.Test.YtgackacnlnagmaaDoorCards
import Derived.Test.YtgackacnlnagmaaDoorTie
import Derived.Test.YtgackacnlnagmaaDoorV6Hol
import Derived.Test.YtgackacnlnagmaaDoorVBookS
import Derived.ProofKit
import Derived.Lib.SmallJoins
import Derived.Carry
import Derived.Deep.Slices
import Derived.ChangeMaps5
import Derived.ChangeSame
import Derived.ChangeVars
import Derived.JoinedOf
import Derived.LaidLaws
import Derived.LaidHandle
import Derived.Stop.Joined
import Derived.Deep.DeepCutAuto
namespace Go.Proofs.YtgackacnlnagmaaDoor
open Go.ChangeShapes Go.WideShapes Go.ChangeAt Go.RowKit Go.Joins Go.Deep

theorem Tryd.ownB6 : ownKnob Tryd.prog.godebug = none := by kernel_rfl
theorem Tryd.laidOutB6 : laidOutB Tryd.prog = true := by kernel_rfl
theorem slice_of {H : Type} {enc : TypeId × Value → H} {W : World} {t e : TypeId} {n : Nat} {u : Value} {y : DataW H × List MemPlace} (ht : Tryd.prog.underlying t = some (.slice e)) (h : DataW.trod enc Tryd.prog W 0 (fun _ => true) true n t [u] = some y) : ∃ a l c, u = .slice a l c := by
  rcases open_slice ht h with ⟨hcs, _⟩ | ⟨a', len', cap', m, n', D, Plc, hcs, _⟩
  · simp at hcs; exact ⟨_, _, _, hcs⟩
  · simp at hcs; exact ⟨_, _, _, hcs⟩
theorem Tryd.cellsBook : Tryd.prog.cellsOf 24 = 3 := by kernel_rfl
set_option maxRecDepth 100000 in
/-- A book that came in. -/
theorem openBook {H : Type} {enc : TypeId × Value → H} {W : World} {r : Reach} {b0 : Nat} {v : Value} {d : DataW H} {p : List MemPlace} (hv : Value.okWide Tryd.prog W r b0 24 v)
    (h : DataW.Trod enc Tryd.prog W 0 (fun _ => true) true 24 v d p) : ∃ (a : Option Addr) (n c : Nat) (T N : Int) (ls : List Ls), v = .agg #[.slice a n c, .int .i64 T, .int .i64 N] ∧ n = ls.length ∧ RowG KLs W a ls ∧ n ≤ 9223372036854775807 ∧ (∀ q ∈ ls, q.t.size ≤ 9223372036854775807) ∧ (Lit.int .i64 T).wf = true ∧ (Lit.int .i64 N).wf = true := by
  obtain ⟨v0, v1, v2, y0, y1, y2, n, rfl, rfl, rfl, t0, t1, t2⟩ := open_agg3 Tryd.underlying24 (by kernel_rfl) Tryd.cellsBook hv h
  obtain ⟨a, n', c, rfl⟩ := slice_of Tryd.underlying22 t0
  obtain ⟨ls, e1, l1, r1, s1⟩ := openLs (enc := enc) (W := W) (a := a) (len := n') (cap := c) (d := y0.1) (p := y0.2) ⟨n, by simpa [Value.cells] using t0⟩
  obtain ⟨T, eT, _, wT⟩ := DataW.trod_int Tryd.underlying3 t1
  obtain ⟨N, eN, _, wN⟩ := DataW.trod_int Tryd.underlying3 t2
  simp at eT eN
  subst eT eN
  exact ⟨a, n', c, T, N, ls, rfl, e1.symm, r1, l1, s1, wT, wN⟩

set_option maxRecDepth 100000 in
theorem openOneAd {H : Type} {enc : TypeId × Value → H} {W : World} {r : Reach} {b0 : Nat} {v : Value} {d : DataW H} {p : List MemPlace} (hv : Value.okWide Tryd.prog W r b0 26 v)
    (h : DataW.Trod enc Tryd.prog W 0 (fun _ => true) true 26 v d p) : ∃ q : Ad, v = .agg #[.bool q.s, .int .i64 q.H.toInt, .int .i64 q.L.toInt] := by
  obtain ⟨v0, v1, v2, y0, y1, y2, n, rfl, rfl, rfl, t0, t1, t2⟩ := open_agg3 Tryd.underlying26 (by kernel_rfl) (by kernel_rfl) hv h
  obtain ⟨s, e0, _⟩ := DataW.trod_bool Tryd.underlying4 t0
  obtain ⟨x, e1, _, wx⟩ := DataW.trod_int Tryd.underlying3 t1
  obtain ⟨y, e2, _, wy⟩ := DataW.trod_int Tryd.underlying3 t2
  simp at e0 e1 e2
  subst e0 e1 e2
  exact ⟨⟨s, BitVec.ofInt 64 x, BitVec.ofInt 64 y⟩, by rw [wfA wx, wfA wy]⟩
theorem trodAll_nil {H : Type} {enc : TypeId × Value → H} {P : Program} {W : World} {base : Nat} {sp : Nat → Bool} {held : Bool} {ts : List TypeId} {vs : List Value} {ds : List (DataW H)} {p : List MemPlace} (h : DataW.TrodAll enc P W base sp held ts vs ds (p ++ [])) : DataW.TrodAll enc P W base sp held ts vs ds p := by
  rw [List.append_nil] at h; exact h

set_option maxRecDepth 10000 in
set_option maxHeartbeats 4000000 in
theorem lawHolder (a : Option Addr) (n c : Nat) (T N : Int) (ls : List Ls) (ad : Ad) (tk : Int) (w : World) (hn : n = ls.length) (hP : RowG KLs w a ls) (h9 : n ≤ 9223372036854775807) (hst : ∀ q ∈ ls, q.t.size ≤ 9223372036854775807) (hg : GlobE w) :
    Calls Tryd.prog 5 #[.agg #[.slice a n c, .int .i64 T, .int .i64 N], .agg #[.bool ad.s, .int .i64 ad.H.toInt, .int .i64 ad.L.toInt], .int .i64 tk] w fun e w' => e = .returned (.bool true) ∧ Below w.heap.size w w' := by
  have HSz := hidP (fun W h => szBook_any a n c T N ls W hn (hP.later h) h9 hst)
  by_cases ht : totB ls ≤ 1048576
  · rw [szT_yes ht] at HSz
    have hl : n ≤ 1048576 := by unfold totB at ht; omega
    have HTo := hidP (fun W h => toBook_any a n c T N ls W hn (hP.later h) hl)
    have HTa := hidP (toAddr_any ad.s ad.H.toInt ad.L.toInt)
    obtain ⟨S, C, hSpec, hImpl⟩ := holder_both n T N ls ad tk hn hl hst
    have HSp := hidP hSpec
    have HIm := hidP hImpl
    have HG := hidP hg
    have HEx := hidP (fun W g g' e1 e2 => eqBook_same (some ⟨g, 0, none⟩) (some ⟨g', 0, none⟩) n n n T N ls W hn e1 e2 (by omega))
    have d1 : decide (1048576 - totB ls < 0) = false := decide_eq_false (by omega)
    have d2 : ¬ (1048576 - totB ls < 0) := by omega
    generalize 1048576 - totB ls = z at *
    clear hP hn hst ht hSpec hImpl hg
    go_enter Tryd.func5, Tryd.ntmps5
    go_wp2_with fail
    obtain ⟨lb0_W1, lb1_W1, lb2_W1⟩ := box3B w 24 (.slice a n c) (.int .i64 T) (.int .i64 N)
    have lbF_W1 : ∀ o, (w.alloc (.cells #[.slice a n c, .int .i64 T, .int .i64 N] 24)).frozen? ⟨w.heap.size, o, none⟩ = false := fun o => by simp [go_sem]
    have lbL_W1 : w.heap.size < (w.alloc (.cells #[.slice a n c, .int .i64 T, .int .i64 N] 24)).heap.size := by simp
    have ab_W1 := alloc_below w (.cells #[.slice a n c, .int .i64 T, .int .i64 N] 24)
    have as_W1 : Hid ((w.alloc (.cells #[.slice a n c, .int .i64 T, .int .i64 N] 24)).heap.size = w.heap.size + 1) := hidP (by simp)
    generalize w.alloc (.cells #[.slice a n c, .int .i64 T, .int .i64 N] 24) = W1 at *
    have acc_W1 := hidP (ab_W1)
    have sz_W1 : Hid (w.heap.size ≤ W1.heap.size) := hidP ab_W1.size
    clear ab_W1 
    obtain ⟨la0_W2, la1_W2, la2_W2⟩ := box3B W1 26 (.bool ad.s) (.int .i64 ad.H.toInt) (.int .i64 ad.L.toInt)
    have laF_W2 : ∀ o, (W1.alloc (.cells #[.bool ad.s, .int .i64 ad.H.toInt, .int .i64 ad.L.toInt] 26)).frozen? ⟨W1.heap.size, o, none⟩ = false := fun o => by simp [go_sem]
    have laL_W2 : W1.heap.size < (W1.alloc (.cells #[.bool ad.s, .int .i64 ad.H.toInt, .int .i64 ad.L.toInt] 26)).heap.size := by simp
    have ab_W2 := alloc_below W1 (.cells #[.bool ad.s, .int .i64 ad.H.toInt, .int .i64 ad.L.toInt] 26)
    have as_W2 : Hid ((W1.alloc (.cells #[.bool ad.s, .int .i64 ad.H.toInt, .int .i64 ad.L.toInt] 26)).heap.size = W1.heap.size + 1) := hidP (by simp)
    generalize W1.alloc (.cells #[.bool ad.s, .int .i64 ad.H.toInt, .int .i64 ad.L.toInt] 26) = W2 at *
    have lb0_W2 := (ab_W2.cell lbL_W1).trans lb0_W1
    have lb1_W2 := (ab_W2.cell lbL_W1).trans lb1_W1
    have lb2_W2 := (ab_W2.cell lbL_W1).trans lb2_W1
    have lbF_W2 : ∀ o, W2.frozen? ⟨w.heap.size, o, none⟩ = false := fun o => (ab_W2.frozen lbL_W1).trans (lbF_W1 o)
    have lbL_W2 : w.heap.size < W2.heap.size := Nat.lt_of_lt_of_le lbL_W1 ab_W2.size
    have acc_W2 := hidP (acc_W1.out.trans (ab_W2.mono acc_W1.out.size))
    have sz_W2 : Hid (W1.heap.size ≤ W2.heap.size) := hidP ab_W2.size
    clear ab_W2 lb0_W1 lb1_W1 lb2_W1 lbF_W1 lbL_W1 acc_W1
    have eW1 := as_W1.out
    rw [eW1] at la0_W2 la1_W2 la2_W2 laL_W2
    have laF_W2' : ∀ o, W2.frozen? ⟨w.heap.size + 1, o, none⟩ = false := fun o => by have := laF_W2 o; rw [eW1] at this; exact this
    clear laF_W2 eW1
    have laF_W2 := laF_W2'
    clear laF_W2'
    refine (HSz.out _ acc_W2.out).mono ?_
    rintro e w3 ⟨rfl, hb3⟩
    have lb0_w3 := (hb3.cell lbL_W2).trans lb0_W2
    have lb1_w3 := (hb3.cell lbL_W2).trans lb1_W2
    have lb2_w3 := (hb3.cell lbL_W2).trans lb2_W2
    have lbF_w3 : ∀ o, w3.frozen? ⟨w.heap.size, o, none⟩ = false := fun o => (hb3.frozen lbL_W2).trans (lbF_W2 o)
    have lbL_w3 : w.heap.size < w3.heap.size := Nat.lt_of_lt_of_le lbL_W2 hb3.size
    have la0_w3 := (hb3.cell laL_W2).trans la0_W2
    have la1_w3 := (hb3.cell laL_W2).trans la1_W2
    have la2_w3 := (hb3.cell laL_W2).trans la2_W2
    have laF_w3 : ∀ o, w3.frozen? ⟨w.heap.size + 1, o, none⟩ = false := fun o => (hb3.frozen laL_W2).trans (laF_W2 o)
    have laL_w3 : w.heap.size + 1 < w3.heap.size := Nat.lt_of_lt_of_le laL_W2 hb3.size
    have acc_w3 := hidP (acc_W2.out.trans (hb3.mono acc_W2.out.size))
    have sz_w3 : Hid (W2.heap.size ≤ w3.heap.size) := hidP hb3.size
    clear hb3 lb0_W2 lb1_W2 lb2_W2 lbF_W2 lbL_W2 la0_W2 la1_W2 la2_W2 laF_W2 laL_W2 acc_W2
    go_upto_region 5 with fail
    go_cut [8, 9] (fun t8 t9 X => t8 = .string S ∧ t9 = .int .i64 C ∧ Below w3.heap.size w3 X)
    case first =>
      have HSx : Hid (∀ x, Below w3.heap.size w3 x → (x.cell? ⟨w.heap.size, 0, none⟩ = some (.slice a n c) ∧ x.cell? ⟨w.heap.size, 1, none⟩ = some (.int .i64 T) ∧ x.cell? ⟨w.heap.size, 2, none⟩ = some (.int .i64 N) ∧ x.cell? ⟨w.heap.size + 1, 0, none⟩ = some (.bool ad.s) ∧ x.cell? ⟨w.heap.size + 1, 1, none⟩ = some (.int .i64 ad.H.toInt) ∧ x.cell? ⟨w.heap.size + 1, 2, none⟩ = some (.int .i64 ad.L.toInt) ∧ Below w3.heap.size w3 x)) := hidP fun x h =>
        ⟨(h.cell lbL_w3).trans lb0_w3, (h.cell lbL_w3).trans lb1_w3, (h.cell lbL_w3).trans lb2_w3, (h.cell laL_w3).trans la0_w3, (h.cell laL_w3).trans la1_w3, (h.cell laL_w3).trans la2_w3, h⟩
      refine wp_region_held_drew (S := (fun x => x.cell? ⟨w.heap.size, 0, none⟩ = some (.slice a n c) ∧ x.cell? ⟨w.heap.size, 1, none⟩ = some (.int .i64 T) ∧ x.cell? ⟨w.heap.size, 2, none⟩ = some (.int .i64 N) ∧ x.cell? ⟨w.heap.size + 1, 0, none⟩ = some (.bool ad.s) ∧ x.cell? ⟨w.heap.size + 1, 1, none⟩ = some (.int .i64 ad.H.toInt) ∧ x.cell? ⟨w.heap.size + 1, 2, none⟩ = some (.int .i64 ad.L.toInt) ∧ Below w3.heap.size w3 x)) (by kernel_rfl) ?_ (fun hHeld => ?_)
      · try dsimp only
        exact HSx.out _ (Below.refl _ _).drew
      refine wpAnyH_take (i := 0) (oi := ⟨some 19, _, _, _, _, _⟩) (v := ?_) rfl (by kernel_rfl) (by kernel_rfl) (by kernel_rfl) (fun _ _ _ h => h) (Or.inl ⟨by rfl, ?_⟩) (by assumption) ?_
      rotate_left
      · intro w hSw
        try dsimp only at hSw
        go_simp
        try with_reducible rfl
      simp only [Act.put, List.setIfInBounds_toArray, List.set_cons_zero, List.set_cons_succ]
      refine wpAnyH_take (i := 2) (oi := ⟨some 21, _, _, _, _, _⟩) (v := ?_) rfl (by kernel_rfl) (by kernel_rfl) (by kernel_rfl) (fun _ _ _ h => h) (Or.inl ⟨by rfl, ?_⟩) (by assumption) ?_
      rotate_left
      · intro w hSw
        try dsimp only at hSw
        go_simp
        try with_reducible rfl
      simp only [Act.put, List.setIfInBounds_toArray, List.set_cons_zero, List.set_cons_succ]
      refine wpAnyH_take (i := 4) (oi := ⟨some 23, _, _, _, _, _⟩) (v := ?_) rfl (by kernel_rfl) (by kernel_rfl) (by kernel_rfl) (fun _ _ _ h => h) (Or.inl ⟨by rfl, ?_⟩) (by assumption) ?_
      rotate_left
      · intro w hSw
        try dsimp only at hSw
        go_simp
        try with_reducible rfl
      simp only [Act.put, List.setIfInBounds_toArray, List.set_cons_zero, List.set_cons_succ]
      refine wpAnyH_ready (rs := [1]) (by kernel_rfl) (by simp) ?_
      refine AllReadyH.cons rfl (fun K hK => ?_) AllReadyH.nil
      go_simp
      go_wp2_with (first | (go_at_call 8; refine (HTo.out _ (acc_w3.out.trans ((hHeld.2.2.2.2.2.2).mono acc_w3.out.size))).mono ?_; rintro e w4 ⟨g4, rfl, og4, hb4⟩; have b4 := (hHeld.2.2.2.2.2.2).trans (hb4.mono (hHeld.2.2.2.2.2.2).size)))
      refine hK.out _ _ ?_ (fun hHeld => ?_)
      · try dsimp only
        exact HSx.out _ b4
      clear hK K
      refine wpAnyH_ready (rs := [3]) (by kernel_rfl) (by simp) ?_
      refine AllReadyH.cons rfl (fun K hK => ?_) AllReadyH.nil
      go_simp
      go_wp2_with (first | (go_at_call 9; refine (HTa.out _).mono ?_; rintro e w5 ⟨rfl, hb5⟩; have b5 := (hHeld.2.2.2.2.2.2).trans (hb5.mono (hHeld.2.2.2.2.2.2).size)))
      refine hK.out _ _ ?_ (fun hHeld => ?_)
      · try dsimp only
        exact HSx.out _ b5
      clear hK K
      refine wpAnyH_ready (rs := [5]) (by kernel_rfl) (by simp) ?_
      refine AllReadyH.cons rfl (fun K hK => ?_) AllReadyH.nil
      go_simp
      go_wp2_with (first | (go_at_call 16; refine (HSp.out g4 _ (RowG.later og4.row hb5)).mono ?_; rintro e w6 ⟨rfl, hb6⟩; have b6 := (hHeld.2.2.2.2.2.2).trans (hb6.mono (hHeld.2.2.2.2.2.2).size)))
      refine hK.out _ _ ?_ (fun hHeld => ?_)
      · try dsimp only
        exact HSx.out _ b6
      clear hK K
      refine wpAnyH_take (i := 6) (oi := ⟨some 18, _, _, _, _, _⟩) (v := ?_) rfl (by kernel_rfl) (by kernel_rfl) (by kernel_rfl) (fun _ _ _ h => h) (Or.inl ⟨by rfl, ?_⟩) (by assumption) ?_
      rotate_left
      · intro w hSw
        try dsimp only at hSw
        go_simp
        try with_reducible rfl
      simp only [Act.put, List.setIfInBounds_toArray, List.set_cons_zero, List.set_cons_succ]
      refine wpAnyH_take (i := 7) (oi := ⟨some 25, _, _, _, _, _⟩) (v := ?_) rfl (by kernel_rfl) (by kernel_rfl) (by kernel_rfl) (fun _ _ _ h => h) (Or.inl ⟨by rfl, ?_⟩) (by assumption) ?_
      rotate_left
      · intro w hSw
        try dsimp only at hSw
        go_simp
        try with_reducible rfl
      simp only [Act.put, List.setIfInBounds_toArray, List.set_cons_zero, List.set_cons_succ]
      refine wpAnyH_take (i := 8) (oi := ⟨some 26, _, _, _, _, _⟩) (v := ?_) rfl (by kernel_rfl) (by kernel_rfl) (by kernel_rfl) (fun _ _ _ h => h) (Or.inl ⟨by rfl, ?_⟩) (by assumption) ?_
      rotate_left
      · intro w hSw
        try dsimp only at hSw
        go_simp
        try with_reducible rfl
      simp only [Act.put, List.setIfInBounds_toArray, List.set_cons_zero, List.set_cons_succ]
      refine wpAnyH_take (i := 9) (oi := ⟨some 8, _, _, _, _, _⟩) (v := ?_) rfl (by kernel_rfl) (by kernel_rfl) (by kernel_rfl) (fun _ _ _ h => h) (Or.inl ⟨by rfl, ?_⟩) (by assumption) ?_
      rotate_left
      · intro w hSw
        try dsimp only at hSw
        go_simp
        try with_reducible rfl
      simp only [Act.put, List.setIfInBounds_toArray, List.set_cons_zero, List.set_cons_succ]
      refine wpAnyH_take (i := 10) (oi := ⟨some 9, _, _, _, _, _⟩) (v := ?_) rfl (by kernel_rfl) (by kernel_rfl) (by kernel_rfl) (fun _ _ _ h => h) (Or.inl ⟨by rfl, ?_⟩) (by assumption) ?_
      rotate_left
      · intro w hSw
        try dsimp only at hSw
        go_simp
        try with_reducible rfl
      simp only [Act.put, List.setIfInBounds_toArray, List.set_cons_zero, List.set_cons_succ]
      have HE := hidP (hHeld.2.2.2.2.2.2)
      refine wpAnyH_done (by kernel_rfl) ?_ _
      clear hHeld
      go_wp2_with fail
      go_meet
      exact ⟨rfl, rfl, HE.out⟩
    case rest =>
      obtain ⟨rfl, rfl, hX⟩ := hcut
      have lb0_wc := (hX.cell lbL_w3).trans lb0_w3
      have lb1_wc := (hX.cell lbL_w3).trans lb1_w3
      have lb2_wc := (hX.cell lbL_w3).trans lb2_w3
      have lbF_wc : ∀ o, wc.frozen? ⟨w.heap.size, o, none⟩ = false := fun o => (hX.frozen lbL_w3).trans (lbF_w3 o)
      have lbL_wc : w.heap.size < wc.heap.size := Nat.lt_of_lt_of_le lbL_w3 hX.size
      have la0_wc := (hX.cell laL_w3).trans la0_w3
      have la1_wc := (hX.cell laL_w3).trans la1_w3
      have la2_wc := (hX.cell laL_w3).trans la2_w3
      have laF_wc : ∀ o, wc.frozen? ⟨w.heap.size + 1, o, none⟩ = false := fun o => (hX.frozen laL_w3).trans (laF_w3 o)
      have laL_wc : w.heap.size + 1 < wc.heap.size := Nat.lt_of_lt_of_le laL_w3 hX.size
      have acc_wc := hidP (acc_w3.out.trans (hX.mono acc_w3.out.size))
      have sz_wc : Hid (w3.heap.size ≤ wc.heap.size) := hidP hX.size
      clear hX lb0_w3 lb1_w3 lb2_w3 lbF_w3 lbL_w3 la0_w3 la1_w3 la2_w3 laF_w3 laL_w3 acc_w3
      go_wp2_with fail
      refine (HTo.out _ acc_wc.out).mono ?_
      rintro e w5 ⟨g2, rfl, og2, hb5⟩
      have OX := hidP og2
      clear og2
      have lb0_w5 := (hb5.cell lbL_wc).trans lb0_wc
      have lb1_w5 := (hb5.cell lbL_wc).trans lb1_wc
      have lb2_w5 := (hb5.cell lbL_wc).trans lb2_wc
      have lbF_w5 : ∀ o, w5.frozen? ⟨w.heap.size, o, none⟩ = false := fun o => (hb5.frozen lbL_wc).trans (lbF_wc o)
      have lbL_w5 : w.heap.size < w5.heap.size := Nat.lt_of_lt_of_le lbL_wc hb5.size
      have la0_w5 := (hb5.cell laL_wc).trans la0_wc
      have la1_w5 := (hb5.cell laL_wc).trans la1_wc
      have la2_w5 := (hb5.cell laL_wc).trans la2_wc
      have laF_w5 : ∀ o, w5.frozen? ⟨w.heap.size + 1, o, none⟩ = false := fun o => (hb5.frozen laL_wc).trans (laF_wc o)
      have laL_w5 : w.heap.size + 1 < w5.heap.size := Nat.lt_of_lt_of_le laL_wc hb5.size
      have acc_w5 := hidP (acc_wc.out.trans (hb5.mono acc_wc.out.size))
      have sz_w5 : Hid (wc.heap.size ≤ w5.heap.size) := hidP hb5.size
      clear hb5 lb0_wc lb1_wc lb2_wc lbF_wc lbL_wc la0_wc la1_wc la2_wc laF_wc laL_wc acc_wc
      have oX_w5 := hidP (OX.out)
      clear OX
      go_wp2_with fail
      obtain ⟨xa0_W6, xa1_W6, xa2_W6⟩ := box3B w5 30 (.slice (some ⟨g2, 0, none⟩) n n) (.int .i64 T) (.int .i64 N)
      have xaF_W6 : ∀ o, (w5.alloc (.cells #[.slice (some ⟨g2, 0, none⟩) n n, .int .i64 T, .int .i64 N] 30)).frozen? ⟨w5.heap.size, o, none⟩ = false := fun o => by simp [go_sem]
      have xaL_W6 : w5.heap.size < (w5.alloc (.cells #[.slice (some ⟨g2, 0, none⟩) n n, .int .i64 T, .int .i64 N] 30)).heap.size := by simp
      have ab_W6 := alloc_below w5 (.cells #[.slice (some ⟨g2, 0, none⟩) n n, .int .i64 T, .int .i64 N] 30)
      have as_W6 : Hid ((w5.alloc (.cells #[.slice (some ⟨g2, 0, none⟩) n n, .int .i64 T, .int .i64 N] 30)).heap.size = w5.heap.size + 1) := hidP (by simp)
      generalize w5.alloc (.cells #[.slice (some ⟨g2, 0, none⟩) n n, .int .i64 T, .int .i64 N] 30) = W6 at *
      have lb0_W6 := (ab_W6.cell lbL_w5).trans lb0_w5
      have lb1_W6 := (ab_W6.cell lbL_w5).trans lb1_w5
      have lb2_W6 := (ab_W6.cell lbL_w5).trans lb2_w5
      have lbF_W6 : ∀ o, W6.frozen? ⟨w.heap.size, o, none⟩ = false := fun o => (ab_W6.frozen lbL_w5).trans (lbF_w5 o)
      have lbL_W6 : w.heap.size < W6.heap.size := Nat.lt_of_lt_of_le lbL_w5 ab_W6.size
      have la0_W6 := (ab_W6.cell laL_w5).trans la0_w5
      have la1_W6 := (ab_W6.cell laL_w5).trans la1_w5
      have la2_W6 := (ab_W6.cell laL_w5).trans la2_w5
      have laF_W6 : ∀ o, W6.frozen? ⟨w.heap.size + 1, o, none⟩ = false := fun o => (ab_W6.frozen laL_w5).trans (laF_w5 o)
      have laL_W6 : w.heap.size + 1 < W6.heap.size := Nat.lt_of_lt_of_le laL_w5 ab_W6.size
      have oX_W6 := hidP (OwnG.later oX_w5.out ab_W6)
      have acc_W6 := hidP (acc_w5.out.trans (ab_W6.mono acc_w5.out.size))
      have sz_W6 : Hid (w5.heap.size ≤ W6.heap.size) := hidP ab_W6.size
      clear ab_W6 lb0_w5 lb1_w5 lb2_w5 lbF_w5 lbL_w5 la0_w5 la1_w5 la2_w5 laF_w5 laL_w5 oX_w5 acc_w5
      have HSx : Hid (∀ x, Below W6.heap.size W6 x → (x.cell? ⟨w5.heap.size, 0, none⟩ = some (.slice (some ⟨g2, 0, none⟩) n n) ∧ x.cell? ⟨w5.heap.size, 1, none⟩ = some (.int .i64 T) ∧ x.cell? ⟨w5.heap.size, 2, none⟩ = some (.int .i64 N) ∧ x.cell? ⟨w.heap.size + 1, 0, none⟩ = some (.bool ad.s) ∧ x.cell? ⟨w.heap.size + 1, 1, none⟩ = some (.int .i64 ad.H.toInt) ∧ x.cell? ⟨w.heap.size + 1, 2, none⟩ = some (.int .i64 ad.L.toInt) ∧ x.cell? ⟨w.heap.size, 0, none⟩ = some (.slice a n c) ∧ x.cell? ⟨w.heap.size, 1, none⟩ = some (.int .i64 T) ∧ x.cell? ⟨w.heap.size, 2, none⟩ = some (.int .i64 N) ∧ Below W6.heap.size W6 x)) := hidP fun x h =>
        ⟨(h.cell xaL_W6).trans xa0_W6, (h.cell xaL_W6).trans xa1_W6, (h.cell xaL_W6).trans xa2_W6, (h.cell laL_W6).trans la0_W6, (h.cell laL_W6).trans la1_W6, (h.cell laL_W6).trans la2_W6, (h.cell lbL_W6).trans lb0_W6, (h.cell lbL_W6).trans lb1_W6, (h.cell lbL_W6).trans lb2_W6, h⟩
      refine wp_region_held_drew (S := (fun x => x.cell? ⟨w5.heap.size, 0, none⟩ = some (.slice (some ⟨g2, 0, none⟩) n n) ∧ x.cell? ⟨w5.heap.size, 1, none⟩ = some (.int .i64 T) ∧ x.cell? ⟨w5.heap.size, 2, none⟩ = some (.int .i64 N) ∧ x.cell? ⟨w.heap.size + 1, 0, none⟩ = some (.bool ad.s) ∧ x.cell? ⟨w.heap.size + 1, 1, none⟩ = some (.int .i64 ad.H.toInt) ∧ x.cell? ⟨w.heap.size + 1, 2, none⟩ = some (.int .i64 ad.L.toInt) ∧ x.cell? ⟨w.heap.size, 0, none⟩ = some (.slice a n c) ∧ x.cell? ⟨w.heap.size, 1, none⟩ = some (.int .i64 T) ∧ x.cell? ⟨w.heap.size, 2, none⟩ = some (.int .i64 N) ∧ Below W6.heap.size W6 x)) (by kernel_rfl) ?_ (fun hHeld => ?_)
      · try dsimp only
        exact HSx.out _ ((Below.refl _ _).drew)
      refine wpAnyH_take (i := 0) (oi := ⟨some 30, _, _, _, _, _⟩) (v := ?_) rfl (by kernel_rfl) (by kernel_rfl) (by kernel_rfl) (fun _ _ _ h => h) (Or.inl ⟨by rfl, ?_⟩) (by assumption) ?_
      rotate_left
      · intro w hSw
        try dsimp only at hSw
        go_simp
        try with_reducible rfl
      simp only [Act.put, List.setIfInBounds_toArray, List.set_cons_zero, List.set_cons_succ]
      refine wpAnyH_take (i := 1) (oi := ⟨some 31, _, _, _, _, _⟩) (v := ?_) rfl (by kernel_rfl) (by kernel_rfl) (by kernel_rfl) (fun _ _ _ h => h) (Or.inl ⟨by rfl, ?_⟩) (by assumption) ?_
      rotate_left
      · intro w hSw
        try dsimp only at hSw
        go_simp
        try with_reducible rfl
      simp only [Act.put, List.setIfInBounds_toArray, List.set_cons_zero, List.set_cons_succ]
      refine wpAnyH_take (i := 3) (oi := ⟨some 33, _, _, _, _, _⟩) (v := ?_) rfl (by kernel_rfl) (by kernel_rfl) (by kernel_rfl) (fun _ _ _ h => h) (Or.inl ⟨by rfl, ?_⟩) (by assumption) ?_
      rotate_left
      · intro w hSw
        try dsimp only at hSw
        go_simp
        try with_reducible rfl
      simp only [Act.put, List.setIfInBounds_toArray, List.set_cons_zero, List.set_cons_succ]
      refine wpAnyH_ready (rs := [2]) (by kernel_rfl) (by simp) ?_
      refine AllReadyH.cons rfl (fun K hK => ?_) AllReadyH.nil
      go_simp
      go_wp2_with (first | (go_at_call 9; refine (HTa.out _).mono ?_; rintro e w7 ⟨rfl, hb7⟩; have b7 := (hHeld.2.2.2.2.2.2.2.2.2).trans (hb7.mono (hHeld.2.2.2.2.2.2.2.2.2).size)))
      refine hK.out _ _ ?_ (fun hHeld => ?_)
      · try dsimp only
        exact HSx.out _ b7
      clear hK K
      refine wpAnyH_ready (rs := [4]) (by kernel_rfl) (by simp) ?_
      refine AllReadyH.cons rfl (fun K hK => ?_) AllReadyH.nil
      go_simp
      go_wp2_with (first | (go_at_call 17; refine (HIm.out g2 _ (oX_W6.out.row.later (hHeld.2.2.2.2.2.2.2.2.2)) (HG.out.later (acc_W6.out.trans ((hHeld.2.2.2.2.2.2.2.2.2).mono acc_W6.out.size)))).mono ?_; rintro e w8 ⟨rfl, hb8⟩; have b8 := (hHeld.2.2.2.2.2.2.2.2.2).trans (hb8.mono (hHeld.2.2.2.2.2.2.2.2.2).size)))
      refine hK.out _ _ ?_ (fun hHeld => ?_)
      · try dsimp only
        exact HSx.out _ b8
      clear hK K
      refine wpAnyH_take (i := 5) (oi := ⟨some 29, _, _, _, _, _⟩) (v := ?_) rfl (by kernel_rfl) (by kernel_rfl) (by kernel_rfl) (fun _ _ _ h => h) (Or.inl ⟨by rfl, ?_⟩) (by assumption) ?_
      rotate_left
      · intro w hSw
        try dsimp only at hSw
        go_simp
        try with_reducible rfl
      simp only [Act.put, List.setIfInBounds_toArray, List.set_cons_zero, List.set_cons_succ]
      refine wpAnyH_take (i := 6) (oi := ⟨some 35, _, _, _, _, _⟩) (v := ?_) rfl (by kernel_rfl) (by kernel_rfl) (by kernel_rfl) (fun _ _ _ h => h) (Or.inl ⟨by rfl, ?_⟩) (by assumption) ?_
      rotate_left
      · intro w hSw
        try dsimp only at hSw
        go_simp
        try with_reducible rfl
      simp only [Act.put, List.setIfInBounds_toArray, List.set_cons_zero, List.set_cons_succ]
      refine wpAnyH_take (i := 7) (oi := ⟨some 36, _, _, _, _, _⟩) (v := ?_) rfl (by kernel_rfl) (by kernel_rfl) (by kernel_rfl) (fun _ _ _ h => h) (Or.inl ⟨by rfl, ?_⟩) (by assumption) ?_
      rotate_left
      · intro w hSw
        try dsimp only at hSw
        go_simp
        try with_reducible rfl
      simp only [Act.put, List.setIfInBounds_toArray, List.set_cons_zero, List.set_cons_succ]
      refine wpAnyH_take (i := 8) (oi := ⟨some 11, _, _, _, _, _⟩) (v := ?_) rfl (by kernel_rfl) (by kernel_rfl) (by kernel_rfl) (fun _ _ _ h => h) (Or.inl ⟨by rfl, ?_⟩) (by assumption) ?_
      rotate_left
      · intro w hSw
        try dsimp only at hSw
        go_simp
        try with_reducible rfl
      simp only [Act.put, List.setIfInBounds_toArray, List.set_cons_zero, List.set_cons_succ]
      refine wpAnyH_take (i := 9) (oi := ⟨some 12, _, _, _, _, _⟩) (v := ?_) rfl (by kernel_rfl) (by kernel_rfl) (by kernel_rfl) (fun _ _ _ h => h) (Or.inl ⟨by rfl, ?_⟩) (by assumption) ?_
      rotate_left
      · intro w hSw
        try dsimp only at hSw
        go_simp
        try with_reducible rfl
      simp only [Act.put, List.setIfInBounds_toArray, List.set_cons_zero, List.set_cons_succ]
      have HE := hidP (hHeld.2.2.2.2.2.2.2.2.2)
      refine wpAnyH_done (by kernel_rfl) ?_ _
      clear hHeld
      have hb8' := HE.out
      clear HE hb7 hb8 b7 b8 HSx
      have lb0_w8 := (hb8'.cell lbL_W6).trans lb0_W6
      have lb1_w8 := (hb8'.cell lbL_W6).trans lb1_W6
      have lb2_w8 := (hb8'.cell lbL_W6).trans lb2_W6
      have lbF_w8 : ∀ o, w8.frozen? ⟨w.heap.size, o, none⟩ = false := fun o => (hb8'.frozen lbL_W6).trans (lbF_W6 o)
      have lbL_w8 : w.heap.size < w8.heap.size := Nat.lt_of_lt_of_le lbL_W6 hb8'.size
      have la0_w8 := (hb8'.cell laL_W6).trans la0_W6
      have la1_w8 := (hb8'.cell laL_W6).trans la1_W6
      have la2_w8 := (hb8'.cell laL_W6).trans la2_W6
      have laF_w8 : ∀ o, w8.frozen? ⟨w.heap.size + 1, o, none⟩ = false := fun o => (hb8'.frozen laL_W6).trans (laF_W6 o)
      have laL_w8 : w.heap.size + 1 < w8.heap.size := Nat.lt_of_lt_of_le laL_W6 hb8'.size
      have xa0_w8 := (hb8'.cell xaL_W6).trans xa0_W6
      have xa1_w8 := (hb8'.cell xaL_W6).trans xa1_W6
      have xa2_w8 := (hb8'.cell xaL_W6).trans xa2_W6
      have xaF_w8 : ∀ o, w8.frozen? ⟨w5.heap.size, o, none⟩ = false := fun o => (hb8'.frozen xaL_W6).trans (xaF_W6 o)
      have xaL_w8 : w5.heap.size < w8.heap.size := Nat.lt_of_lt_of_le xaL_W6 hb8'.size
      have oX_w8 := hidP (OwnG.later oX_W6.out hb8')
      have acc_w8 := hidP (acc_W6.out.trans (hb8'.mono acc_W6.out.size))
      have sz_w8 : Hid (W6.heap.size ≤ w8.heap.size) := hidP hb8'.size
      clear hb8' lb0_W6 lb1_W6 lb2_W6 lbF_W6 lbL_W6 la0_W6 la1_W6 la2_W6 laF_W6 laL_W6 xa0_W6 xa1_W6 xa2_W6 xaF_W6 xaL_W6 oX_W6 acc_W6
      go_wp2_with fail
      have HSx : Hid (∀ x, Below w8.heap.size w8 x → (x.cell? ⟨w5.heap.size, 0, none⟩ = some (.slice (some ⟨g2, 0, none⟩) n n) ∧ x.cell? ⟨w5.heap.size, 1, none⟩ = some (.int .i64 T) ∧ x.cell? ⟨w5.heap.size, 2, none⟩ = some (.int .i64 N) ∧ x.cell? ⟨w.heap.size, 0, none⟩ = some (.slice a n c) ∧ x.cell? ⟨w.heap.size, 1, none⟩ = some (.int .i64 T) ∧ x.cell? ⟨w.heap.size, 2, none⟩ = some (.int .i64 N) ∧ Below w8.heap.size w8 x)) := hidP fun x h =>
        ⟨(h.cell xaL_w8).trans xa0_w8, (h.cell xaL_w8).trans xa1_w8, (h.cell xaL_w8).trans xa2_w8, (h.cell lbL_w8).trans lb0_w8, (h.cell lbL_w8).trans lb1_w8, (h.cell lbL_w8).trans lb2_w8, h⟩
      refine wp_region_held_drew (S := (fun x => x.cell? ⟨w5.heap.size, 0, none⟩ = some (.slice (some ⟨g2, 0, none⟩) n n) ∧ x.cell? ⟨w5.heap.size, 1, none⟩ = some (.int .i64 T) ∧ x.cell? ⟨w5.heap.size, 2, none⟩ = some (.int .i64 N) ∧ x.cell? ⟨w.heap.size, 0, none⟩ = some (.slice a n c) ∧ x.cell? ⟨w.heap.size, 1, none⟩ = some (.int .i64 T) ∧ x.cell? ⟨w.heap.size, 2, none⟩ = some (.int .i64 N) ∧ Below w8.heap.size w8 x)) (by kernel_rfl) ?_ (fun hHeld => ?_)
      · try dsimp only
        exact HSx.out _ ((Below.refl _ _).drew)
      refine wpAnyH_take (i := 0) (oi := ⟨some 45, _, _, _, _, _⟩) (v := ?_) rfl (by kernel_rfl) (by kernel_rfl) (by kernel_rfl) (fun _ _ _ h => h) (Or.inl ⟨by rfl, ?_⟩) (by assumption) ?_
      rotate_left
      · intro w hSw
        try dsimp only at hSw
        go_simp
        try with_reducible rfl
      simp only [Act.put, List.setIfInBounds_toArray, List.set_cons_zero, List.set_cons_succ]
      refine wpAnyH_take (i := 1) (oi := ⟨some 46, _, _, _, _, _⟩) (v := ?_) rfl (by kernel_rfl) (by kernel_rfl) (by kernel_rfl) (fun _ _ _ h => h) (Or.inl ⟨by rfl, ?_⟩) (by assumption) ?_
      rotate_left
      · intro w hSw
        try dsimp only at hSw
        go_simp
        try with_reducible rfl
      simp only [Act.put, List.setIfInBounds_toArray, List.set_cons_zero, List.set_cons_succ]
      refine wpAnyH_ready (rs := [2]) (by kernel_rfl) (by simp) ?_
      refine AllReadyH.cons rfl (fun K hK => ?_) AllReadyH.nil
      go_simp
      go_wp2_with (first | (go_at_call 8; refine (HTo.out _ (acc_w8.out.trans ((hHeld.2.2.2.2.2.2).mono acc_w8.out.size))).mono ?_; rintro e w9 ⟨g3, rfl, og3, hb9⟩; have b9 := (hHeld.2.2.2.2.2.2).trans (hb9.mono (hHeld.2.2.2.2.2.2).size)))
      refine hK.out _ _ ?_ (fun hHeld => ?_)
      · try dsimp only
        exact HSx.out _ b9
      clear hK K
      refine wpAnyH_ready (rs := [3]) (by kernel_rfl) (by simp) ?_
      refine AllReadyH.cons rfl (fun K hK => ?_) AllReadyH.nil
      go_simp
      go_wp2_with (first | (go_at_call 11; refine (HEx.out _ g2 g3 (oX_w8.out.row.later (hHeld.2.2.2.2.2.2)) og3.row).mono ?_; rintro e w10 ⟨rfl, hb10⟩; have b10 := (hHeld.2.2.2.2.2.2).trans (hb10.mono (hHeld.2.2.2.2.2.2).size)))
      refine hK.out _ _ ?_ (fun hHeld => ?_)
      · try dsimp only
        exact HSx.out _ b10
      clear hK K
      refine wpAnyH_take (i := 4) (oi := ⟨some 49, _, _, _, _, _⟩) (v := ?_) rfl (by kernel_rfl) (by kernel_rfl) (by kernel_rfl) (fun _ _ _ h => h) (Or.inl ⟨by rfl, ?_⟩) (by assumption) ?_
      rotate_left
      · intro w hSw
        try dsimp only at hSw
        go_simp
        try with_reducible rfl
      simp only [Act.put, List.setIfInBounds_toArray, List.set_cons_zero, List.set_cons_succ]
      have HE := hidP (hHeld.2.2.2.2.2.2)
      refine wpAnyH_done (by kernel_rfl) ?_ _
      clear hHeld
      go_wp2_with fail
      go_ret
      exact ⟨rfl, acc_w8.out.trans (HE.out.mono acc_w8.out.size)⟩
  · rw [szT_no ht] at HSz
    clear hP hn hst ht
    go_enter Tryd.func5, Tryd.ntmps5
    go_wp2_with fail
    refine (HSz.out _ ((alloc_below w _).alloc (by simp) _)).mono ?_
    rintro e w2 ⟨rfl, hb2⟩
    go_wp2_with fail
    go_ret
    exact ⟨rfl, ((alloc_below w _).alloc (by simp) _).trans (hb2.mono (by simp; omega))⟩

theorem Tryd.et : Tryd.prog.globalNamed "errors.errorType" = some 0 := by kernel_rfl
theorem Tryd.rt : (Tryd.prog.cutTypes.find? (·.1 == "internal/reflectlite.rtype")).map (·.2) = some 101 := by kernel_rfl
theorem Tryd.oneRow : ((List.range 176).filter fun t => Tryd.prog.rowNamed t [101, 114, 114, 111, 114]) = [54] := by kernel_rfl
theorem Tryd.sizeT : Tryd.prog.types.size = 176 := by kernel_rfl
/-- What the row's list gives: the one variable's cell. -/
theorem glob_of {W : World} (h : laidMetH Tryd.prog Rows.fnExactHolderRow.laid W) : GlobE W := by
  have h' : laidMet Tryd.prog [] W ∧ handlesMet Tryd.prog Rows.fnExactHolderRow.laid W := h
  obtain ⟨name, u, ty, e1, e2, e3, e4, e5⟩ := h'.2 _ (List.mem_singleton.2 rfl)
  have en : name = [101, 114, 114, 111, 114] := (Option.some.inj e1).symm
  subst en
  obtain rfl := Option.some.inj (Tryd.rt.symm.trans e2)
  have hm : ty ∈ (List.range 176).filter fun t => Tryd.prog.rowNamed t [101, 114, 114, 111, 114] := List.mem_filter.2 ⟨List.mem_range.2 (by rw [← Tryd.sizeT]; exact e3), e4⟩
  rw [Tryd.oneRow] at hm
  obtain rfl := List.mem_singleton.1 hm
  have hh : typeHandle Tryd.prog 54 = .pointer (some ⟨1, 54, none⟩) := by kernel_rfl
  rw [hh] at e5
  simpa [GlobE] using World.var?_cell Tryd.et e5 0

/-- A world for the witness: the settled one, the variable's cell laid. -/
noncomputable def laidWorld (os : Os) : World :=
  let w0 := World.holding Tryd.prog os ⟨#[], #[], []⟩
  { w0 with heap := w0.heap.modify 0 fun
      | .cells _ t frozen => .cells #[.iface 101 (.agg #[.pointer (some ⟨1, 54, none⟩)])] t frozen
      | o => o }
theorem laidWorld_met (os : Os) (args : Array Value) : laidMetH Tryd.prog Rows.fnExactHolderRow.laid ((laidWorld os).forCall (fun _ _ => 0) ⟨#[], args, []⟩).memory :=
  laidMetH_of_parts (laidMet_nil _ _) (by kernel_rfl)

set_option maxRecDepth 100000 in
theorem holder_lifted (os : Os) (started : os.Started) (H : Type) (enc : TypeId × Value → H) :
    ReturnsInHanded {} Tryd.checked os 5 .any (fun w args => (Rows.fnExactHolderSpec.pre enc Tryd.prog Tryd.f5 [] false w args ∧ laidMetH Tryd.prog Rows.fnExactHolderRow.laid w) ∧ sizedMet enc Tryd.prog Tryd.f5 (OpenSpec.ofChange Rows.fnExactHolderSpec) false w args)
      (Rows.fnExactHolderSpec.post enc Tryd.prog Tryd.f5 false true false false) := by
  refine returnsInHanded_of_change_and (C := Tryd.checked) (X := fun w _ => laidMetH Tryd.prog Rows.fnExactHolderRow.laid w) (fun _ _ _ hh h => h.of_heap hh) Tryd.ownB6 started (by kernel_rfl) Tryd.func5
    (ChangeSpec.witness_at (enc := enc) (C := Tryd.checked) (os := os) (X := fun w _ => laidMetH Tryd.prog Rows.fnExactHolderRow.laid w) false (laidWorld os) #[.agg #[.slice none 0 0, .int .i64 0, .int .i64 0], .agg #[.bool false, .int .i64 0, .int .i64 0], .int .i64 0] 8 rfl (by kernel_rfl) (by kernel_rfl) (by kernel_rfl) (by kernel_rfl) (by kernel_rfl) (laidWorld_met os _)) ?_
  intro W base args ds gs before hval0 hW _ _ hL _
  have hval : ∀ (j : Nat) t v, Tryd.f5.params[j]? = some t → args[j]? = some v → Value.okWide Tryd.prog W .any base t v := hval0
  have hW' := hW
  obtain ⟨p, q, hA0, hV, rfl, _, _⟩ := hW
  have hA : DataW.TrodAll enc Tryd.prog W 0 (fun _ => true) true Tryd.f5.params.toList args.toList ds p := hA0
  rw [Tryd.params5] at hA hval
  obtain ⟨v0, v1, v2, d0, d1, d2, p0, p1, p2, rfl, rfl, rfl, h0, h1, h2⟩ := trodAll_three hA
  obtain ⟨rfl, rfl⟩ := trodVars_none hV
  obtain ⟨a, n, c, T, N, ls, rfl, hn, hP, h9, hst, _, _⟩ := openBook (hval 0 24 v0 rfl rfl) h0
  obtain ⟨ad, rfl⟩ := openOneAd (hval 1 26 v1 rfl rfl) h1
  obtain ⟨tk, rfl, rfl, rfl, wtk⟩ := open_int Tryd.underlying3 (hval 2 3 v2 rfl rfl) h2
  clear hA0 hval0
  simp only [List.append_nil] at hW'
  have hg := glob_of hL
  have hlt : ∀ x ∈ p0 ++ p1, x.block < W.heap.size := fun x hx => by have := hW'.lt x (by simpa using hx); exact this
  have hlt0 : ∀ x ∈ p0, x.block < W.heap.size := fun x hx => hlt x (List.mem_append_left _ hx)
  have hlt1 : ∀ x ∈ p1, x.block < W.heap.size := fun x hx => hlt x (List.mem_append_right _ hx)
  refine (lawHolder a n c T N ls ad tk W hn hP h9 hst hg).mono fun e W' ⟨he, hb⟩ => ?_
  subst he
  exact ⟨_, rfl, ⟨_, _, _, [], _, [], hW', trodAll_mk1 (shut_bool Tryd.underlying4 true), trodAll_mk3 (Below.trod Tryd.laidOutB6 (by kernel_rfl) (of_decide_eq_true (by kernel_rfl)) h0 hb hlt0) (Below.trod Tryd.laidOutB6 (by kernel_rfl) (of_decide_eq_true (by kernel_rfl)) h1 hb hlt1) (shut_int Tryd.underlying3 wtk), rfl, hb.frame _, fun h => by cases h⟩⟩


theorem holder_said : Rows.FnExactHolderSaid :=
  OpenClaim.holds_of_wide 5 Tryd.f5 rfl rfl rfl rfl rfl rfl rfl ⟨rfl, rfl, rfl, rfl, rfl⟩ rfl rfl rfl rfl rfl (by kernel_rfl) Tryd.func5 (by kernel_rfl)
    (of_decide_eq_true (by kernel_rfl)) (by unfold Func.isWrapper; rw [if_neg (of_decide_eq_false (by kernel_rfl))]; exact ⟨rfl, rfl⟩)
    (fun os started H enc _ => holder_lifted os started H enc)

theorem plainD (f : FuncId) (fn : Func) (hf : Tryd.pinned.checked.prog.funcNamed "loop.example/g00113/laws.FnExactHolder" = some f) (hfn : Tryd.pinned.checked.prog.funcs[f]? = some fn) :
    true = Tryd.pinned.checked.prog.looks [] ∧ ∀ (j : Nat) t, fn.params[j]? = some t → Tryd.pinned.checked.prog.wantsStandIn t = false := by
  obtain rfl : f = 5 := Option.some.inj ((show Tryd.prog.funcNamed "loop.example/g00113/laws.FnExactHolder" = some 5 by kernel_rfl).symm.trans hf) |>.symm
  obtain rfl : fn = Tryd.f5 := (Option.some.inj (Tryd.func5.symm.trans hfn)).symm
  refine ⟨by kernel_rfl, fun j t ht => ?_⟩
  rw [Tryd.params5] at ht
  have hm := Array.mem_of_getElem? ht
  simp at hm
  rcases hm with rfl | rfl | rfl
  all_goals (first | exact (show Tryd.prog.wantsStandIn _ = false by kernel_rfl))

theorem holder_card : Rows.FnExactHolderCardSaid :=
  Claim7.holds_tied_plain_at .later [] _ _ _ _ holder_said (fun _ h => by cases h) (by kernel_rfl) (fun _ h => by cases h) fnExactHolder_row_tie rfl ⟨rfl, rfl⟩ (by kernel_rfl) rfl plainD (by kernel_rfl)

end Go.Proofs.YtgackacnlnagmaaDoor
