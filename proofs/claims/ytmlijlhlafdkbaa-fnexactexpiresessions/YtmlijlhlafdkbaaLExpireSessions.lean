/-
  For every desk and every time the two ExpireSessions answer alike, in rows of their own, and leave the desk as it was, so the exact law of ExpireSessions returns true; no condition.
-/
import Derived.Test.YtmlijlhlafdkbaaV7SEx
import Derived.Test.YtmlijlhlafdkbaaV7Int
import Derived.ProofKit
import Derived.Lib.SmallJoins
import Derived.Carry
import Derived.Deep.Slices
import Derived.ChangeMaps5
namespace Go.Proofs.Ytmlijlhlafdkbaa
open Go.ChangeShapes Go.WideShapes Go.ChangeAt Go.RowKit Go.Joins Go.Deep

theorem Try.ownB7 : ownKnob Try.prog.godebug = none := by kernel_rfl
theorem Try.laidOutB7 : laidOutB Try.prog = true := by kernel_rfl
theorem slice_of {H : Type} {enc : TypeId × Value → H} {W : World} {t e : TypeId} {n : Nat} {u : Value} {y : DataW H × List MemPlace} (ht : Try.prog.underlying t = some (.slice e)) (h : DataW.trod enc Try.prog W 0 (fun _ => true) true n t [u] = some y) : ∃ a l c, u = .slice a l c := by
  rcases open_slice ht h with ⟨hcs, _⟩ | ⟨a', len', cap', m, n', D, Plc, hcs, _⟩
  · simp at hcs; exact ⟨_, _, _, hcs⟩
  · simp at hcs; exact ⟨_, _, _, hcs⟩
theorem Try.cellsDesk : Try.prog.cellsOf 24 = 2 := by kernel_rfl
set_option maxRecDepth 100000 in
/-- A desk that came in. -/
theorem openDesk {H : Type} {enc : TypeId × Value → H} {W : World} {r : Reach} {b0 : Nat} {v : Value} {d : DataW H} {p : List MemPlace} (hv : Value.okWide Try.prog W r b0 24 v)
    (h : DataW.Trod enc Try.prog W 0 (fun _ => true) true 24 v d p) : ∃ (a : Option Addr) (n c : Nat) (N : Int) (ls : List Ss), v = .agg #[.slice a n c, .int .i64 N] ∧ n = ls.length ∧ RowG KSs W a ls ∧ n ≤ 9223372036854775807 ∧ (∀ q ∈ ls, q.t.size ≤ 9223372036854775807) ∧ (Lit.int .i64 N).wf = true := by
  obtain ⟨v0, v1, y0, y1, n, rfl, rfl, rfl, t0, t1⟩ := open_agg2 Try.underlying24 (by kernel_rfl) Try.cellsDesk hv h
  obtain ⟨a, n', c, rfl⟩ := slice_of Try.underlying22 t0
  obtain ⟨ls, e1, l1, r1, s1⟩ := openSs (enc := enc) (W := W) (a := a) (len := n') (cap := c) (d := y0.1) (p := y0.2) ⟨n, by simpa [Value.cells] using t0⟩
  obtain ⟨N, eN, _, wN⟩ := DataW.trod_int Try.underlying3 t1
  simp at eN
  subst eN
  exact ⟨a, n', c, N, ls, rfl, e1.symm, r1, l1, s1, wN⟩

theorem ex_both (n : Nat) (N : Int) (ls : List Ss) (hn : n = ls.length) (hl : n ≤ 1048576) (now : Int) :
    ∃ (LS : List Ss) (nL : Nat) (GS : List Int) (nG : Nat), nL = LS.length ∧ nG = GS.length ∧ nL ≤ 1048576 ∧ nG ≤ 1048576 ∧ (∀ (g : Nat) (W : World), RowG KSs W (some ⟨g, 0, none⟩) ls → Calls Try.prog 24 #[.agg #[.slice (some ⟨g, 0, none⟩) n n, .int .i64 N], .int .i64 now] W fun e w' => ∃ a' c' b' d', e = .returned (.tuple #[.agg #[.slice a' nL c', .int .i64 N], .slice b' nG d']) ∧ OwnG KSs 52 w' W.heap.size (.slice a' nL c') LS ∧ OwnG KI 3 w' W.heap.size (.slice b' nG d') GS ∧ (∀ k, (Value.slice a' nL c').ownBlock = some k → (Value.slice b' nG d').ownBlock ≠ some k) ∧ Below W.heap.size W w') ∧ (∀ (g : Nat) (W : World), RowG KSs W (some ⟨g, 0, none⟩) ls → Calls Try.prog 25 #[.agg #[.slice (some ⟨g, 0, none⟩) n n, .int .i64 N], .int .i64 now] W fun e w' => ∃ a' c' b' d', e = .returned (.tuple #[.agg #[.slice a' nL c', .int .i64 N], .slice b' nG d']) ∧ OwnG KSs 52 w' W.heap.size (.slice a' nL c') LS ∧ OwnG KI 3 w' W.heap.size (.slice b' nG d') GS ∧ (∀ k, (Value.slice a' nL c').ownBlock = some k → (Value.slice b' nG d').ownBlock ≠ some k) ∧ Below W.heap.size W w') := by
  cases hr : dkB ls N
  · exact ⟨ls, n, [], 0, hn, rfl, hl, by omega, fun g W e1 => sEx_no _ n n N ls W hn e1 (fun h => by cases h) hl now hr, fun g W e1 => iEx_no _ n n N ls W hn e1 hl now hr⟩
  · have h := stay_len now ls
    exact ⟨stayS now ls, (stayS now ls).length, goneS now ls, (goneS now ls).length, rfl, rfl, by omega, by omega, fun g W e1 => sEx_yes _ n n N ls W hn e1 (fun h => by cases h) hl now hr, fun g W e1 => iEx_yes _ n n N ls W hn e1 hl now hr⟩

set_option maxRecDepth 10000 in
set_option maxHeartbeats 8000000 in
theorem lawExpireSessions (a : Option Addr) (n c : Nat) (N : Int) (ls : List Ss) (now : Int) (w : World) (hn : n = ls.length) (hP : RowG KSs w a ls) (h9 : n ≤ 9223372036854775807) (hst : ∀ q ∈ ls, q.t.size ≤ 9223372036854775807) :
    Calls Try.prog 8 #[.agg #[.slice a n c, .int .i64 N], .int .i64 now] w fun e w' => e = .returned (.bool true) ∧ Below w.heap.size w w' := by
  have HSz := hidP (fun W h => szDesk_any a n c N ls W hn (hP.later h) h9 hst)
  by_cases ht : totD ls ≤ 1048576
  · rw [szT_yes ht] at HSz
    have hl : n ≤ 1048576 := by unfold totD at ht; omega
    have HTo := hidP (fun W h => toDesk_any a n c N ls W hn (hP.later h) hl)
    obtain ⟨LS, nL, GS, nG, hnL, hnG, hlL, hlG, hSpec, hImpl⟩ := ex_both n N ls hn hl now
    have HSp := hidP hSpec
    have HIm := hidP hImpl
    have HEx := hidP (fun W g g' e1 e2 => eqDesk_same (some ⟨g, 0, none⟩) (some ⟨g', 0, none⟩) n n n N ls W hn e1 e2 (by omega))
    have HEq := hidP (fun W a c a' c' e1 e2 => eqDesk_same a a' nL c c' N LS W hnL e1 e2 (by omega))
    have HEG := hidP (fun W a c a' c' e1 e2 => eqIntS_same a a' nG c c' GS W hnG e1 e2 (by omega))
    have HMx := hidP (fun W g B e1 => markDesk_any (some ⟨g, 0, none⟩) n n B N ls 1 W hn e1 (by omega) (by omega) (by omega))
    have HMg := hidP (fun W a c B e1 => markDesk_any a nL c B N LS 1 W hnL e1 (by omega) (by omega) (by omega))
    have HMG := hidP (fun W a c B e1 => markIntS_any a nG c B GS (1 + 4 * (nL : Int)) W hnG e1 (by omega) (by omega) (by omega))
    have HHg := hidP (fun W a c e1 => heldDesk_any a nL c N 1 W e1 (by omega) (by omega) (by omega))
    have HHG := hidP (fun W a c e1 => heldIntS_any a c nG (1 + 4 * (nL : Int)) W e1 (by omega) (by omega) (by omega))
    have d1 : decide (1048576 - totD ls < 0) = false := decide_eq_false (by omega)
    have d2 : ¬ (1048576 - totD ls < 0) := by omega
    generalize 1048576 - totD ls = z at *
    have m1 : decide (1 + 4 * (n : Int) < 0) = false := decide_eq_false (by omega)
    have m2 : decide (1 + 4 * (nL : Int) < 0) = false := decide_eq_false (by omega)
    have m3 : decide (1 + 4 * (nL : Int) + (nG : Int) < 0) = false := decide_eq_false (by omega)
    clear hP hn hst ht hSpec hImpl hnL hnG
    go_enter Try.func8, Try.ntmps8
    go_wp2_with fail
    obtain ⟨ab0_W1, ab1_W1⟩ := box2D w 24 (.slice a n c) (.int .i64 N)
    have abF_W1 : ∀ o, (w.alloc (.cells #[.slice a n c, .int .i64 N] 24)).frozen? ⟨w.heap.size, o, none⟩ = false := fun o => by simp [go_sem]
    have abL_W1 : w.heap.size < (w.alloc (.cells #[.slice a n c, .int .i64 N] 24)).heap.size := by simp
    have ab_W1 := alloc_below w (.cells #[.slice a n c, .int .i64 N] 24)
    have as_W1 : Hid ((w.alloc (.cells #[.slice a n c, .int .i64 N] 24)).heap.size = w.heap.size + 1) := hidP (by simp)
    generalize w.alloc (.cells #[.slice a n c, .int .i64 N] 24) = W1 at *
    have acc_W1 := hidP (ab_W1)
    have sz_W1 : Hid (w.heap.size ≤ W1.heap.size) := hidP ab_W1.size
    clear ab_W1 
    refine (HSz.out _ acc_W1.out).mono ?_
    rintro e w2 ⟨rfl, hb2⟩
    have ab0_w2 := (hb2.cell abL_W1).trans ab0_W1
    have ab1_w2 := (hb2.cell abL_W1).trans ab1_W1
    have abF_w2 : ∀ o, w2.frozen? ⟨w.heap.size, o, none⟩ = false := fun o => (hb2.frozen abL_W1).trans (abF_W1 o)
    have abL_w2 : w.heap.size < w2.heap.size := Nat.lt_of_lt_of_le abL_W1 hb2.size
    have acc_w2 := hidP (acc_W1.out.trans (hb2.mono acc_W1.out.size))
    have sz_w2 : Hid (W1.heap.size ≤ w2.heap.size) := hidP hb2.size
    clear hb2 ab0_W1 ab1_W1 abF_W1 abL_W1 acc_W1
    go_wp2_with fail
    refine (HTo.out _ acc_w2.out).mono ?_
    rintro e w3 ⟨g1, rfl, og1, hb3⟩
    have O1 := hidP og1.row
    clear og1
    have ab0_w3 := (hb3.cell abL_w2).trans ab0_w2
    have ab1_w3 := (hb3.cell abL_w2).trans ab1_w2
    have abF_w3 : ∀ o, w3.frozen? ⟨w.heap.size, o, none⟩ = false := fun o => (hb3.frozen abL_w2).trans (abF_w2 o)
    have abL_w3 : w.heap.size < w3.heap.size := Nat.lt_of_lt_of_le abL_w2 hb3.size
    have acc_w3 := hidP (acc_w2.out.trans (hb3.mono acc_w2.out.size))
    have sz_w3 : Hid (w2.heap.size ≤ w3.heap.size) := hidP hb3.size
    clear hb3 ab0_w2 ab1_w2 abF_w2 abL_w2 acc_w2
    go_wp2_with fail
    refine (HSp.out g1 _ O1.out).mono ?_
    rintro e w4 ⟨A4, C4, B4, D4, rfl, oL, oG, hne, hb4⟩
    have OL := hidP oL
    have OG := hidP oG
    clear oL oG hne
    have ab0_w4 := (hb4.cell abL_w3).trans ab0_w3
    have ab1_w4 := (hb4.cell abL_w3).trans ab1_w3
    have abF_w4 : ∀ o, w4.frozen? ⟨w.heap.size, o, none⟩ = false := fun o => (hb4.frozen abL_w3).trans (abF_w3 o)
    have abL_w4 : w.heap.size < w4.heap.size := Nat.lt_of_lt_of_le abL_w3 hb4.size
    have acc_w4 := hidP (acc_w3.out.trans (hb4.mono acc_w3.out.size))
    have sz_w4 : Hid (w3.heap.size ≤ w4.heap.size) := hidP hb4.size
    clear hb4 ab0_w3 ab1_w3 abF_w3 abL_w3 acc_w3
    have oW_w4 := hidP (OL.out)
    have lhW : Hid (∀ k, (Value.slice A4 nL C4).ownBlock = some k → w3.heap.size ≤ k ∧ k < w4.heap.size) := hidP (fun k hk => OwnG.lt oW_w4.out k hk)
    have oV_w4 := hidP (OG.out)
    have lhV : Hid (∀ k, (Value.slice B4 nG D4).ownBlock = some k → w3.heap.size ≤ k ∧ k < w4.heap.size) := hidP (fun k hk => OwnG.lt oV_w4.out k hk)
    clear OL OG
    go_wp2_with fail
    clear O1
    obtain ⟨wa0_W5, wa1_W5⟩ := box2D w4 29 (.slice A4 nL C4) (.int .i64 N)
    have waF_W5 : ∀ o, (w4.alloc (.cells #[.slice A4 nL C4, .int .i64 N] 29)).frozen? ⟨w4.heap.size, o, none⟩ = false := fun o => by simp [go_sem]
    have waL_W5 : w4.heap.size < (w4.alloc (.cells #[.slice A4 nL C4, .int .i64 N] 29)).heap.size := by simp
    have ab_W5 := alloc_below w4 (.cells #[.slice A4 nL C4, .int .i64 N] 29)
    have as_W5 : Hid ((w4.alloc (.cells #[.slice A4 nL C4, .int .i64 N] 29)).heap.size = w4.heap.size + 1) := hidP (by simp)
    generalize w4.alloc (.cells #[.slice A4 nL C4, .int .i64 N] 29) = W5 at *
    have ab0_W5 := (ab_W5.cell abL_w4).trans ab0_w4
    have ab1_W5 := (ab_W5.cell abL_w4).trans ab1_w4
    have abF_W5 : ∀ o, W5.frozen? ⟨w.heap.size, o, none⟩ = false := fun o => (ab_W5.frozen abL_w4).trans (abF_w4 o)
    have abL_W5 : w.heap.size < W5.heap.size := Nat.lt_of_lt_of_le abL_w4 ab_W5.size
    have oW_W5 := hidP (OwnG.later oW_w4.out ab_W5)
    have oV_W5 := hidP (OwnG.later oV_w4.out ab_W5)
    have acc_W5 := hidP (acc_w4.out.trans (ab_W5.mono acc_w4.out.size))
    have sz_W5 : Hid (w4.heap.size ≤ W5.heap.size) := hidP ab_W5.size
    clear ab_W5 ab0_w4 ab1_w4 abF_w4 abL_w4 oW_w4 oV_w4 acc_w4
    refine (HTo.out _ acc_W5.out).mono ?_
    rintro e w6 ⟨g2, rfl, og2, hb6⟩
    have OX := hidP og2
    clear og2
    have ab0_w6 := (hb6.cell abL_W5).trans ab0_W5
    have ab1_w6 := (hb6.cell abL_W5).trans ab1_W5
    have abF_w6 : ∀ o, w6.frozen? ⟨w.heap.size, o, none⟩ = false := fun o => (hb6.frozen abL_W5).trans (abF_W5 o)
    have abL_w6 : w.heap.size < w6.heap.size := Nat.lt_of_lt_of_le abL_W5 hb6.size
    have wa0_w6 := (hb6.cell waL_W5).trans wa0_W5
    have wa1_w6 := (hb6.cell waL_W5).trans wa1_W5
    have waF_w6 : ∀ o, w6.frozen? ⟨w4.heap.size, o, none⟩ = false := fun o => (hb6.frozen waL_W5).trans (waF_W5 o)
    have waL_w6 : w4.heap.size < w6.heap.size := Nat.lt_of_lt_of_le waL_W5 hb6.size
    have oW_w6 := hidP (OwnG.later oW_W5.out hb6)
    have oV_w6 := hidP (OwnG.later oV_W5.out hb6)
    have acc_w6 := hidP (acc_W5.out.trans (hb6.mono acc_W5.out.size))
    have sz_w6 : Hid (W5.heap.size ≤ w6.heap.size) := hidP hb6.size
    clear hb6 ab0_W5 ab1_W5 abF_W5 abL_W5 wa0_W5 wa1_W5 waF_W5 waL_W5 oW_W5 oV_W5 acc_W5
    have oX_w6 := hidP (OX.out)
    have lhX : Hid (∀ k, (Value.slice (some ⟨g2, 0, none⟩) n n).ownBlock = some k → W5.heap.size ≤ k ∧ k < w6.heap.size) := hidP (fun k hk => OwnG.lt oX_w6.out k hk)
    clear OX
    go_wp2_with fail
    obtain ⟨xa0_W7, xa1_W7⟩ := box2D w6 29 (.slice (some ⟨g2, 0, none⟩) n n) (.int .i64 N)
    have xaF_W7 : ∀ o, (w6.alloc (.cells #[.slice (some ⟨g2, 0, none⟩) n n, .int .i64 N] 29)).frozen? ⟨w6.heap.size, o, none⟩ = false := fun o => by simp [go_sem]
    have xaL_W7 : w6.heap.size < (w6.alloc (.cells #[.slice (some ⟨g2, 0, none⟩) n n, .int .i64 N] 29)).heap.size := by simp
    have ab_W7 := alloc_below w6 (.cells #[.slice (some ⟨g2, 0, none⟩) n n, .int .i64 N] 29)
    have as_W7 : Hid ((w6.alloc (.cells #[.slice (some ⟨g2, 0, none⟩) n n, .int .i64 N] 29)).heap.size = w6.heap.size + 1) := hidP (by simp)
    generalize w6.alloc (.cells #[.slice (some ⟨g2, 0, none⟩) n n, .int .i64 N] 29) = W7 at *
    have ab0_W7 := (ab_W7.cell abL_w6).trans ab0_w6
    have ab1_W7 := (ab_W7.cell abL_w6).trans ab1_w6
    have abF_W7 : ∀ o, W7.frozen? ⟨w.heap.size, o, none⟩ = false := fun o => (ab_W7.frozen abL_w6).trans (abF_w6 o)
    have abL_W7 : w.heap.size < W7.heap.size := Nat.lt_of_lt_of_le abL_w6 ab_W7.size
    have wa0_W7 := (ab_W7.cell waL_w6).trans wa0_w6
    have wa1_W7 := (ab_W7.cell waL_w6).trans wa1_w6
    have waF_W7 : ∀ o, W7.frozen? ⟨w4.heap.size, o, none⟩ = false := fun o => (ab_W7.frozen waL_w6).trans (waF_w6 o)
    have waL_W7 : w4.heap.size < W7.heap.size := Nat.lt_of_lt_of_le waL_w6 ab_W7.size
    have oW_W7 := hidP (OwnG.later oW_w6.out ab_W7)
    have oV_W7 := hidP (OwnG.later oV_w6.out ab_W7)
    have oX_W7 := hidP (OwnG.later oX_w6.out ab_W7)
    have acc_W7 := hidP (acc_w6.out.trans (ab_W7.mono acc_w6.out.size))
    have sz_W7 : Hid (w6.heap.size ≤ W7.heap.size) := hidP ab_W7.size
    clear ab_W7 ab0_w6 ab1_w6 abF_w6 abL_w6 wa0_w6 wa1_w6 waF_w6 waL_w6 oW_w6 oV_w6 oX_w6 acc_w6
    refine (HIm.out g2 _ oX_W7.out.row).mono ?_
    rintro e w8 ⟨A8, C8, B8, D8, rfl, oL, oG, hne, hb8⟩
    have OL := hidP oL
    have OG := hidP oG
    have HN8 := hidP hne
    clear oL oG hne
    have ab0_w8 := (hb8.cell abL_W7).trans ab0_W7
    have ab1_w8 := (hb8.cell abL_W7).trans ab1_W7
    have abF_w8 : ∀ o, w8.frozen? ⟨w.heap.size, o, none⟩ = false := fun o => (hb8.frozen abL_W7).trans (abF_W7 o)
    have abL_w8 : w.heap.size < w8.heap.size := Nat.lt_of_lt_of_le abL_W7 hb8.size
    have wa0_w8 := (hb8.cell waL_W7).trans wa0_W7
    have wa1_w8 := (hb8.cell waL_W7).trans wa1_W7
    have waF_w8 : ∀ o, w8.frozen? ⟨w4.heap.size, o, none⟩ = false := fun o => (hb8.frozen waL_W7).trans (waF_W7 o)
    have waL_w8 : w4.heap.size < w8.heap.size := Nat.lt_of_lt_of_le waL_W7 hb8.size
    have xa0_w8 := (hb8.cell xaL_W7).trans xa0_W7
    have xa1_w8 := (hb8.cell xaL_W7).trans xa1_W7
    have xaF_w8 : ∀ o, w8.frozen? ⟨w6.heap.size, o, none⟩ = false := fun o => (hb8.frozen xaL_W7).trans (xaF_W7 o)
    have xaL_w8 : w6.heap.size < w8.heap.size := Nat.lt_of_lt_of_le xaL_W7 hb8.size
    have oW_w8 := hidP (OwnG.later oW_W7.out hb8)
    have oV_w8 := hidP (OwnG.later oV_W7.out hb8)
    have oX_w8 := hidP (OwnG.later oX_W7.out hb8)
    have acc_w8 := hidP (acc_W7.out.trans (hb8.mono acc_W7.out.size))
    have sz_w8 : Hid (W7.heap.size ≤ w8.heap.size) := hidP hb8.size
    clear hb8 ab0_W7 ab1_W7 abF_W7 abL_W7 wa0_W7 wa1_W7 waF_W7 waL_W7 xa0_W7 xa1_W7 xaF_W7 xaL_W7 oW_W7 oV_W7 oX_W7 acc_W7
    have oG_w8 := hidP (OL.out)
    have lhG : Hid (∀ k, (Value.slice A8 nL C8).ownBlock = some k → W7.heap.size ≤ k ∧ k < w8.heap.size) := hidP (fun k hk => OwnG.lt oG_w8.out k hk)
    have oH_w8 := hidP (OG.out)
    have lhH : Hid (∀ k, (Value.slice B8 nG D8).ownBlock = some k → W7.heap.size ≤ k ∧ k < w8.heap.size) := hidP (fun k hk => OwnG.lt oH_w8.out k hk)
    clear OL OG
    go_wp2_with fail
    obtain ⟨ga0_W9, ga1_W9⟩ := box2D w8 29 (.slice A8 nL C8) (.int .i64 N)
    have gaF_W9 : ∀ o, (w8.alloc (.cells #[.slice A8 nL C8, .int .i64 N] 29)).frozen? ⟨w8.heap.size, o, none⟩ = false := fun o => by simp [go_sem]
    have gaL_W9 : w8.heap.size < (w8.alloc (.cells #[.slice A8 nL C8, .int .i64 N] 29)).heap.size := by simp
    have ab_W9 := alloc_below w8 (.cells #[.slice A8 nL C8, .int .i64 N] 29)
    have as_W9 : Hid ((w8.alloc (.cells #[.slice A8 nL C8, .int .i64 N] 29)).heap.size = w8.heap.size + 1) := hidP (by simp)
    generalize w8.alloc (.cells #[.slice A8 nL C8, .int .i64 N] 29) = W9 at *
    have ab0_W9 := (ab_W9.cell abL_w8).trans ab0_w8
    have ab1_W9 := (ab_W9.cell abL_w8).trans ab1_w8
    have abF_W9 : ∀ o, W9.frozen? ⟨w.heap.size, o, none⟩ = false := fun o => (ab_W9.frozen abL_w8).trans (abF_w8 o)
    have abL_W9 : w.heap.size < W9.heap.size := Nat.lt_of_lt_of_le abL_w8 ab_W9.size
    have wa0_W9 := (ab_W9.cell waL_w8).trans wa0_w8
    have wa1_W9 := (ab_W9.cell waL_w8).trans wa1_w8
    have waF_W9 : ∀ o, W9.frozen? ⟨w4.heap.size, o, none⟩ = false := fun o => (ab_W9.frozen waL_w8).trans (waF_w8 o)
    have waL_W9 : w4.heap.size < W9.heap.size := Nat.lt_of_lt_of_le waL_w8 ab_W9.size
    have xa0_W9 := (ab_W9.cell xaL_w8).trans xa0_w8
    have xa1_W9 := (ab_W9.cell xaL_w8).trans xa1_w8
    have xaF_W9 : ∀ o, W9.frozen? ⟨w6.heap.size, o, none⟩ = false := fun o => (ab_W9.frozen xaL_w8).trans (xaF_w8 o)
    have xaL_W9 : w6.heap.size < W9.heap.size := Nat.lt_of_lt_of_le xaL_w8 ab_W9.size
    have oW_W9 := hidP (OwnG.later oW_w8.out ab_W9)
    have oV_W9 := hidP (OwnG.later oV_w8.out ab_W9)
    have oX_W9 := hidP (OwnG.later oX_w8.out ab_W9)
    have oG_W9 := hidP (OwnG.later oG_w8.out ab_W9)
    have oH_W9 := hidP (OwnG.later oH_w8.out ab_W9)
    have acc_W9 := hidP (acc_w8.out.trans (ab_W9.mono acc_w8.out.size))
    have sz_W9 : Hid (w8.heap.size ≤ W9.heap.size) := hidP ab_W9.size
    clear ab_W9 ab0_w8 ab1_w8 abF_w8 abL_w8 wa0_w8 wa1_w8 waF_w8 waL_w8 xa0_w8 xa1_w8 xaF_w8 xaL_w8 oW_w8 oV_w8 oX_w8 oG_w8 oH_w8 acc_w8
    refine (HEq.out _ A8 C8 A4 C4 oG_W9.out.row oW_W9.out.row).mono ?_
    rintro e w10 ⟨rfl, hb10⟩
    have ab0_w10 := (hb10.cell abL_W9).trans ab0_W9
    have ab1_w10 := (hb10.cell abL_W9).trans ab1_W9
    have abF_w10 : ∀ o, w10.frozen? ⟨w.heap.size, o, none⟩ = false := fun o => (hb10.frozen abL_W9).trans (abF_W9 o)
    have abL_w10 : w.heap.size < w10.heap.size := Nat.lt_of_lt_of_le abL_W9 hb10.size
    have wa0_w10 := (hb10.cell waL_W9).trans wa0_W9
    have wa1_w10 := (hb10.cell waL_W9).trans wa1_W9
    have waF_w10 : ∀ o, w10.frozen? ⟨w4.heap.size, o, none⟩ = false := fun o => (hb10.frozen waL_W9).trans (waF_W9 o)
    have waL_w10 : w4.heap.size < w10.heap.size := Nat.lt_of_lt_of_le waL_W9 hb10.size
    have xa0_w10 := (hb10.cell xaL_W9).trans xa0_W9
    have xa1_w10 := (hb10.cell xaL_W9).trans xa1_W9
    have xaF_w10 : ∀ o, w10.frozen? ⟨w6.heap.size, o, none⟩ = false := fun o => (hb10.frozen xaL_W9).trans (xaF_W9 o)
    have xaL_w10 : w6.heap.size < w10.heap.size := Nat.lt_of_lt_of_le xaL_W9 hb10.size
    have ga0_w10 := (hb10.cell gaL_W9).trans ga0_W9
    have ga1_w10 := (hb10.cell gaL_W9).trans ga1_W9
    have gaF_w10 : ∀ o, w10.frozen? ⟨w8.heap.size, o, none⟩ = false := fun o => (hb10.frozen gaL_W9).trans (gaF_W9 o)
    have gaL_w10 : w8.heap.size < w10.heap.size := Nat.lt_of_lt_of_le gaL_W9 hb10.size
    have oW_w10 := hidP (OwnG.later oW_W9.out hb10)
    have oV_w10 := hidP (OwnG.later oV_W9.out hb10)
    have oX_w10 := hidP (OwnG.later oX_W9.out hb10)
    have oG_w10 := hidP (OwnG.later oG_W9.out hb10)
    have oH_w10 := hidP (OwnG.later oH_W9.out hb10)
    have acc_w10 := hidP (acc_W9.out.trans (hb10.mono acc_W9.out.size))
    have sz_w10 : Hid (W9.heap.size ≤ w10.heap.size) := hidP hb10.size
    clear hb10 ab0_W9 ab1_W9 abF_W9 abL_W9 wa0_W9 wa1_W9 waF_W9 waL_W9 xa0_W9 xa1_W9 xaF_W9 xaL_W9 ga0_W9 ga1_W9 gaF_W9 gaL_W9 oW_W9 oV_W9 oX_W9 oG_W9 oH_W9 acc_W9
    go_wp2_with fail
    refine (HEG.out _ B8 D8 B4 D4 oH_w10.out.row oV_w10.out.row).mono ?_
    rintro e w11 ⟨rfl, hb11⟩
    have ab0_w11 := (hb11.cell abL_w10).trans ab0_w10
    have ab1_w11 := (hb11.cell abL_w10).trans ab1_w10
    have abF_w11 : ∀ o, w11.frozen? ⟨w.heap.size, o, none⟩ = false := fun o => (hb11.frozen abL_w10).trans (abF_w10 o)
    have abL_w11 : w.heap.size < w11.heap.size := Nat.lt_of_lt_of_le abL_w10 hb11.size
    have wa0_w11 := (hb11.cell waL_w10).trans wa0_w10
    have wa1_w11 := (hb11.cell waL_w10).trans wa1_w10
    have waF_w11 : ∀ o, w11.frozen? ⟨w4.heap.size, o, none⟩ = false := fun o => (hb11.frozen waL_w10).trans (waF_w10 o)
    have waL_w11 : w4.heap.size < w11.heap.size := Nat.lt_of_lt_of_le waL_w10 hb11.size
    have xa0_w11 := (hb11.cell xaL_w10).trans xa0_w10
    have xa1_w11 := (hb11.cell xaL_w10).trans xa1_w10
    have xaF_w11 : ∀ o, w11.frozen? ⟨w6.heap.size, o, none⟩ = false := fun o => (hb11.frozen xaL_w10).trans (xaF_w10 o)
    have xaL_w11 : w6.heap.size < w11.heap.size := Nat.lt_of_lt_of_le xaL_w10 hb11.size
    have ga0_w11 := (hb11.cell gaL_w10).trans ga0_w10
    have ga1_w11 := (hb11.cell gaL_w10).trans ga1_w10
    have gaF_w11 : ∀ o, w11.frozen? ⟨w8.heap.size, o, none⟩ = false := fun o => (hb11.frozen gaL_w10).trans (gaF_w10 o)
    have gaL_w11 : w8.heap.size < w11.heap.size := Nat.lt_of_lt_of_le gaL_w10 hb11.size
    have oW_w11 := hidP (OwnG.later oW_w10.out hb11)
    have oV_w11 := hidP (OwnG.later oV_w10.out hb11)
    have oX_w11 := hidP (OwnG.later oX_w10.out hb11)
    have oG_w11 := hidP (OwnG.later oG_w10.out hb11)
    have oH_w11 := hidP (OwnG.later oH_w10.out hb11)
    have acc_w11 := hidP (acc_w10.out.trans (hb11.mono acc_w10.out.size))
    have sz_w11 : Hid (w10.heap.size ≤ w11.heap.size) := hidP hb11.size
    clear hb11 ab0_w10 ab1_w10 abF_w10 abL_w10 wa0_w10 wa1_w10 waF_w10 waL_w10 xa0_w10 xa1_w10 xaF_w10 xaL_w10 ga0_w10 ga1_w10 gaF_w10 gaL_w10 oW_w10 oV_w10 oX_w10 oG_w10 oH_w10 acc_w10
    go_wp2_with fail
    have HSx : Hid (∀ x, Below w11.heap.size w11 x → (x.cell? ⟨w.heap.size, 0, none⟩ = some (.slice a n c) ∧ x.cell? ⟨w.heap.size, 1, none⟩ = some (.int .i64 N) ∧ x.cell? ⟨w6.heap.size, 0, none⟩ = some (.slice (some ⟨g2, 0, none⟩) n n) ∧ x.cell? ⟨w6.heap.size, 1, none⟩ = some (.int .i64 N) ∧ Below w11.heap.size w11 x)) := hidP fun x h =>
      ⟨(h.cell abL_w11).trans ab0_w11, (h.cell abL_w11).trans ab1_w11, (h.cell xaL_w11).trans xa0_w11, (h.cell xaL_w11).trans xa1_w11, h⟩
    refine wp_region_held_drew (S := (fun x => x.cell? ⟨w.heap.size, 0, none⟩ = some (.slice a n c) ∧ x.cell? ⟨w.heap.size, 1, none⟩ = some (.int .i64 N) ∧ x.cell? ⟨w6.heap.size, 0, none⟩ = some (.slice (some ⟨g2, 0, none⟩) n n) ∧ x.cell? ⟨w6.heap.size, 1, none⟩ = some (.int .i64 N) ∧ Below w11.heap.size w11 x)) (by kernel_rfl) ?_ (fun hHeld => ?_)
    · try dsimp only
      exact HSx.out _ ((Below.refl _ _).drew)
    refine wpAnyH_take (i := 0) (oi := ⟨some 46, _, _, _, _, _⟩) (v := ?_) rfl (by kernel_rfl) (by kernel_rfl) (by kernel_rfl) (fun _ _ _ h => h) (Or.inl ⟨by rfl, ?_⟩) (by assumption) ?_
    rotate_left
    · intro w hSw
      try dsimp only at hSw
      go_simp
      try with_reducible rfl
    simp only [Act.put, List.setIfInBounds_toArray, List.set_cons_zero, List.set_cons_succ]
    refine wpAnyH_take (i := 1) (oi := ⟨some 47, _, _, _, _, _⟩) (v := ?_) rfl (by kernel_rfl) (by kernel_rfl) (by kernel_rfl) (fun _ _ _ h => h) (Or.inl ⟨by rfl, ?_⟩) (by assumption) ?_
    rotate_left
    · intro w hSw
      try dsimp only at hSw
      go_simp
      try with_reducible rfl
    simp only [Act.put, List.setIfInBounds_toArray, List.set_cons_zero, List.set_cons_succ]
    refine wpAnyH_ready (rs := [2]) (by kernel_rfl) (by simp) ?_
    refine AllReadyH.cons rfl (fun K hK => ?_) AllReadyH.nil
    go_simp
    go_wp2_with (first | (go_at_call 11; refine (HTo.out _ (acc_w11.out.trans ((hHeld.2.2.2.2).mono acc_w11.out.size))).mono ?_; rintro e w12 ⟨g3, rfl, og3, hb12⟩; have b12 := (hHeld.2.2.2.2).trans (hb12.mono (hHeld.2.2.2.2).size)))
    refine hK.out _ _ ?_ (fun hHeld => ?_)
    · try dsimp only
      exact HSx.out _ b12
    clear hK K
    refine wpAnyH_ready (rs := [3]) (by kernel_rfl) (by simp) ?_
    refine AllReadyH.cons rfl (fun K hK => ?_) AllReadyH.nil
    go_simp
    go_wp2_with (first | (go_at_call 13; refine (HEx.out _ g2 g3 (oX_w11.out.row.later (hHeld.2.2.2.2)) og3.row).mono ?_; rintro e w13 ⟨rfl, hb13⟩; have b13 := (hHeld.2.2.2.2).trans (hb13.mono (hHeld.2.2.2.2).size)))
    refine hK.out _ _ ?_ (fun hHeld => ?_)
    · try dsimp only
      exact HSx.out _ b13
    clear hK K
    refine wpAnyH_take (i := 4) (oi := ⟨some 50, _, _, _, _, _⟩) (v := ?_) rfl (by kernel_rfl) (by kernel_rfl) (by kernel_rfl) (fun _ _ _ h => h) (Or.inl ⟨by rfl, ?_⟩) (by assumption) ?_
    rotate_left
    · intro w hSw
      try dsimp only at hSw
      go_simp
      try with_reducible rfl
    simp only [Act.put, List.setIfInBounds_toArray, List.set_cons_zero, List.set_cons_succ]
    have HE := hidP (hHeld.2.2.2.2)
    refine wpAnyH_done (by kernel_rfl) ?_ _
    clear hHeld
    have hb13' := HE.out
    clear HE hb12 hb13 b12 b13 og3 HSx
    have ab0_w13 := (hb13'.cell abL_w11).trans ab0_w11
    have ab1_w13 := (hb13'.cell abL_w11).trans ab1_w11
    have abF_w13 : ∀ o, w13.frozen? ⟨w.heap.size, o, none⟩ = false := fun o => (hb13'.frozen abL_w11).trans (abF_w11 o)
    have abL_w13 : w.heap.size < w13.heap.size := Nat.lt_of_lt_of_le abL_w11 hb13'.size
    have wa0_w13 := (hb13'.cell waL_w11).trans wa0_w11
    have wa1_w13 := (hb13'.cell waL_w11).trans wa1_w11
    have waF_w13 : ∀ o, w13.frozen? ⟨w4.heap.size, o, none⟩ = false := fun o => (hb13'.frozen waL_w11).trans (waF_w11 o)
    have waL_w13 : w4.heap.size < w13.heap.size := Nat.lt_of_lt_of_le waL_w11 hb13'.size
    have xa0_w13 := (hb13'.cell xaL_w11).trans xa0_w11
    have xa1_w13 := (hb13'.cell xaL_w11).trans xa1_w11
    have xaF_w13 : ∀ o, w13.frozen? ⟨w6.heap.size, o, none⟩ = false := fun o => (hb13'.frozen xaL_w11).trans (xaF_w11 o)
    have xaL_w13 : w6.heap.size < w13.heap.size := Nat.lt_of_lt_of_le xaL_w11 hb13'.size
    have ga0_w13 := (hb13'.cell gaL_w11).trans ga0_w11
    have ga1_w13 := (hb13'.cell gaL_w11).trans ga1_w11
    have gaF_w13 : ∀ o, w13.frozen? ⟨w8.heap.size, o, none⟩ = false := fun o => (hb13'.frozen gaL_w11).trans (gaF_w11 o)
    have gaL_w13 : w8.heap.size < w13.heap.size := Nat.lt_of_lt_of_le gaL_w11 hb13'.size
    have oW_w13 := hidP (OwnG.later oW_w11.out hb13')
    have oV_w13 := hidP (OwnG.later oV_w11.out hb13')
    have oX_w13 := hidP (OwnG.later oX_w11.out hb13')
    have oG_w13 := hidP (OwnG.later oG_w11.out hb13')
    have oH_w13 := hidP (OwnG.later oH_w11.out hb13')
    have acc_w13 := hidP (acc_w11.out.trans (hb13'.mono acc_w11.out.size))
    have sz_w13 : Hid (w11.heap.size ≤ w13.heap.size) := hidP hb13'.size
    clear hb13' ab0_w11 ab1_w11 abF_w11 abL_w11 wa0_w11 wa1_w11 waF_w11 waL_w11 xa0_w11 xa1_w11 xaF_w11 xaL_w11 ga0_w11 ga1_w11 gaF_w11 gaL_w11 oW_w11 oV_w11 oX_w11 oG_w11 oH_w11 acc_w11
    go_wp2_with fail
    refine (HMx.out _ g2 _ oX_w13.out).mono ?_
    rintro e w14 ⟨rfl, om14, hg14⟩
    have OM := hidP om14
    clear om14
    have neab : ∀ k, (Value.slice (some ⟨g2, 0, none⟩) n n).ownBlock = some k → k ≠ w.heap.size := fun k hk => by have h5 := lhX.out k hk; have := as_W1.out; have := sz_W1.out; have := sz_w2.out; have := sz_w3.out; have := sz_w4.out; have := as_W5.out; have := sz_W5.out; have := sz_w6.out; have := as_W7.out; have := sz_W7.out; have := sz_w8.out; have := as_W9.out; have := sz_W9.out; have := sz_w10.out; have := sz_w11.out; have := sz_w13.out; omega
    have ab0_w14 := cell_grown hg14 ab0_w13 neab
    have ab1_w14 := cell_grown hg14 ab1_w13 neab
    have abF_w14 : ∀ o, w14.frozen? ⟨w.heap.size, o, none⟩ = false := fun o => frz_grown hg14 abL_w13 (abF_w13 o) neab
    have abL_w14 : w.heap.size < w14.heap.size := Nat.lt_of_lt_of_le abL_w13 hg14.size
    have newa : ∀ k, (Value.slice (some ⟨g2, 0, none⟩) n n).ownBlock = some k → k ≠ w4.heap.size := fun k hk => by have h5 := lhX.out k hk; have := as_W1.out; have := sz_W1.out; have := sz_w2.out; have := sz_w3.out; have := sz_w4.out; have := as_W5.out; have := sz_W5.out; have := sz_w6.out; have := as_W7.out; have := sz_W7.out; have := sz_w8.out; have := as_W9.out; have := sz_W9.out; have := sz_w10.out; have := sz_w11.out; have := sz_w13.out; omega
    have wa0_w14 := cell_grown hg14 wa0_w13 newa
    have wa1_w14 := cell_grown hg14 wa1_w13 newa
    have waF_w14 : ∀ o, w14.frozen? ⟨w4.heap.size, o, none⟩ = false := fun o => frz_grown hg14 waL_w13 (waF_w13 o) newa
    have waL_w14 : w4.heap.size < w14.heap.size := Nat.lt_of_lt_of_le waL_w13 hg14.size
    have nexa : ∀ k, (Value.slice (some ⟨g2, 0, none⟩) n n).ownBlock = some k → k ≠ w6.heap.size := fun k hk => by have h5 := lhX.out k hk; have := as_W1.out; have := sz_W1.out; have := sz_w2.out; have := sz_w3.out; have := sz_w4.out; have := as_W5.out; have := sz_W5.out; have := sz_w6.out; have := as_W7.out; have := sz_W7.out; have := sz_w8.out; have := as_W9.out; have := sz_W9.out; have := sz_w10.out; have := sz_w11.out; have := sz_w13.out; omega
    have xa0_w14 := cell_grown hg14 xa0_w13 nexa
    have xa1_w14 := cell_grown hg14 xa1_w13 nexa
    have xaF_w14 : ∀ o, w14.frozen? ⟨w6.heap.size, o, none⟩ = false := fun o => frz_grown hg14 xaL_w13 (xaF_w13 o) nexa
    have xaL_w14 : w6.heap.size < w14.heap.size := Nat.lt_of_lt_of_le xaL_w13 hg14.size
    have nega : ∀ k, (Value.slice (some ⟨g2, 0, none⟩) n n).ownBlock = some k → k ≠ w8.heap.size := fun k hk => by have h5 := lhX.out k hk; have := as_W1.out; have := sz_W1.out; have := sz_w2.out; have := sz_w3.out; have := sz_w4.out; have := as_W5.out; have := sz_W5.out; have := sz_w6.out; have := as_W7.out; have := sz_W7.out; have := sz_w8.out; have := as_W9.out; have := sz_W9.out; have := sz_w10.out; have := sz_w11.out; have := sz_w13.out; omega
    have ga0_w14 := cell_grown hg14 ga0_w13 nega
    have ga1_w14 := cell_grown hg14 ga1_w13 nega
    have gaF_w14 : ∀ o, w14.frozen? ⟨w8.heap.size, o, none⟩ = false := fun o => frz_grown hg14 gaL_w13 (gaF_w13 o) nega
    have gaL_w14 : w8.heap.size < w14.heap.size := Nat.lt_of_lt_of_le gaL_w13 hg14.size
    have oW_w14 := hidP (OwnG.grown oW_w13.out hg14 (fun j hj he => by have h5 := lhW.out j hj; have h6 := lhX.out j he; have := as_W1.out; have := sz_W1.out; have := sz_w2.out; have := sz_w3.out; have := sz_w4.out; have := as_W5.out; have := sz_W5.out; have := sz_w6.out; have := as_W7.out; have := sz_W7.out; have := sz_w8.out; have := as_W9.out; have := sz_W9.out; have := sz_w10.out; have := sz_w11.out; have := sz_w13.out; omega))
    have oV_w14 := hidP (OwnG.grown oV_w13.out hg14 (fun j hj he => by have h5 := lhV.out j hj; have h6 := lhX.out j he; have := as_W1.out; have := sz_W1.out; have := sz_w2.out; have := sz_w3.out; have := sz_w4.out; have := as_W5.out; have := sz_W5.out; have := sz_w6.out; have := as_W7.out; have := sz_W7.out; have := sz_w8.out; have := as_W9.out; have := sz_W9.out; have := sz_w10.out; have := sz_w11.out; have := sz_w13.out; omega))
    have oX_w14 := hidP (OM.out)
    have oG_w14 := hidP (OwnG.grown oG_w13.out hg14 (fun j hj he => by have h5 := lhG.out j hj; have h6 := lhX.out j he; have := as_W1.out; have := sz_W1.out; have := sz_w2.out; have := sz_w3.out; have := sz_w4.out; have := as_W5.out; have := sz_W5.out; have := sz_w6.out; have := as_W7.out; have := sz_W7.out; have := sz_w8.out; have := as_W9.out; have := sz_W9.out; have := sz_w10.out; have := sz_w11.out; have := sz_w13.out; omega))
    have oH_w14 := hidP (OwnG.grown oH_w13.out hg14 (fun j hj he => by have h5 := lhH.out j hj; have h6 := lhX.out j he; have := as_W1.out; have := sz_W1.out; have := sz_w2.out; have := sz_w3.out; have := sz_w4.out; have := as_W5.out; have := sz_W5.out; have := sz_w6.out; have := as_W7.out; have := sz_W7.out; have := sz_w8.out; have := as_W9.out; have := sz_W9.out; have := sz_w10.out; have := sz_w11.out; have := sz_w13.out; omega))
    have acc_w14 := hidP (Below.grown acc_w13.out hg14 acc_w13.out.size (fun k hk => by have h5 := lhX.out k hk; have := as_W1.out; have := sz_W1.out; have := sz_w2.out; have := sz_w3.out; have := sz_w4.out; have := as_W5.out; have := sz_W5.out; have := sz_w6.out; have := as_W7.out; have := sz_W7.out; have := sz_w8.out; have := as_W9.out; have := sz_W9.out; have := sz_w10.out; have := sz_w11.out; have := sz_w13.out; omega))
    have sz_w14 : Hid (w13.heap.size ≤ w14.heap.size) := hidP hg14.size
    clear hg14 ab0_w13 ab1_w13 abF_w13 abL_w13 neab wa0_w13 wa1_w13 waF_w13 waL_w13 newa xa0_w13 xa1_w13 xaF_w13 xaL_w13 nexa ga0_w13 ga1_w13 gaF_w13 gaL_w13 nega oW_w13 oV_w13 oX_w13 oG_w13 oH_w13 acc_w13
    clear OM
    go_wp2_with fail
    refine (HEq.out _ A8 C8 A4 C4 oG_w14.out.row oW_w14.out.row).mono ?_
    rintro e w15 ⟨rfl, hb15⟩
    have ab0_w15 := (hb15.cell abL_w14).trans ab0_w14
    have ab1_w15 := (hb15.cell abL_w14).trans ab1_w14
    have abF_w15 : ∀ o, w15.frozen? ⟨w.heap.size, o, none⟩ = false := fun o => (hb15.frozen abL_w14).trans (abF_w14 o)
    have abL_w15 : w.heap.size < w15.heap.size := Nat.lt_of_lt_of_le abL_w14 hb15.size
    have wa0_w15 := (hb15.cell waL_w14).trans wa0_w14
    have wa1_w15 := (hb15.cell waL_w14).trans wa1_w14
    have waF_w15 : ∀ o, w15.frozen? ⟨w4.heap.size, o, none⟩ = false := fun o => (hb15.frozen waL_w14).trans (waF_w14 o)
    have waL_w15 : w4.heap.size < w15.heap.size := Nat.lt_of_lt_of_le waL_w14 hb15.size
    have xa0_w15 := (hb15.cell xaL_w14).trans xa0_w14
    have xa1_w15 := (hb15.cell xaL_w14).trans xa1_w14
    have xaF_w15 : ∀ o, w15.frozen? ⟨w6.heap.size, o, none⟩ = false := fun o => (hb15.frozen xaL_w14).trans (xaF_w14 o)
    have xaL_w15 : w6.heap.size < w15.heap.size := Nat.lt_of_lt_of_le xaL_w14 hb15.size
    have ga0_w15 := (hb15.cell gaL_w14).trans ga0_w14
    have ga1_w15 := (hb15.cell gaL_w14).trans ga1_w14
    have gaF_w15 : ∀ o, w15.frozen? ⟨w8.heap.size, o, none⟩ = false := fun o => (hb15.frozen gaL_w14).trans (gaF_w14 o)
    have gaL_w15 : w8.heap.size < w15.heap.size := Nat.lt_of_lt_of_le gaL_w14 hb15.size
    have oW_w15 := hidP (OwnG.later oW_w14.out hb15)
    have oV_w15 := hidP (OwnG.later oV_w14.out hb15)
    have oX_w15 := hidP (OwnG.later oX_w14.out hb15)
    have oG_w15 := hidP (OwnG.later oG_w14.out hb15)
    have oH_w15 := hidP (OwnG.later oH_w14.out hb15)
    have acc_w15 := hidP (acc_w14.out.trans (hb15.mono acc_w14.out.size))
    have sz_w15 : Hid (w14.heap.size ≤ w15.heap.size) := hidP hb15.size
    clear hb15 ab0_w14 ab1_w14 abF_w14 abL_w14 wa0_w14 wa1_w14 waF_w14 waL_w14 xa0_w14 xa1_w14 xaF_w14 xaL_w14 ga0_w14 ga1_w14 gaF_w14 gaL_w14 oW_w14 oV_w14 oX_w14 oG_w14 oH_w14 acc_w14
    go_wp2_with fail
    refine (HEG.out _ B8 D8 B4 D4 oH_w15.out.row oV_w15.out.row).mono ?_
    rintro e w16 ⟨rfl, hb16⟩
    have ab0_w16 := (hb16.cell abL_w15).trans ab0_w15
    have ab1_w16 := (hb16.cell abL_w15).trans ab1_w15
    have abF_w16 : ∀ o, w16.frozen? ⟨w.heap.size, o, none⟩ = false := fun o => (hb16.frozen abL_w15).trans (abF_w15 o)
    have abL_w16 : w.heap.size < w16.heap.size := Nat.lt_of_lt_of_le abL_w15 hb16.size
    have wa0_w16 := (hb16.cell waL_w15).trans wa0_w15
    have wa1_w16 := (hb16.cell waL_w15).trans wa1_w15
    have waF_w16 : ∀ o, w16.frozen? ⟨w4.heap.size, o, none⟩ = false := fun o => (hb16.frozen waL_w15).trans (waF_w15 o)
    have waL_w16 : w4.heap.size < w16.heap.size := Nat.lt_of_lt_of_le waL_w15 hb16.size
    have xa0_w16 := (hb16.cell xaL_w15).trans xa0_w15
    have xa1_w16 := (hb16.cell xaL_w15).trans xa1_w15
    have xaF_w16 : ∀ o, w16.frozen? ⟨w6.heap.size, o, none⟩ = false := fun o => (hb16.frozen xaL_w15).trans (xaF_w15 o)
    have xaL_w16 : w6.heap.size < w16.heap.size := Nat.lt_of_lt_of_le xaL_w15 hb16.size
    have ga0_w16 := (hb16.cell gaL_w15).trans ga0_w15
    have ga1_w16 := (hb16.cell gaL_w15).trans ga1_w15
    have gaF_w16 : ∀ o, w16.frozen? ⟨w8.heap.size, o, none⟩ = false := fun o => (hb16.frozen gaL_w15).trans (gaF_w15 o)
    have gaL_w16 : w8.heap.size < w16.heap.size := Nat.lt_of_lt_of_le gaL_w15 hb16.size
    have oW_w16 := hidP (OwnG.later oW_w15.out hb16)
    have oV_w16 := hidP (OwnG.later oV_w15.out hb16)
    have oX_w16 := hidP (OwnG.later oX_w15.out hb16)
    have oG_w16 := hidP (OwnG.later oG_w15.out hb16)
    have oH_w16 := hidP (OwnG.later oH_w15.out hb16)
    have acc_w16 := hidP (acc_w15.out.trans (hb16.mono acc_w15.out.size))
    have sz_w16 : Hid (w15.heap.size ≤ w16.heap.size) := hidP hb16.size
    clear hb16 ab0_w15 ab1_w15 abF_w15 abL_w15 wa0_w15 wa1_w15 waF_w15 waL_w15 xa0_w15 xa1_w15 xaF_w15 xaL_w15 ga0_w15 ga1_w15 gaF_w15 gaL_w15 oW_w15 oV_w15 oX_w15 oG_w15 oH_w15 acc_w15
    go_wp2_with fail
    refine (HMg.out _ A8 C8 _ oG_w16.out).mono ?_
    rintro e w17 ⟨rfl, om17, hg17⟩
    have OM := hidP om17
    clear om17
    have neab : ∀ k, (Value.slice A8 nL C8).ownBlock = some k → k ≠ w.heap.size := fun k hk => by have h5 := lhG.out k hk; have := as_W1.out; have := sz_W1.out; have := sz_w2.out; have := sz_w3.out; have := sz_w4.out; have := as_W5.out; have := sz_W5.out; have := sz_w6.out; have := as_W7.out; have := sz_W7.out; have := sz_w8.out; have := as_W9.out; have := sz_W9.out; have := sz_w10.out; have := sz_w11.out; have := sz_w13.out; have := sz_w14.out; have := sz_w15.out; have := sz_w16.out; omega
    have ab0_w17 := cell_grown hg17 ab0_w16 neab
    have ab1_w17 := cell_grown hg17 ab1_w16 neab
    have abF_w17 : ∀ o, w17.frozen? ⟨w.heap.size, o, none⟩ = false := fun o => frz_grown hg17 abL_w16 (abF_w16 o) neab
    have abL_w17 : w.heap.size < w17.heap.size := Nat.lt_of_lt_of_le abL_w16 hg17.size
    have newa : ∀ k, (Value.slice A8 nL C8).ownBlock = some k → k ≠ w4.heap.size := fun k hk => by have h5 := lhG.out k hk; have := as_W1.out; have := sz_W1.out; have := sz_w2.out; have := sz_w3.out; have := sz_w4.out; have := as_W5.out; have := sz_W5.out; have := sz_w6.out; have := as_W7.out; have := sz_W7.out; have := sz_w8.out; have := as_W9.out; have := sz_W9.out; have := sz_w10.out; have := sz_w11.out; have := sz_w13.out; have := sz_w14.out; have := sz_w15.out; have := sz_w16.out; omega
    have wa0_w17 := cell_grown hg17 wa0_w16 newa
    have wa1_w17 := cell_grown hg17 wa1_w16 newa
    have waF_w17 : ∀ o, w17.frozen? ⟨w4.heap.size, o, none⟩ = false := fun o => frz_grown hg17 waL_w16 (waF_w16 o) newa
    have waL_w17 : w4.heap.size < w17.heap.size := Nat.lt_of_lt_of_le waL_w16 hg17.size
    have nexa : ∀ k, (Value.slice A8 nL C8).ownBlock = some k → k ≠ w6.heap.size := fun k hk => by have h5 := lhG.out k hk; have := as_W1.out; have := sz_W1.out; have := sz_w2.out; have := sz_w3.out; have := sz_w4.out; have := as_W5.out; have := sz_W5.out; have := sz_w6.out; have := as_W7.out; have := sz_W7.out; have := sz_w8.out; have := as_W9.out; have := sz_W9.out; have := sz_w10.out; have := sz_w11.out; have := sz_w13.out; have := sz_w14.out; have := sz_w15.out; have := sz_w16.out; omega
    have xa0_w17 := cell_grown hg17 xa0_w16 nexa
    have xa1_w17 := cell_grown hg17 xa1_w16 nexa
    have xaF_w17 : ∀ o, w17.frozen? ⟨w6.heap.size, o, none⟩ = false := fun o => frz_grown hg17 xaL_w16 (xaF_w16 o) nexa
    have xaL_w17 : w6.heap.size < w17.heap.size := Nat.lt_of_lt_of_le xaL_w16 hg17.size
    have nega : ∀ k, (Value.slice A8 nL C8).ownBlock = some k → k ≠ w8.heap.size := fun k hk => by have h5 := lhG.out k hk; have := as_W1.out; have := sz_W1.out; have := sz_w2.out; have := sz_w3.out; have := sz_w4.out; have := as_W5.out; have := sz_W5.out; have := sz_w6.out; have := as_W7.out; have := sz_W7.out; have := sz_w8.out; have := as_W9.out; have := sz_W9.out; have := sz_w10.out; have := sz_w11.out; have := sz_w13.out; have := sz_w14.out; have := sz_w15.out; have := sz_w16.out; omega
    have ga0_w17 := cell_grown hg17 ga0_w16 nega
    have ga1_w17 := cell_grown hg17 ga1_w16 nega
    have gaF_w17 : ∀ o, w17.frozen? ⟨w8.heap.size, o, none⟩ = false := fun o => frz_grown hg17 gaL_w16 (gaF_w16 o) nega
    have gaL_w17 : w8.heap.size < w17.heap.size := Nat.lt_of_lt_of_le gaL_w16 hg17.size
    have oW_w17 := hidP (OwnG.grown oW_w16.out hg17 (fun j hj he => by have h5 := lhW.out j hj; have h6 := lhG.out j he; have := as_W1.out; have := sz_W1.out; have := sz_w2.out; have := sz_w3.out; have := sz_w4.out; have := as_W5.out; have := sz_W5.out; have := sz_w6.out; have := as_W7.out; have := sz_W7.out; have := sz_w8.out; have := as_W9.out; have := sz_W9.out; have := sz_w10.out; have := sz_w11.out; have := sz_w13.out; have := sz_w14.out; have := sz_w15.out; have := sz_w16.out; omega))
    have oV_w17 := hidP (OwnG.grown oV_w16.out hg17 (fun j hj he => by have h5 := lhV.out j hj; have h6 := lhG.out j he; have := as_W1.out; have := sz_W1.out; have := sz_w2.out; have := sz_w3.out; have := sz_w4.out; have := as_W5.out; have := sz_W5.out; have := sz_w6.out; have := as_W7.out; have := sz_W7.out; have := sz_w8.out; have := as_W9.out; have := sz_W9.out; have := sz_w10.out; have := sz_w11.out; have := sz_w13.out; have := sz_w14.out; have := sz_w15.out; have := sz_w16.out; omega))
    have oX_w17 := hidP (OwnG.grown oX_w16.out hg17 (fun j hj he => by have h5 := lhX.out j hj; have h6 := lhG.out j he; have := as_W1.out; have := sz_W1.out; have := sz_w2.out; have := sz_w3.out; have := sz_w4.out; have := as_W5.out; have := sz_W5.out; have := sz_w6.out; have := as_W7.out; have := sz_W7.out; have := sz_w8.out; have := as_W9.out; have := sz_W9.out; have := sz_w10.out; have := sz_w11.out; have := sz_w13.out; have := sz_w14.out; have := sz_w15.out; have := sz_w16.out; omega))
    have oG_w17 := hidP (OM.out)
    have oH_w17 := hidP (OwnG.grown oH_w16.out hg17 (fun j hj he => HN8.out j he hj))
    have acc_w17 := hidP (Below.grown acc_w16.out hg17 acc_w16.out.size (fun k hk => by have h5 := lhG.out k hk; have := as_W1.out; have := sz_W1.out; have := sz_w2.out; have := sz_w3.out; have := sz_w4.out; have := as_W5.out; have := sz_W5.out; have := sz_w6.out; have := as_W7.out; have := sz_W7.out; have := sz_w8.out; have := as_W9.out; have := sz_W9.out; have := sz_w10.out; have := sz_w11.out; have := sz_w13.out; have := sz_w14.out; have := sz_w15.out; have := sz_w16.out; omega))
    have sz_w17 : Hid (w16.heap.size ≤ w17.heap.size) := hidP hg17.size
    clear hg17 ab0_w16 ab1_w16 abF_w16 abL_w16 neab wa0_w16 wa1_w16 waF_w16 waL_w16 newa xa0_w16 xa1_w16 xaF_w16 xaL_w16 nexa ga0_w16 ga1_w16 gaF_w16 gaL_w16 nega oW_w16 oV_w16 oX_w16 oG_w16 oH_w16 acc_w16
    clear OM
    go_wp2_with fail
    refine (HMG.out _ B8 D8 _ oH_w17.out).mono ?_
    rintro e w18 ⟨rfl, om18, hg18⟩
    have OM := hidP om18
    clear om18
    have neab : ∀ k, (Value.slice B8 nG D8).ownBlock = some k → k ≠ w.heap.size := fun k hk => by have h5 := lhH.out k hk; have := as_W1.out; have := sz_W1.out; have := sz_w2.out; have := sz_w3.out; have := sz_w4.out; have := as_W5.out; have := sz_W5.out; have := sz_w6.out; have := as_W7.out; have := sz_W7.out; have := sz_w8.out; have := as_W9.out; have := sz_W9.out; have := sz_w10.out; have := sz_w11.out; have := sz_w13.out; have := sz_w14.out; have := sz_w15.out; have := sz_w16.out; have := sz_w17.out; omega
    have ab0_w18 := cell_grown hg18 ab0_w17 neab
    have ab1_w18 := cell_grown hg18 ab1_w17 neab
    have abF_w18 : ∀ o, w18.frozen? ⟨w.heap.size, o, none⟩ = false := fun o => frz_grown hg18 abL_w17 (abF_w17 o) neab
    have abL_w18 : w.heap.size < w18.heap.size := Nat.lt_of_lt_of_le abL_w17 hg18.size
    have newa : ∀ k, (Value.slice B8 nG D8).ownBlock = some k → k ≠ w4.heap.size := fun k hk => by have h5 := lhH.out k hk; have := as_W1.out; have := sz_W1.out; have := sz_w2.out; have := sz_w3.out; have := sz_w4.out; have := as_W5.out; have := sz_W5.out; have := sz_w6.out; have := as_W7.out; have := sz_W7.out; have := sz_w8.out; have := as_W9.out; have := sz_W9.out; have := sz_w10.out; have := sz_w11.out; have := sz_w13.out; have := sz_w14.out; have := sz_w15.out; have := sz_w16.out; have := sz_w17.out; omega
    have wa0_w18 := cell_grown hg18 wa0_w17 newa
    have wa1_w18 := cell_grown hg18 wa1_w17 newa
    have waF_w18 : ∀ o, w18.frozen? ⟨w4.heap.size, o, none⟩ = false := fun o => frz_grown hg18 waL_w17 (waF_w17 o) newa
    have waL_w18 : w4.heap.size < w18.heap.size := Nat.lt_of_lt_of_le waL_w17 hg18.size
    have nexa : ∀ k, (Value.slice B8 nG D8).ownBlock = some k → k ≠ w6.heap.size := fun k hk => by have h5 := lhH.out k hk; have := as_W1.out; have := sz_W1.out; have := sz_w2.out; have := sz_w3.out; have := sz_w4.out; have := as_W5.out; have := sz_W5.out; have := sz_w6.out; have := as_W7.out; have := sz_W7.out; have := sz_w8.out; have := as_W9.out; have := sz_W9.out; have := sz_w10.out; have := sz_w11.out; have := sz_w13.out; have := sz_w14.out; have := sz_w15.out; have := sz_w16.out; have := sz_w17.out; omega
    have xa0_w18 := cell_grown hg18 xa0_w17 nexa
    have xa1_w18 := cell_grown hg18 xa1_w17 nexa
    have xaF_w18 : ∀ o, w18.frozen? ⟨w6.heap.size, o, none⟩ = false := fun o => frz_grown hg18 xaL_w17 (xaF_w17 o) nexa
    have xaL_w18 : w6.heap.size < w18.heap.size := Nat.lt_of_lt_of_le xaL_w17 hg18.size
    have nega : ∀ k, (Value.slice B8 nG D8).ownBlock = some k → k ≠ w8.heap.size := fun k hk => by have h5 := lhH.out k hk; have := as_W1.out; have := sz_W1.out; have := sz_w2.out; have := sz_w3.out; have := sz_w4.out; have := as_W5.out; have := sz_W5.out; have := sz_w6.out; have := as_W7.out; have := sz_W7.out; have := sz_w8.out; have := as_W9.out; have := sz_W9.out; have := sz_w10.out; have := sz_w11.out; have := sz_w13.out; have := sz_w14.out; have := sz_w15.out; have := sz_w16.out; have := sz_w17.out; omega
    have ga0_w18 := cell_grown hg18 ga0_w17 nega
    have ga1_w18 := cell_grown hg18 ga1_w17 nega
    have gaF_w18 : ∀ o, w18.frozen? ⟨w8.heap.size, o, none⟩ = false := fun o => frz_grown hg18 gaL_w17 (gaF_w17 o) nega
    have gaL_w18 : w8.heap.size < w18.heap.size := Nat.lt_of_lt_of_le gaL_w17 hg18.size
    have oW_w18 := hidP (OwnG.grown oW_w17.out hg18 (fun j hj he => by have h5 := lhW.out j hj; have h6 := lhH.out j he; have := as_W1.out; have := sz_W1.out; have := sz_w2.out; have := sz_w3.out; have := sz_w4.out; have := as_W5.out; have := sz_W5.out; have := sz_w6.out; have := as_W7.out; have := sz_W7.out; have := sz_w8.out; have := as_W9.out; have := sz_W9.out; have := sz_w10.out; have := sz_w11.out; have := sz_w13.out; have := sz_w14.out; have := sz_w15.out; have := sz_w16.out; have := sz_w17.out; omega))
    have oV_w18 := hidP (OwnG.grown oV_w17.out hg18 (fun j hj he => by have h5 := lhV.out j hj; have h6 := lhH.out j he; have := as_W1.out; have := sz_W1.out; have := sz_w2.out; have := sz_w3.out; have := sz_w4.out; have := as_W5.out; have := sz_W5.out; have := sz_w6.out; have := as_W7.out; have := sz_W7.out; have := sz_w8.out; have := as_W9.out; have := sz_W9.out; have := sz_w10.out; have := sz_w11.out; have := sz_w13.out; have := sz_w14.out; have := sz_w15.out; have := sz_w16.out; have := sz_w17.out; omega))
    have oX_w18 := hidP (OwnG.grown oX_w17.out hg18 (fun j hj he => by have h5 := lhX.out j hj; have h6 := lhH.out j he; have := as_W1.out; have := sz_W1.out; have := sz_w2.out; have := sz_w3.out; have := sz_w4.out; have := as_W5.out; have := sz_W5.out; have := sz_w6.out; have := as_W7.out; have := sz_W7.out; have := sz_w8.out; have := as_W9.out; have := sz_W9.out; have := sz_w10.out; have := sz_w11.out; have := sz_w13.out; have := sz_w14.out; have := sz_w15.out; have := sz_w16.out; have := sz_w17.out; omega))
    have oG_w18 := hidP (OwnG.grown oG_w17.out hg18 (fun j hj he => HN8.out j hj he))
    have oH_w18 := hidP (OM.out)
    have acc_w18 := hidP (Below.grown acc_w17.out hg18 acc_w17.out.size (fun k hk => by have h5 := lhH.out k hk; have := as_W1.out; have := sz_W1.out; have := sz_w2.out; have := sz_w3.out; have := sz_w4.out; have := as_W5.out; have := sz_W5.out; have := sz_w6.out; have := as_W7.out; have := sz_W7.out; have := sz_w8.out; have := as_W9.out; have := sz_W9.out; have := sz_w10.out; have := sz_w11.out; have := sz_w13.out; have := sz_w14.out; have := sz_w15.out; have := sz_w16.out; have := sz_w17.out; omega))
    have sz_w18 : Hid (w17.heap.size ≤ w18.heap.size) := hidP hg18.size
    clear hg18 ab0_w17 ab1_w17 abF_w17 abL_w17 neab wa0_w17 wa1_w17 waF_w17 waL_w17 newa xa0_w17 xa1_w17 xaF_w17 xaL_w17 nexa ga0_w17 ga1_w17 gaF_w17 gaL_w17 nega oW_w17 oV_w17 oX_w17 oG_w17 oH_w17 acc_w17
    clear OM
    go_wp2_with fail
    refine (HHg.out _ A8 C8 oG_w18.out.row).mono ?_
    rintro e w19 ⟨rfl, hb19⟩
    have ab0_w19 := (hb19.cell abL_w18).trans ab0_w18
    have ab1_w19 := (hb19.cell abL_w18).trans ab1_w18
    have abF_w19 : ∀ o, w19.frozen? ⟨w.heap.size, o, none⟩ = false := fun o => (hb19.frozen abL_w18).trans (abF_w18 o)
    have abL_w19 : w.heap.size < w19.heap.size := Nat.lt_of_lt_of_le abL_w18 hb19.size
    have wa0_w19 := (hb19.cell waL_w18).trans wa0_w18
    have wa1_w19 := (hb19.cell waL_w18).trans wa1_w18
    have waF_w19 : ∀ o, w19.frozen? ⟨w4.heap.size, o, none⟩ = false := fun o => (hb19.frozen waL_w18).trans (waF_w18 o)
    have waL_w19 : w4.heap.size < w19.heap.size := Nat.lt_of_lt_of_le waL_w18 hb19.size
    have xa0_w19 := (hb19.cell xaL_w18).trans xa0_w18
    have xa1_w19 := (hb19.cell xaL_w18).trans xa1_w18
    have xaF_w19 : ∀ o, w19.frozen? ⟨w6.heap.size, o, none⟩ = false := fun o => (hb19.frozen xaL_w18).trans (xaF_w18 o)
    have xaL_w19 : w6.heap.size < w19.heap.size := Nat.lt_of_lt_of_le xaL_w18 hb19.size
    have ga0_w19 := (hb19.cell gaL_w18).trans ga0_w18
    have ga1_w19 := (hb19.cell gaL_w18).trans ga1_w18
    have gaF_w19 : ∀ o, w19.frozen? ⟨w8.heap.size, o, none⟩ = false := fun o => (hb19.frozen gaL_w18).trans (gaF_w18 o)
    have gaL_w19 : w8.heap.size < w19.heap.size := Nat.lt_of_lt_of_le gaL_w18 hb19.size
    have oW_w19 := hidP (OwnG.later oW_w18.out hb19)
    have oV_w19 := hidP (OwnG.later oV_w18.out hb19)
    have oX_w19 := hidP (OwnG.later oX_w18.out hb19)
    have oG_w19 := hidP (OwnG.later oG_w18.out hb19)
    have oH_w19 := hidP (OwnG.later oH_w18.out hb19)
    have acc_w19 := hidP (acc_w18.out.trans (hb19.mono acc_w18.out.size))
    have sz_w19 : Hid (w18.heap.size ≤ w19.heap.size) := hidP hb19.size
    clear hb19 ab0_w18 ab1_w18 abF_w18 abL_w18 wa0_w18 wa1_w18 waF_w18 waL_w18 xa0_w18 xa1_w18 xaF_w18 xaL_w18 ga0_w18 ga1_w18 gaF_w18 gaL_w18 oW_w18 oV_w18 oX_w18 oG_w18 oH_w18 acc_w18
    go_wp2_with fail
    refine (HHG.out _ B8 D8 oH_w19.out.row).mono ?_
    rintro e w20 ⟨rfl, hb20⟩
    have ab0_w20 := (hb20.cell abL_w19).trans ab0_w19
    have ab1_w20 := (hb20.cell abL_w19).trans ab1_w19
    have abF_w20 : ∀ o, w20.frozen? ⟨w.heap.size, o, none⟩ = false := fun o => (hb20.frozen abL_w19).trans (abF_w19 o)
    have abL_w20 : w.heap.size < w20.heap.size := Nat.lt_of_lt_of_le abL_w19 hb20.size
    have wa0_w20 := (hb20.cell waL_w19).trans wa0_w19
    have wa1_w20 := (hb20.cell waL_w19).trans wa1_w19
    have waF_w20 : ∀ o, w20.frozen? ⟨w4.heap.size, o, none⟩ = false := fun o => (hb20.frozen waL_w19).trans (waF_w19 o)
    have waL_w20 : w4.heap.size < w20.heap.size := Nat.lt_of_lt_of_le waL_w19 hb20.size
    have xa0_w20 := (hb20.cell xaL_w19).trans xa0_w19
    have xa1_w20 := (hb20.cell xaL_w19).trans xa1_w19
    have xaF_w20 : ∀ o, w20.frozen? ⟨w6.heap.size, o, none⟩ = false := fun o => (hb20.frozen xaL_w19).trans (xaF_w19 o)
    have xaL_w20 : w6.heap.size < w20.heap.size := Nat.lt_of_lt_of_le xaL_w19 hb20.size
    have ga0_w20 := (hb20.cell gaL_w19).trans ga0_w19
    have ga1_w20 := (hb20.cell gaL_w19).trans ga1_w19
    have gaF_w20 : ∀ o, w20.frozen? ⟨w8.heap.size, o, none⟩ = false := fun o => (hb20.frozen gaL_w19).trans (gaF_w19 o)
    have gaL_w20 : w8.heap.size < w20.heap.size := Nat.lt_of_lt_of_le gaL_w19 hb20.size
    have oW_w20 := hidP (OwnG.later oW_w19.out hb20)
    have oV_w20 := hidP (OwnG.later oV_w19.out hb20)
    have oX_w20 := hidP (OwnG.later oX_w19.out hb20)
    have oG_w20 := hidP (OwnG.later oG_w19.out hb20)
    have oH_w20 := hidP (OwnG.later oH_w19.out hb20)
    have acc_w20 := hidP (acc_w19.out.trans (hb20.mono acc_w19.out.size))
    have sz_w20 : Hid (w19.heap.size ≤ w20.heap.size) := hidP hb20.size
    clear hb20 ab0_w19 ab1_w19 abF_w19 abL_w19 wa0_w19 wa1_w19 waF_w19 waL_w19 xa0_w19 xa1_w19 xaF_w19 xaL_w19 ga0_w19 ga1_w19 gaF_w19 gaL_w19 oW_w19 oV_w19 oX_w19 oG_w19 oH_w19 acc_w19
    go_wp2_with fail
    refine (HTo.out _ acc_w20.out).mono ?_
    rintro e w21 ⟨g4, rfl, og4, hb21⟩
    have O4 := hidP og4.row
    clear og4
    have ab0_w21 := (hb21.cell abL_w20).trans ab0_w20
    have ab1_w21 := (hb21.cell abL_w20).trans ab1_w20
    have abF_w21 : ∀ o, w21.frozen? ⟨w.heap.size, o, none⟩ = false := fun o => (hb21.frozen abL_w20).trans (abF_w20 o)
    have abL_w21 : w.heap.size < w21.heap.size := Nat.lt_of_lt_of_le abL_w20 hb21.size
    have wa0_w21 := (hb21.cell waL_w20).trans wa0_w20
    have wa1_w21 := (hb21.cell waL_w20).trans wa1_w20
    have waF_w21 : ∀ o, w21.frozen? ⟨w4.heap.size, o, none⟩ = false := fun o => (hb21.frozen waL_w20).trans (waF_w20 o)
    have waL_w21 : w4.heap.size < w21.heap.size := Nat.lt_of_lt_of_le waL_w20 hb21.size
    have xa0_w21 := (hb21.cell xaL_w20).trans xa0_w20
    have xa1_w21 := (hb21.cell xaL_w20).trans xa1_w20
    have xaF_w21 : ∀ o, w21.frozen? ⟨w6.heap.size, o, none⟩ = false := fun o => (hb21.frozen xaL_w20).trans (xaF_w20 o)
    have xaL_w21 : w6.heap.size < w21.heap.size := Nat.lt_of_lt_of_le xaL_w20 hb21.size
    have ga0_w21 := (hb21.cell gaL_w20).trans ga0_w20
    have ga1_w21 := (hb21.cell gaL_w20).trans ga1_w20
    have gaF_w21 : ∀ o, w21.frozen? ⟨w8.heap.size, o, none⟩ = false := fun o => (hb21.frozen gaL_w20).trans (gaF_w20 o)
    have gaL_w21 : w8.heap.size < w21.heap.size := Nat.lt_of_lt_of_le gaL_w20 hb21.size
    have oW_w21 := hidP (OwnG.later oW_w20.out hb21)
    have oV_w21 := hidP (OwnG.later oV_w20.out hb21)
    have oX_w21 := hidP (OwnG.later oX_w20.out hb21)
    have oG_w21 := hidP (OwnG.later oG_w20.out hb21)
    have oH_w21 := hidP (OwnG.later oH_w20.out hb21)
    have acc_w21 := hidP (acc_w20.out.trans (hb21.mono acc_w20.out.size))
    have sz_w21 : Hid (w20.heap.size ≤ w21.heap.size) := hidP hb21.size
    clear hb21 ab0_w20 ab1_w20 abF_w20 abL_w20 wa0_w20 wa1_w20 waF_w20 waL_w20 xa0_w20 xa1_w20 xaF_w20 xaL_w20 ga0_w20 ga1_w20 gaF_w20 gaL_w20 oW_w20 oV_w20 oX_w20 oG_w20 oH_w20 acc_w20
    go_wp2_with fail
    refine (HIm.out g4 _ O4.out).mono ?_
    rintro e w22 ⟨A9, C9, B9, D9, rfl, oL, oG, hne, hb22⟩
    have OL := hidP oL
    have OG := hidP oG
    clear oL oG hne
    have ab0_w22 := (hb22.cell abL_w21).trans ab0_w21
    have ab1_w22 := (hb22.cell abL_w21).trans ab1_w21
    have abF_w22 : ∀ o, w22.frozen? ⟨w.heap.size, o, none⟩ = false := fun o => (hb22.frozen abL_w21).trans (abF_w21 o)
    have abL_w22 : w.heap.size < w22.heap.size := Nat.lt_of_lt_of_le abL_w21 hb22.size
    have wa0_w22 := (hb22.cell waL_w21).trans wa0_w21
    have wa1_w22 := (hb22.cell waL_w21).trans wa1_w21
    have waF_w22 : ∀ o, w22.frozen? ⟨w4.heap.size, o, none⟩ = false := fun o => (hb22.frozen waL_w21).trans (waF_w21 o)
    have waL_w22 : w4.heap.size < w22.heap.size := Nat.lt_of_lt_of_le waL_w21 hb22.size
    have xa0_w22 := (hb22.cell xaL_w21).trans xa0_w21
    have xa1_w22 := (hb22.cell xaL_w21).trans xa1_w21
    have xaF_w22 : ∀ o, w22.frozen? ⟨w6.heap.size, o, none⟩ = false := fun o => (hb22.frozen xaL_w21).trans (xaF_w21 o)
    have xaL_w22 : w6.heap.size < w22.heap.size := Nat.lt_of_lt_of_le xaL_w21 hb22.size
    have ga0_w22 := (hb22.cell gaL_w21).trans ga0_w21
    have ga1_w22 := (hb22.cell gaL_w21).trans ga1_w21
    have gaF_w22 : ∀ o, w22.frozen? ⟨w8.heap.size, o, none⟩ = false := fun o => (hb22.frozen gaL_w21).trans (gaF_w21 o)
    have gaL_w22 : w8.heap.size < w22.heap.size := Nat.lt_of_lt_of_le gaL_w21 hb22.size
    have oW_w22 := hidP (OwnG.later oW_w21.out hb22)
    have oV_w22 := hidP (OwnG.later oV_w21.out hb22)
    have oX_w22 := hidP (OwnG.later oX_w21.out hb22)
    have oG_w22 := hidP (OwnG.later oG_w21.out hb22)
    have oH_w22 := hidP (OwnG.later oH_w21.out hb22)
    have acc_w22 := hidP (acc_w21.out.trans (hb22.mono acc_w21.out.size))
    have sz_w22 : Hid (w21.heap.size ≤ w22.heap.size) := hidP hb22.size
    clear hb22 ab0_w21 ab1_w21 abF_w21 abL_w21 wa0_w21 wa1_w21 waF_w21 waL_w21 xa0_w21 xa1_w21 xaF_w21 xaL_w21 ga0_w21 ga1_w21 gaF_w21 gaL_w21 oW_w21 oV_w21 oX_w21 oG_w21 oH_w21 acc_w21
    have oP_w22 := hidP (OL.out)
    have lhP : Hid (∀ k, (Value.slice A9 nL C9).ownBlock = some k → w21.heap.size ≤ k ∧ k < w22.heap.size) := hidP (fun k hk => OwnG.lt oP_w22.out k hk)
    have oQ_w22 := hidP (OG.out)
    have lhQ : Hid (∀ k, (Value.slice B9 nG D9).ownBlock = some k → w21.heap.size ≤ k ∧ k < w22.heap.size) := hidP (fun k hk => OwnG.lt oQ_w22.out k hk)
    clear OL OG
    go_wp2_with fail
    clear O4
    obtain ⟨va0_W23, va1_W23⟩ := box2D w22 29 (.slice A9 nL C9) (.int .i64 N)
    have vaF_W23 : ∀ o, (w22.alloc (.cells #[.slice A9 nL C9, .int .i64 N] 29)).frozen? ⟨w22.heap.size, o, none⟩ = false := fun o => by simp [go_sem]
    have vaL_W23 : w22.heap.size < (w22.alloc (.cells #[.slice A9 nL C9, .int .i64 N] 29)).heap.size := by simp
    have ab_W23 := alloc_below w22 (.cells #[.slice A9 nL C9, .int .i64 N] 29)
    have as_W23 : Hid ((w22.alloc (.cells #[.slice A9 nL C9, .int .i64 N] 29)).heap.size = w22.heap.size + 1) := hidP (by simp)
    generalize w22.alloc (.cells #[.slice A9 nL C9, .int .i64 N] 29) = W23 at *
    have ab0_W23 := (ab_W23.cell abL_w22).trans ab0_w22
    have ab1_W23 := (ab_W23.cell abL_w22).trans ab1_w22
    have abF_W23 : ∀ o, W23.frozen? ⟨w.heap.size, o, none⟩ = false := fun o => (ab_W23.frozen abL_w22).trans (abF_w22 o)
    have abL_W23 : w.heap.size < W23.heap.size := Nat.lt_of_lt_of_le abL_w22 ab_W23.size
    have wa0_W23 := (ab_W23.cell waL_w22).trans wa0_w22
    have wa1_W23 := (ab_W23.cell waL_w22).trans wa1_w22
    have waF_W23 : ∀ o, W23.frozen? ⟨w4.heap.size, o, none⟩ = false := fun o => (ab_W23.frozen waL_w22).trans (waF_w22 o)
    have waL_W23 : w4.heap.size < W23.heap.size := Nat.lt_of_lt_of_le waL_w22 ab_W23.size
    have xa0_W23 := (ab_W23.cell xaL_w22).trans xa0_w22
    have xa1_W23 := (ab_W23.cell xaL_w22).trans xa1_w22
    have xaF_W23 : ∀ o, W23.frozen? ⟨w6.heap.size, o, none⟩ = false := fun o => (ab_W23.frozen xaL_w22).trans (xaF_w22 o)
    have xaL_W23 : w6.heap.size < W23.heap.size := Nat.lt_of_lt_of_le xaL_w22 ab_W23.size
    have ga0_W23 := (ab_W23.cell gaL_w22).trans ga0_w22
    have ga1_W23 := (ab_W23.cell gaL_w22).trans ga1_w22
    have gaF_W23 : ∀ o, W23.frozen? ⟨w8.heap.size, o, none⟩ = false := fun o => (ab_W23.frozen gaL_w22).trans (gaF_w22 o)
    have gaL_W23 : w8.heap.size < W23.heap.size := Nat.lt_of_lt_of_le gaL_w22 ab_W23.size
    have oW_W23 := hidP (OwnG.later oW_w22.out ab_W23)
    have oV_W23 := hidP (OwnG.later oV_w22.out ab_W23)
    have oX_W23 := hidP (OwnG.later oX_w22.out ab_W23)
    have oG_W23 := hidP (OwnG.later oG_w22.out ab_W23)
    have oH_W23 := hidP (OwnG.later oH_w22.out ab_W23)
    have oP_W23 := hidP (OwnG.later oP_w22.out ab_W23)
    have oQ_W23 := hidP (OwnG.later oQ_w22.out ab_W23)
    have acc_W23 := hidP (acc_w22.out.trans (ab_W23.mono acc_w22.out.size))
    have sz_W23 : Hid (w22.heap.size ≤ W23.heap.size) := hidP ab_W23.size
    clear ab_W23 ab0_w22 ab1_w22 abF_w22 abL_w22 wa0_w22 wa1_w22 waF_w22 waL_w22 xa0_w22 xa1_w22 xaF_w22 xaL_w22 ga0_w22 ga1_w22 gaF_w22 gaL_w22 oW_w22 oV_w22 oX_w22 oG_w22 oH_w22 oP_w22 oQ_w22 acc_w22
    refine (HEq.out _ A9 C9 A4 C4 oP_W23.out.row oW_W23.out.row).mono ?_
    rintro e w24 ⟨rfl, hb24⟩
    have ab0_w24 := (hb24.cell abL_W23).trans ab0_W23
    have ab1_w24 := (hb24.cell abL_W23).trans ab1_W23
    have abF_w24 : ∀ o, w24.frozen? ⟨w.heap.size, o, none⟩ = false := fun o => (hb24.frozen abL_W23).trans (abF_W23 o)
    have abL_w24 : w.heap.size < w24.heap.size := Nat.lt_of_lt_of_le abL_W23 hb24.size
    have wa0_w24 := (hb24.cell waL_W23).trans wa0_W23
    have wa1_w24 := (hb24.cell waL_W23).trans wa1_W23
    have waF_w24 : ∀ o, w24.frozen? ⟨w4.heap.size, o, none⟩ = false := fun o => (hb24.frozen waL_W23).trans (waF_W23 o)
    have waL_w24 : w4.heap.size < w24.heap.size := Nat.lt_of_lt_of_le waL_W23 hb24.size
    have xa0_w24 := (hb24.cell xaL_W23).trans xa0_W23
    have xa1_w24 := (hb24.cell xaL_W23).trans xa1_W23
    have xaF_w24 : ∀ o, w24.frozen? ⟨w6.heap.size, o, none⟩ = false := fun o => (hb24.frozen xaL_W23).trans (xaF_W23 o)
    have xaL_w24 : w6.heap.size < w24.heap.size := Nat.lt_of_lt_of_le xaL_W23 hb24.size
    have ga0_w24 := (hb24.cell gaL_W23).trans ga0_W23
    have ga1_w24 := (hb24.cell gaL_W23).trans ga1_W23
    have gaF_w24 : ∀ o, w24.frozen? ⟨w8.heap.size, o, none⟩ = false := fun o => (hb24.frozen gaL_W23).trans (gaF_W23 o)
    have gaL_w24 : w8.heap.size < w24.heap.size := Nat.lt_of_lt_of_le gaL_W23 hb24.size
    have va0_w24 := (hb24.cell vaL_W23).trans va0_W23
    have va1_w24 := (hb24.cell vaL_W23).trans va1_W23
    have vaF_w24 : ∀ o, w24.frozen? ⟨w22.heap.size, o, none⟩ = false := fun o => (hb24.frozen vaL_W23).trans (vaF_W23 o)
    have vaL_w24 : w22.heap.size < w24.heap.size := Nat.lt_of_lt_of_le vaL_W23 hb24.size
    have oW_w24 := hidP (OwnG.later oW_W23.out hb24)
    have oV_w24 := hidP (OwnG.later oV_W23.out hb24)
    have oX_w24 := hidP (OwnG.later oX_W23.out hb24)
    have oG_w24 := hidP (OwnG.later oG_W23.out hb24)
    have oH_w24 := hidP (OwnG.later oH_W23.out hb24)
    have oP_w24 := hidP (OwnG.later oP_W23.out hb24)
    have oQ_w24 := hidP (OwnG.later oQ_W23.out hb24)
    have acc_w24 := hidP (acc_W23.out.trans (hb24.mono acc_W23.out.size))
    have sz_w24 : Hid (W23.heap.size ≤ w24.heap.size) := hidP hb24.size
    clear hb24 ab0_W23 ab1_W23 abF_W23 abL_W23 wa0_W23 wa1_W23 waF_W23 waL_W23 xa0_W23 xa1_W23 xaF_W23 xaL_W23 ga0_W23 ga1_W23 gaF_W23 gaL_W23 va0_W23 va1_W23 vaF_W23 vaL_W23 oW_W23 oV_W23 oX_W23 oG_W23 oH_W23 oP_W23 oQ_W23 acc_W23
    go_wp2_with fail
    refine (HEG.out _ B9 D9 B4 D4 oQ_w24.out.row oV_w24.out.row).mono ?_
    rintro e w25 ⟨rfl, hb25⟩
    have ab0_w25 := (hb25.cell abL_w24).trans ab0_w24
    have ab1_w25 := (hb25.cell abL_w24).trans ab1_w24
    have abF_w25 : ∀ o, w25.frozen? ⟨w.heap.size, o, none⟩ = false := fun o => (hb25.frozen abL_w24).trans (abF_w24 o)
    have abL_w25 : w.heap.size < w25.heap.size := Nat.lt_of_lt_of_le abL_w24 hb25.size
    have wa0_w25 := (hb25.cell waL_w24).trans wa0_w24
    have wa1_w25 := (hb25.cell waL_w24).trans wa1_w24
    have waF_w25 : ∀ o, w25.frozen? ⟨w4.heap.size, o, none⟩ = false := fun o => (hb25.frozen waL_w24).trans (waF_w24 o)
    have waL_w25 : w4.heap.size < w25.heap.size := Nat.lt_of_lt_of_le waL_w24 hb25.size
    have xa0_w25 := (hb25.cell xaL_w24).trans xa0_w24
    have xa1_w25 := (hb25.cell xaL_w24).trans xa1_w24
    have xaF_w25 : ∀ o, w25.frozen? ⟨w6.heap.size, o, none⟩ = false := fun o => (hb25.frozen xaL_w24).trans (xaF_w24 o)
    have xaL_w25 : w6.heap.size < w25.heap.size := Nat.lt_of_lt_of_le xaL_w24 hb25.size
    have ga0_w25 := (hb25.cell gaL_w24).trans ga0_w24
    have ga1_w25 := (hb25.cell gaL_w24).trans ga1_w24
    have gaF_w25 : ∀ o, w25.frozen? ⟨w8.heap.size, o, none⟩ = false := fun o => (hb25.frozen gaL_w24).trans (gaF_w24 o)
    have gaL_w25 : w8.heap.size < w25.heap.size := Nat.lt_of_lt_of_le gaL_w24 hb25.size
    have va0_w25 := (hb25.cell vaL_w24).trans va0_w24
    have va1_w25 := (hb25.cell vaL_w24).trans va1_w24
    have vaF_w25 : ∀ o, w25.frozen? ⟨w22.heap.size, o, none⟩ = false := fun o => (hb25.frozen vaL_w24).trans (vaF_w24 o)
    have vaL_w25 : w22.heap.size < w25.heap.size := Nat.lt_of_lt_of_le vaL_w24 hb25.size
    have oW_w25 := hidP (OwnG.later oW_w24.out hb25)
    have oV_w25 := hidP (OwnG.later oV_w24.out hb25)
    have oX_w25 := hidP (OwnG.later oX_w24.out hb25)
    have oG_w25 := hidP (OwnG.later oG_w24.out hb25)
    have oH_w25 := hidP (OwnG.later oH_w24.out hb25)
    have oP_w25 := hidP (OwnG.later oP_w24.out hb25)
    have oQ_w25 := hidP (OwnG.later oQ_w24.out hb25)
    have acc_w25 := hidP (acc_w24.out.trans (hb25.mono acc_w24.out.size))
    have sz_w25 : Hid (w24.heap.size ≤ w25.heap.size) := hidP hb25.size
    clear hb25 ab0_w24 ab1_w24 abF_w24 abL_w24 wa0_w24 wa1_w24 waF_w24 waL_w24 xa0_w24 xa1_w24 xaF_w24 xaL_w24 ga0_w24 ga1_w24 gaF_w24 gaL_w24 va0_w24 va1_w24 vaF_w24 vaL_w24 oW_w24 oV_w24 oX_w24 oG_w24 oH_w24 oP_w24 oQ_w24 acc_w24
    go_wp2_with fail
    refine (HHg.out _ A8 C8 oG_w25.out.row).mono ?_
    rintro e w26 ⟨rfl, hb26⟩
    have ab0_w26 := (hb26.cell abL_w25).trans ab0_w25
    have ab1_w26 := (hb26.cell abL_w25).trans ab1_w25
    have abF_w26 : ∀ o, w26.frozen? ⟨w.heap.size, o, none⟩ = false := fun o => (hb26.frozen abL_w25).trans (abF_w25 o)
    have abL_w26 : w.heap.size < w26.heap.size := Nat.lt_of_lt_of_le abL_w25 hb26.size
    have wa0_w26 := (hb26.cell waL_w25).trans wa0_w25
    have wa1_w26 := (hb26.cell waL_w25).trans wa1_w25
    have waF_w26 : ∀ o, w26.frozen? ⟨w4.heap.size, o, none⟩ = false := fun o => (hb26.frozen waL_w25).trans (waF_w25 o)
    have waL_w26 : w4.heap.size < w26.heap.size := Nat.lt_of_lt_of_le waL_w25 hb26.size
    have xa0_w26 := (hb26.cell xaL_w25).trans xa0_w25
    have xa1_w26 := (hb26.cell xaL_w25).trans xa1_w25
    have xaF_w26 : ∀ o, w26.frozen? ⟨w6.heap.size, o, none⟩ = false := fun o => (hb26.frozen xaL_w25).trans (xaF_w25 o)
    have xaL_w26 : w6.heap.size < w26.heap.size := Nat.lt_of_lt_of_le xaL_w25 hb26.size
    have ga0_w26 := (hb26.cell gaL_w25).trans ga0_w25
    have ga1_w26 := (hb26.cell gaL_w25).trans ga1_w25
    have gaF_w26 : ∀ o, w26.frozen? ⟨w8.heap.size, o, none⟩ = false := fun o => (hb26.frozen gaL_w25).trans (gaF_w25 o)
    have gaL_w26 : w8.heap.size < w26.heap.size := Nat.lt_of_lt_of_le gaL_w25 hb26.size
    have va0_w26 := (hb26.cell vaL_w25).trans va0_w25
    have va1_w26 := (hb26.cell vaL_w25).trans va1_w25
    have vaF_w26 : ∀ o, w26.frozen? ⟨w22.heap.size, o, none⟩ = false := fun o => (hb26.frozen vaL_w25).trans (vaF_w25 o)
    have vaL_w26 : w22.heap.size < w26.heap.size := Nat.lt_of_lt_of_le vaL_w25 hb26.size
    have oW_w26 := hidP (OwnG.later oW_w25.out hb26)
    have oV_w26 := hidP (OwnG.later oV_w25.out hb26)
    have oX_w26 := hidP (OwnG.later oX_w25.out hb26)
    have oG_w26 := hidP (OwnG.later oG_w25.out hb26)
    have oH_w26 := hidP (OwnG.later oH_w25.out hb26)
    have oP_w26 := hidP (OwnG.later oP_w25.out hb26)
    have oQ_w26 := hidP (OwnG.later oQ_w25.out hb26)
    have acc_w26 := hidP (acc_w25.out.trans (hb26.mono acc_w25.out.size))
    have sz_w26 : Hid (w25.heap.size ≤ w26.heap.size) := hidP hb26.size
    clear hb26 ab0_w25 ab1_w25 abF_w25 abL_w25 wa0_w25 wa1_w25 waF_w25 waL_w25 xa0_w25 xa1_w25 xaF_w25 xaL_w25 ga0_w25 ga1_w25 gaF_w25 gaL_w25 va0_w25 va1_w25 vaF_w25 vaL_w25 oW_w25 oV_w25 oX_w25 oG_w25 oH_w25 oP_w25 oQ_w25 acc_w25
    go_wp2_with fail
    refine (HHG.out _ B8 D8 oH_w26.out.row).mono ?_
    rintro e w27 ⟨rfl, hb27⟩
    have ab0_w27 := (hb27.cell abL_w26).trans ab0_w26
    have ab1_w27 := (hb27.cell abL_w26).trans ab1_w26
    have abF_w27 : ∀ o, w27.frozen? ⟨w.heap.size, o, none⟩ = false := fun o => (hb27.frozen abL_w26).trans (abF_w26 o)
    have abL_w27 : w.heap.size < w27.heap.size := Nat.lt_of_lt_of_le abL_w26 hb27.size
    have wa0_w27 := (hb27.cell waL_w26).trans wa0_w26
    have wa1_w27 := (hb27.cell waL_w26).trans wa1_w26
    have waF_w27 : ∀ o, w27.frozen? ⟨w4.heap.size, o, none⟩ = false := fun o => (hb27.frozen waL_w26).trans (waF_w26 o)
    have waL_w27 : w4.heap.size < w27.heap.size := Nat.lt_of_lt_of_le waL_w26 hb27.size
    have xa0_w27 := (hb27.cell xaL_w26).trans xa0_w26
    have xa1_w27 := (hb27.cell xaL_w26).trans xa1_w26
    have xaF_w27 : ∀ o, w27.frozen? ⟨w6.heap.size, o, none⟩ = false := fun o => (hb27.frozen xaL_w26).trans (xaF_w26 o)
    have xaL_w27 : w6.heap.size < w27.heap.size := Nat.lt_of_lt_of_le xaL_w26 hb27.size
    have ga0_w27 := (hb27.cell gaL_w26).trans ga0_w26
    have ga1_w27 := (hb27.cell gaL_w26).trans ga1_w26
    have gaF_w27 : ∀ o, w27.frozen? ⟨w8.heap.size, o, none⟩ = false := fun o => (hb27.frozen gaL_w26).trans (gaF_w26 o)
    have gaL_w27 : w8.heap.size < w27.heap.size := Nat.lt_of_lt_of_le gaL_w26 hb27.size
    have va0_w27 := (hb27.cell vaL_w26).trans va0_w26
    have va1_w27 := (hb27.cell vaL_w26).trans va1_w26
    have vaF_w27 : ∀ o, w27.frozen? ⟨w22.heap.size, o, none⟩ = false := fun o => (hb27.frozen vaL_w26).trans (vaF_w26 o)
    have vaL_w27 : w22.heap.size < w27.heap.size := Nat.lt_of_lt_of_le vaL_w26 hb27.size
    have oW_w27 := hidP (OwnG.later oW_w26.out hb27)
    have oV_w27 := hidP (OwnG.later oV_w26.out hb27)
    have oX_w27 := hidP (OwnG.later oX_w26.out hb27)
    have oG_w27 := hidP (OwnG.later oG_w26.out hb27)
    have oH_w27 := hidP (OwnG.later oH_w26.out hb27)
    have oP_w27 := hidP (OwnG.later oP_w26.out hb27)
    have oQ_w27 := hidP (OwnG.later oQ_w26.out hb27)
    have acc_w27 := hidP (acc_w26.out.trans (hb27.mono acc_w26.out.size))
    have sz_w27 : Hid (w26.heap.size ≤ w27.heap.size) := hidP hb27.size
    clear hb27 ab0_w26 ab1_w26 abF_w26 abL_w26 wa0_w26 wa1_w26 waF_w26 waL_w26 xa0_w26 xa1_w26 xaF_w26 xaL_w26 ga0_w26 ga1_w26 gaF_w26 gaL_w26 va0_w26 va1_w26 vaF_w26 vaL_w26 oW_w26 oV_w26 oX_w26 oG_w26 oH_w26 oP_w26 oQ_w26 acc_w26
    go_wp2_with fail
    go_ret
    exact ⟨rfl, acc_w27.out⟩
  · rw [szT_no ht] at HSz
    clear hP hn hst ht
    go_enter Try.func8, Try.ntmps8
    go_wp2_with fail
    refine (HSz.out _ (alloc_below w _)).mono ?_
    rintro e w2 ⟨rfl, hb2⟩
    go_wp2_with fail
    go_ret
    exact ⟨rfl, (alloc_below w _).trans (hb2.mono (alloc_below w _).size)⟩

theorem trodAll_nil {H : Type} {enc : TypeId × Value → H} {P : Program} {W : World} {base : Nat} {sp : Nat → Bool} {held : Bool} {ts : List TypeId} {vs : List Value} {ds : List (DataW H)} {p : List MemPlace} (h : DataW.TrodAll enc P W base sp held ts vs ds (p ++ [])) : DataW.TrodAll enc P W base sp held ts vs ds p := by
  rw [List.append_nil] at h; exact h
set_option maxRecDepth 100000 in
theorem expireSessions_lifted (os : Os) (started : os.Started) (H : Type) (enc : TypeId × Value → H) :
    ReturnsInHanded {} Try.checked os 8 .any (Rows.fnExactExpireSessionsSpec.pre6 enc Try.prog Try.f8 Rows.fnExactExpireSessionsRow.domain false) (Rows.fnExactExpireSessionsSpec.post enc Try.prog Try.f8 false true false false) := by
  refine returnsInHanded_of_change (C := Try.checked) Try.ownB7 started (by kernel_rfl) Try.func8
    (ChangeSpec.witness6 (enc := enc) (C := Try.checked) false ⟨#[], #[.agg #[.slice none 0 0, .int .i64 0], .int .i64 0], []⟩ 8 (by kernel_rfl) (by kernel_rfl) (by kernel_rfl) (by kernel_rfl)) ?_
  intro W base args ds gs before hval0 hW _ _
  have hval : ∀ (j : Nat) t v, Try.f8.params[j]? = some t → args[j]? = some v → Value.okWide Try.prog W .any base t v := hval0
  have hW' := hW
  obtain ⟨p, q, hA0, hV, rfl, _, _⟩ := hW
  have hA : DataW.TrodAll enc Try.prog W 0 (fun _ => true) true Try.f8.params.toList args.toList ds p := hA0
  rw [Try.params8] at hA hval
  obtain ⟨v0, v1, d0, d1, p0, p1, rfl, rfl, rfl, h0, h1⟩ := trodAll_two hA
  obtain ⟨rfl, rfl⟩ := trodVars_none hV
  obtain ⟨a, n, c, N, ls, rfl, hn, hP, h9, hst, _⟩ := openDesk (hval 0 24 v0 rfl rfl) h0
  obtain ⟨now, rfl, rfl, rfl, wu⟩ := open_int Try.underlying3 (hval 1 3 v1 rfl rfl) h1
  clear hA0 hval0
  simp only [List.append_nil] at hW'
  have hlt0 : ∀ x ∈ p0, x.block < W.heap.size := fun x hx => by simpa using hW'.lt x hx
  refine (lawExpireSessions a n c N ls now W hn hP h9 hst).mono fun e W' ⟨he, hb⟩ => ?_
  subst he
  exact ⟨_, rfl, ⟨_, _, _, [], p0, [], hW', trodAll_mk1 (shut_bool Try.underlying4 true), trodAll_nil (trodAll_mk2 (Below.trod Try.laidOutB7 (by kernel_rfl) (of_decide_eq_true (by kernel_rfl)) h0 hb hlt0) (shut_int Try.underlying3 wu)), rfl, hb.frame _, fun h => by cases h⟩⟩

theorem expireSessions_holds : Rows.FnExactExpireSessionsSaid :=
  OpenClaim.holds_of_wide 8 Try.f8 rfl rfl rfl rfl rfl rfl rfl ⟨rfl, rfl, rfl, rfl, rfl⟩ rfl rfl rfl rfl rfl (by kernel_rfl) Try.func8 (by kernel_rfl)
    (of_decide_eq_true (by kernel_rfl)) (by unfold Func.isWrapper; rw [if_neg (of_decide_eq_false (by kernel_rfl))]; exact ⟨rfl, rfl⟩)
    (fun os started H enc _ => expireSessions_lifted os started H enc)

end Go.Proofs.Ytmlijlhlafdkbaa
