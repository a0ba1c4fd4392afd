/-
  For every code: a session opened at the desk that is drawn has an Id that none had, and ends just when its time is over, as the law FnSessions asks; no condition.
-/
import Derived.Test.YtjenbmiiikeenaaWOp7
import Derived.Test.YtjenbmiiikeenaaK7Math
import Derived.ProofKit
import Derived.Lib.SmallJoins
import Derived.Carry
import Derived.Deep.Slices
import Derived.ChangeMaps5
namespace Go.Proofs.Ytjenbmiiikeenaa
open Go.ChangeShapes Go.WideShapes Go.ChangeAt Go.RowKit Go.Joins Go.Deep

theorem bigF (a : Option Addr) (len cap : Nat) (w : World) :
    Calls Try.prog 5 #[.slice a len cap] w fun e w' => e = .returned (.bool (decide ((1048576 : Int) < (len : Int)))) ∧ w' = w := by
  cases d : decide ((1048576 : Int) < (len : Int))
  all_goals
    go_enter Try.func5, Try.ntmps5
    go_wp2
    go_ret
    exact ⟨rfl, rfl⟩

theorem ex_zero {n : Nat} {N : Int} {L : List Ss} (hn : n = L.length) (h : dkB L N = true) (W : World) (a : Option Addr) (c : Nat) (e1 : RowG KSs W a L) :
    Calls Try.prog 16 #[.agg #[.slice a n c, .int .i64 N], .int .i64 0] W fun e w' => ∃ a' c' b' d', e = .returned (.tuple #[.agg #[.slice a' n c', .int .i64 N], .slice b' 0 d']) ∧ OwnG KSs 39 w' W.heap.size (.slice a' n c') L ∧ Below W.heap.size W w' := by
  have h12 := (dk_next h).1
  refine (iEx_yes a n c N L W hn e1 (by omega) 0 h).mono fun e w' ⟨a', c', b', d', h1, h2, _, _, h5⟩ => ?_
  rw [(stay_all h).1, (stay_all h).2, ← hn] at h1
  rw [(stay_all h).1, ← hn] at h2
  exact ⟨a', c', b', d', h1, h2, h5⟩
theorem ex_late {n : Nat} {N : Int} {L : List Ss} (hn : n = L.length) (h : dkB L N = true) (now : Int) (GS : List Int) (nG : Nat) (hG : GS = goneS now L) (hnG : nG = GS.length) (W : World) (a : Option Addr) (c : Nat) (e1 : RowG KSs W a L) :
    Calls Try.prog 16 #[.agg #[.slice a n c, .int .i64 N], .int .i64 now] W fun e w' => ∃ a' n' c' b' d', e = .returned (.tuple #[.agg #[.slice a' n' c', .int .i64 N], .slice b' nG d']) ∧ OwnG KI 3 w' W.heap.size (.slice b' nG d') GS ∧ Below W.heap.size W w' := by
  have h12 := (dk_next h).1
  subst hG hnG
  exact (iEx_yes a n c N L W hn e1 (by omega) now h).mono fun e w' ⟨a', c', b', d', h1, _, h3, _, h5⟩ => ⟨a', _, c', b', d', h1, h3, h5⟩

set_option maxRecDepth 10000 in
set_option maxHeartbeats 8000000 in
theorem lawSessions (a : Option Addr) (len cap : Nat) (w : World) (hB : Bytes w a len) :
    Calls Try.prog 4 #[.slice a len cap] w fun e w' => e = .returned (.bool true) ∧ Below w.heap.size w w' := by
  have HG := hidP (bigF a len cap)
  cases hbig : decide ((1048576 : Int) < (len : Int))
  rotate_left
  · rw [hbig] at HG
    clear hB
    go_enter Try.func4, Try.ntmps4
    go_wp2_with fail
    refine (HG.out _).mono ?_
    rintro e w0 ⟨rfl, hw0⟩
    rw [hw0]
    clear hw0 w0
    go_wp2_with fail
    go_ret
    exact ⟨rfl, Below.refl _ _⟩
  rw [hbig] at HG
  have hl : len ≤ 1048576 := by have := of_decide_eq_false hbig; omega
  have HDr := hidP (drawOpen_any a len cap w hB hl)
  clear hB hbig
  go_enter Try.func4, Try.ntmps4
  go_wp2_with fail
  refine (HG.out _).mono ?_
  rintro e w0 ⟨rfl, hw0⟩
  rw [hw0]
  clear hw0 w0
  go_wp2_with fail
  refine (HDr.out).mono ?_
  rintro e w1 ⟨b, n, d, N, ls, u, rfl, hn, h12, hoD, hb1⟩
  have OD := hidP hoD
  have HN := hidP hn
  have HCp := hidP (OwnG.caps hoD).2.2.2
  clear hoD hn
  have acc_w1 := hidP (hb1)
  have sz_w1 : Hid (w.heap.size ≤ w1.heap.size) := hidP hb1.size
  clear hb1 
  have oD_w1 := hidP (OD.out)
  have lhD : Hid (∀ k, (Value.slice b n d).ownBlock = some k → w.heap.size ≤ k ∧ k < w1.heap.size) := hidP (fun k hk => OwnG.lt oD_w1.out k hk)
  clear OD
  go_wp2_with fail
  obtain ⟨bd0_W2, bd1_W2⟩ := box2D w1 26 (.slice b n d) (.int .i64 N)
  have bdF_W2 : ∀ o, (w1.alloc (.cells #[.slice b n d, .int .i64 N] 26)).frozen? ⟨w1.heap.size, o, none⟩ = false := fun o => by simp [go_sem]
  have bdL_W2 : w1.heap.size < (w1.alloc (.cells #[.slice b n d, .int .i64 N] 26)).heap.size := by simp
  have ab_W2 := alloc_below w1 (.cells #[.slice b n d, .int .i64 N] 26)
  have as_W2 : Hid ((w1.alloc (.cells #[.slice b n d, .int .i64 N] 26)).heap.size = w1.heap.size + 1) := hidP (by simp)
  generalize w1.alloc (.cells #[.slice b n d, .int .i64 N] 26) = W2 at *
  have oD_W2 := hidP (OwnG.later oD_w1.out ab_W2)
  have acc_W2 := hidP (acc_w1.out.trans (ab_W2.mono acc_w1.out.size))
  have sz_W2 : Hid (w1.heap.size ≤ W2.heap.size) := hidP ab_W2.size
  clear ab_W2 oD_w1 acc_w1
  cases hr : (dkB ls N && (!((n : Int) == 12) && (!(N == 1000000) && tmB u)))
  · refine (iOp_no b n d N ls _ HN.out oD_W2.out.row (by omega) u hr).mono ?_
    rintro e w3 ⟨A3, C3, rfl, oR, hb3⟩
    clear oR
    have bd0_w3 := (hb3.cell bdL_W2).trans bd0_W2
    have bd1_w3 := (hb3.cell bdL_W2).trans bd1_W2
    have bdF_w3 : ∀ o, w3.frozen? ⟨w1.heap.size, o, none⟩ = false := fun o => (hb3.frozen bdL_W2).trans (bdF_W2 o)
    have bdL_w3 : w1.heap.size < w3.heap.size := Nat.lt_of_lt_of_le bdL_W2 hb3.size
    have oD_w3 := hidP (OwnG.later oD_W2.out hb3)
    have acc_w3 := hidP (acc_W2.out.trans (hb3.mono acc_W2.out.size))
    have sz_w3 : Hid (W2.heap.size ≤ w3.heap.size) := hidP hb3.size
    clear hb3 bd0_W2 bd1_W2 bdF_W2 bdL_W2 oD_W2 acc_W2
    go_wp2_with fail
    obtain ⟨bn0_W4, bn1_W4⟩ := box2D w3 26 (.slice A3 n C3) (.int .i64 N)
    have bnF_W4 : ∀ o, (w3.alloc (.cells #[.slice A3 n C3, .int .i64 N] 26)).frozen? ⟨w3.heap.size, o, none⟩ = false := fun o => by simp [go_sem]
    have bnL_W4 : w3.heap.size < (w3.alloc (.cells #[.slice A3 n C3, .int .i64 N] 26)).heap.size := by simp
    have ab_W4 := alloc_below w3 (.cells #[.slice A3 n C3, .int .i64 N] 26)
    have as_W4 : Hid ((w3.alloc (.cells #[.slice A3 n C3, .int .i64 N] 26)).heap.size = w3.heap.size + 1) := hidP (by simp)
    generalize w3.alloc (.cells #[.slice A3 n C3, .int .i64 N] 26) = W4 at *
    have bd0_W4 := (ab_W4.cell bdL_w3).trans bd0_w3
    have bd1_W4 := (ab_W4.cell bdL_w3).trans bd1_w3
    have bdF_W4 : ∀ o, W4.frozen? ⟨w1.heap.size, o, none⟩ = false := fun o => (ab_W4.frozen bdL_w3).trans (bdF_w3 o)
    have bdL_W4 : w1.heap.size < W4.heap.size := Nat.lt_of_lt_of_le bdL_w3 ab_W4.size
    have oD_W4 := hidP (OwnG.later oD_w3.out ab_W4)
    have acc_W4 := hidP (acc_w3.out.trans (ab_W4.mono acc_w3.out.size))
    have sz_W4 : Hid (w3.heap.size ≤ W4.heap.size) := hidP ab_W4.size
    clear ab_W4 bd0_w3 bd1_w3 bdF_w3 bdL_w3 oD_w3 acc_w3
    refine (sOp_no b n d N ls _ HN.out oD_W4.out.row HCp.out (by omega) u hr).mono ?_
    rintro e w5 ⟨A5, C5, rfl, oR, hb5⟩
    clear oR
    have bd0_w5 := (hb5.cell bdL_W4).trans bd0_W4
    have bd1_w5 := (hb5.cell bdL_W4).trans bd1_W4
    have bdF_w5 : ∀ o, w5.frozen? ⟨w1.heap.size, o, none⟩ = false := fun o => (hb5.frozen bdL_W4).trans (bdF_W4 o)
    have bdL_w5 : w1.heap.size < w5.heap.size := Nat.lt_of_lt_of_le bdL_W4 hb5.size
    have bn0_w5 := (hb5.cell bnL_W4).trans bn0_W4
    have bn1_w5 := (hb5.cell bnL_W4).trans bn1_W4
    have bnF_w5 : ∀ o, w5.frozen? ⟨w3.heap.size, o, none⟩ = false := fun o => (hb5.frozen bnL_W4).trans (bnF_W4 o)
    have bnL_w5 : w3.heap.size < w5.heap.size := Nat.lt_of_lt_of_le bnL_W4 hb5.size
    have oD_w5 := hidP (OwnG.later oD_W4.out hb5)
    have acc_w5 := hidP (acc_W4.out.trans (hb5.mono acc_W4.out.size))
    have sz_w5 : Hid (W4.heap.size ≤ w5.heap.size) := hidP hb5.size
    clear hb5 bd0_W4 bd1_W4 bdF_W4 bdL_W4 bn0_W4 bn1_W4 bnF_W4 bnL_W4 oD_W4 acc_W4
    go_wp2_with fail
    go_ret
    exact ⟨rfl, acc_w5.out.alloc acc_w5.out.size _⟩
  · have hr' := hr
    simp only [Bool.and_eq_true, Bool.not_eq_true', beq_eq_false_iff_ne] at hr'
    obtain ⟨hb, hx1, hx2, hx3⟩ := hr'
    obtain ⟨_, hN0, hN1, hsf⟩ := dk_next hb
    unfold tmB at hx3
    simp only [Bool.and_eq_true, decide_eq_true_eq] at hx3
    obtain ⟨hu0, hu1⟩ := hx3
    have hNz : (N == 0) = false := by rw [beq_eq_false_iff_ne]; omega
    have hwN : IntKind.i64.wrap (N + 1) = N + 1 := by rw [IntKind.wrap_i64]; omega
    have hwu : IntKind.i64.wrap (u + 1) = u + 1 := by rw [IntKind.wrap_i64]; omega
    have HLn : Hid (n + 1 = (ls ++ [(⟨N, 0, ⟨#[]⟩, u⟩ : Ss)]).length) := hidP (by rw [List.length_append, ← HN.out]; rfl)
    have HdL := hidP (dkB_app HN.out hr)
    have HFn := hidP (find_new (u := u) HN.out hsf)
    have HM := hidP (fun q hq => (sesF_mem hsf q hq).2.1)
    have HE0 := hidP (ex_zero HLn.out HdL.out)
    obtain ⟨GS, hGS⟩ : ∃ GS, GS = goneS (u + 1) (ls ++ [(⟨N, 0, ⟨#[]⟩, u⟩ : Ss)]) := ⟨_, rfl⟩
    obtain ⟨nG, hnG⟩ : ∃ nG, nG = GS.length := ⟨_, rfl⟩
    have HE1 := hidP (ex_late HLn.out HdL.out (u + 1) GS nG hGS hnG)
    have hnG9 : nG ≤ 1048576 := by have := (stay_len (u + 1) (ls ++ [(⟨N, 0, ⟨#[]⟩, u⟩ : Ss)])).2; rw [← hGS, ← hnG, ← HLn.out] at this; omega
    have HAny : Hid (GS.any (fun x => x == N) = true) := hidP (by rw [hGS]; exact gone_new N u ls)
    have HnG := hidP hnG
    have hA0 : askN 0 1 = 0 := rfl
    have HAk := hidP (fun W a c e1 => iAsk_yes a (n + 1) c (N + 1) _ W HLn.out e1 (by omega) N 1 HdL.out n HFn.out.1 _ HFn.out.2)
    obtain ⟨AT, hAT⟩ : ∃ AT, AT = askT (⟨N, 0, ⟨#[]⟩, u⟩ : Ss) 1 := ⟨_, rfl⟩
    simp only [← hAT] at HAk
    rw [hA0] at HAk
    clear hAT hA0
    have HDk := hidP (fun W a c e1 => iDeskOk_any a (n + 1) c (N + 1) _ W HLn.out e1 (by omega))
    rw [HdL.out] at HDk
    have HOp := hidP (iOp_yes b n d N ls W2 HN.out oD_W2.out.row (by omega) u hr)
    have HSp := hidP (fun W e1 => sOp_yes b n d N ls W HN.out e1 HCp.out (by omega) u hr)
    clear hr hb hx1 hx2 hsf hnG hGS
    refine (HOp.out).mono ?_
    rintro e w3 ⟨A3, C3, rfl, oR, hb3⟩
    have OR := hidP oR
    clear oR HOp
    have bd0_w3 := (hb3.cell bdL_W2).trans bd0_W2
    have bd1_w3 := (hb3.cell bdL_W2).trans bd1_W2
    have bdF_w3 : ∀ o, w3.frozen? ⟨w1.heap.size, o, none⟩ = false := fun o => (hb3.frozen bdL_W2).trans (bdF_W2 o)
    have bdL_w3 : w1.heap.size < w3.heap.size := Nat.lt_of_lt_of_le bdL_W2 hb3.size
    have oD_w3 := hidP (OwnG.later oD_W2.out hb3)
    have acc_w3 := hidP (acc_W2.out.trans (hb3.mono acc_W2.out.size))
    have sz_w3 : Hid (W2.heap.size ≤ w3.heap.size) := hidP hb3.size
    clear hb3 bd0_W2 bd1_W2 bdF_W2 bdL_W2 oD_W2 acc_W2
    have oR_w3 := hidP (OR.out)
    have lhR : Hid (∀ k, (Value.slice A3 (n + 1) C3).ownBlock = some k → W2.heap.size ≤ k ∧ k < w3.heap.size) := hidP (fun k hk => OwnG.lt oR_w3.out k hk)
    clear OR
    go_wp2_with fail
    obtain ⟨bn0_W4, bn1_W4⟩ := box2D w3 26 (.slice A3 (n + 1) C3) (.int .i64 (N + 1))
    have bnF_W4 : ∀ o, (w3.alloc (.cells #[.slice A3 (n + 1) C3, .int .i64 (N + 1)] 26)).frozen? ⟨w3.heap.size, o, none⟩ = false := fun o => by simp [go_sem]
    have bnL_W4 : w3.heap.size < (w3.alloc (.cells #[.slice A3 (n + 1) C3, .int .i64 (N + 1)] 26)).heap.size := by simp
    have ab_W4 := alloc_below w3 (.cells #[.slice A3 (n + 1) C3, .int .i64 (N + 1)] 26)
    have as_W4 : Hid ((w3.alloc (.cells #[.slice A3 (n + 1) C3, .int .i64 (N + 1)] 26)).heap.size = w3.heap.size + 1) := hidP (by simp)
    generalize w3.alloc (.cells #[.slice A3 (n + 1) C3, .int .i64 (N + 1)] 26) = W4 at *
    have bd0_W4 := (ab_W4.cell bdL_w3).trans bd0_w3
    have bd1_W4 := (ab_W4.cell bdL_w3).trans bd1_w3
    have bdF_W4 : ∀ o, W4.frozen? ⟨w1.heap.size, o, none⟩ = false := fun o => (ab_W4.frozen bdL_w3).trans (bdF_w3 o)
    have bdL_W4 : w1.heap.size < W4.heap.size := Nat.lt_of_lt_of_le bdL_w3 ab_W4.size
    have oD_W4 := hidP (OwnG.later oD_w3.out ab_W4)
    have oR_W4 := hidP (OwnG.later oR_w3.out ab_W4)
    have acc_W4 := hidP (acc_w3.out.trans (ab_W4.mono acc_w3.out.size))
    have sz_W4 : Hid (w3.heap.size ≤ W4.heap.size) := hidP ab_W4.size
    clear ab_W4 bd0_w3 bd1_w3 bdF_w3 bdL_w3 oD_w3 oR_w3 acc_w3
    refine (HSp.out _ oD_W4.out.row).mono ?_
    rintro e w5 ⟨A5, C5, rfl, oR, hb5⟩
    clear oR HSp
    have bd0_w5 := (hb5.cell bdL_W4).trans bd0_W4
    have bd1_w5 := (hb5.cell bdL_W4).trans bd1_W4
    have bdF_w5 : ∀ o, w5.frozen? ⟨w1.heap.size, o, none⟩ = false := fun o => (hb5.frozen bdL_W4).trans (bdF_W4 o)
    have bdL_w5 : w1.heap.size < w5.heap.size := Nat.lt_of_lt_of_le bdL_W4 hb5.size
    have bn0_w5 := (hb5.cell bnL_W4).trans bn0_W4
    have bn1_w5 := (hb5.cell bnL_W4).trans bn1_W4
    have bnF_w5 : ∀ o, w5.frozen? ⟨w3.heap.size, o, none⟩ = false := fun o => (hb5.frozen bnL_W4).trans (bnF_W4 o)
    have bnL_w5 : w3.heap.size < w5.heap.size := Nat.lt_of_lt_of_le bnL_W4 hb5.size
    have oD_w5 := hidP (OwnG.later oD_W4.out hb5)
    have oR_w5 := hidP (OwnG.later oR_W4.out hb5)
    have acc_w5 := hidP (acc_W4.out.trans (hb5.mono acc_W4.out.size))
    have sz_w5 : Hid (W4.heap.size ≤ w5.heap.size) := hidP hb5.size
    clear hb5 bd0_W4 bd1_W4 bdF_W4 bdL_W4 bn0_W4 bn1_W4 bnF_W4 bnL_W4 oD_W4 oR_W4 acc_W4
    go_wp2_with fail
    obtain ⟨bw0_W6, bw1_W6⟩ := box2D w5 26 (.slice A5 (n + 1) C5) (.int .i64 (N + 1))
    have bwF_W6 : ∀ o, (w5.alloc (.cells #[.slice A5 (n + 1) C5, .int .i64 (N + 1)] 26)).frozen? ⟨w5.heap.size, o, none⟩ = false := fun o => by simp [go_sem]
    have bwL_W6 : w5.heap.size < (w5.alloc (.cells #[.slice A5 (n + 1) C5, .int .i64 (N + 1)] 26)).heap.size := by simp
    have ab_W6 := alloc_below w5 (.cells #[.slice A5 (n + 1) C5, .int .i64 (N + 1)] 26)
    have as_W6 : Hid ((w5.alloc (.cells #[.slice A5 (n + 1) C5, .int .i64 (N + 1)] 26)).heap.size = w5.heap.size + 1) := hidP (by simp)
    generalize w5.alloc (.cells #[.slice A5 (n + 1) C5, .int .i64 (N + 1)] 26) = W6 at *
    have bd0_W6 := (ab_W6.cell bdL_w5).trans bd0_w5
    have bd1_W6 := (ab_W6.cell bdL_w5).trans bd1_w5
    have bdF_W6 : ∀ o, W6.frozen? ⟨w1.heap.size, o, none⟩ = false := fun o => (ab_W6.frozen bdL_w5).trans (bdF_w5 o)
    have bdL_W6 : w1.heap.size < W6.heap.size := Nat.lt_of_lt_of_le bdL_w5 ab_W6.size
    have bn0_W6 := (ab_W6.cell bnL_w5).trans bn0_w5
    have bn1_W6 := (ab_W6.cell bnL_w5).trans bn1_w5
    have bnF_W6 : ∀ o, W6.frozen? ⟨w3.heap.size, o, none⟩ = false := fun o => (ab_W6.frozen bnL_w5).trans (bnF_w5 o)
    have bnL_W6 : w3.heap.size < W6.heap.size := Nat.lt_of_lt_of_le bnL_w5 ab_W6.size
    have oD_W6 := hidP (OwnG.later oD_w5.out ab_W6)
    have oR_W6 := hidP (OwnG.later oR_w5.out ab_W6)
    have acc_W6 := hidP (acc_w5.out.trans (ab_W6.mono acc_w5.out.size))
    have sz_W6 : Hid (w5.heap.size ≤ W6.heap.size) := hidP ab_W6.size
    clear ab_W6 bd0_w5 bd1_w5 bdF_w5 bdL_w5 bn0_w5 bn1_w5 bnF_w5 bnL_w5 oD_w5 oR_w5 acc_w5
    go_loopw [9] (fun t9 wr => ∃ k : Nat, k ≤ n ∧ t9 = .int .i64 k ∧ W6 = wr) (fun t9 _ => n - (intOf t9).toNat)
    case atStart => exact ⟨0, Nat.zero_le _, rfl, rfl⟩
    case round =>
      obtain ⟨k, hk, rfl, rfl⟩ := hrel
      by_cases hlt : k < n
      · obtain ⟨pp, oo, q, rfl, hp, hq, c0, c1, c2, c3⟩ := rowSs oD_W6.out.row k (by rw [← HN.out]; exact hlt)
        have hqN := HM.out q (List.mem_of_getElem? hq)
        have g1 : decide (N ≤ q.i) = false := decide_eq_false (by omega)
        clear hq c1 c2 c3 hqN
        go_wp2_with fail
        go_roundw
        case rel => exact ⟨k + 1, by omega, by go_num, by simp⟩
        case measure => simp [intOf]; omega
      · go_wp2_with fail
        clear hlt hk
        refine (HE0.out _ A3 C3 oR_W6.out.row).mono ?_
        rintro e w7 ⟨A7, C7, B7, D7, rfl, oS, hb7⟩
        have OS := hidP oS
        clear oS
        have bd0_w7 := (hb7.cell bdL_W6).trans bd0_W6
        have bd1_w7 := (hb7.cell bdL_W6).trans bd1_W6
        have bdF_w7 : ∀ o, w7.frozen? ⟨w1.heap.size, o, none⟩ = false := fun o => (hb7.frozen bdL_W6).trans (bdF_W6 o)
        have bdL_w7 : w1.heap.size < w7.heap.size := Nat.lt_of_lt_of_le bdL_W6 hb7.size
        have bn0_w7 := (hb7.cell bnL_W6).trans bn0_W6
        have bn1_w7 := (hb7.cell bnL_W6).trans bn1_W6
        have bnF_w7 : ∀ o, w7.frozen? ⟨w3.heap.size, o, none⟩ = false := fun o => (hb7.frozen bnL_W6).trans (bnF_W6 o)
        have bnL_w7 : w3.heap.size < w7.heap.size := Nat.lt_of_lt_of_le bnL_W6 hb7.size
        have bw0_w7 := (hb7.cell bwL_W6).trans bw0_W6
        have bw1_w7 := (hb7.cell bwL_W6).trans bw1_W6
        have bwF_w7 : ∀ o, w7.frozen? ⟨w5.heap.size, o, none⟩ = false := fun o => (hb7.frozen bwL_W6).trans (bwF_W6 o)
        have bwL_w7 : w5.heap.size < w7.heap.size := Nat.lt_of_lt_of_le bwL_W6 hb7.size
        have oD_w7 := hidP (OwnG.later oD_W6.out hb7)
        have oR_w7 := hidP (OwnG.later oR_W6.out hb7)
        have acc_w7 := hidP (acc_W6.out.trans (hb7.mono acc_W6.out.size))
        have sz_w7 : Hid (W6.heap.size ≤ w7.heap.size) := hidP hb7.size
        clear hb7 bd0_W6 bd1_W6 bdF_W6 bdL_W6 bn0_W6 bn1_W6 bnF_W6 bnL_W6 bw0_W6 bw1_W6 bwF_W6 bwL_W6 oD_W6 oR_W6 acc_W6
        have oS_w7 := hidP (OS.out)
        have lhS : Hid (∀ k, (Value.slice A7 (n + 1) C7).ownBlock = some k → W6.heap.size ≤ k ∧ k < w7.heap.size) := hidP (fun k hk => OwnG.lt oS_w7.out k hk)
        clear OS
        go_wp2_with fail
        obtain ⟨bs0_W8, bs1_W8⟩ := box2D w7 26 (.slice A7 (n + 1) C7) (.int .i64 (N + 1))
        have bsF_W8 : ∀ o, (w7.alloc (.cells #[.slice A7 (n + 1) C7, .int .i64 (N + 1)] 26)).frozen? ⟨w7.heap.size, o, none⟩ = false := fun o => by simp [go_sem]
        have bsL_W8 : w7.heap.size < (w7.alloc (.cells #[.slice A7 (n + 1) C7, .int .i64 (N + 1)] 26)).heap.size := by simp
        have ab_W8 := alloc_below w7 (.cells #[.slice A7 (n + 1) C7, .int .i64 (N + 1)] 26)
        have as_W8 : Hid ((w7.alloc (.cells #[.slice A7 (n + 1) C7, .int .i64 (N + 1)] 26)).heap.size = w7.heap.size + 1) := hidP (by simp)
        generalize w7.alloc (.cells #[.slice A7 (n + 1) C7, .int .i64 (N + 1)] 26) = W8 at *
        have bd0_W8 := (ab_W8.cell bdL_w7).trans bd0_w7
        have bd1_W8 := (ab_W8.cell bdL_w7).trans bd1_w7
        have bdF_W8 : ∀ o, W8.frozen? ⟨w1.heap.size, o, none⟩ = false := fun o => (ab_W8.frozen bdL_w7).trans (bdF_w7 o)
        have bdL_W8 : w1.heap.size < W8.heap.size := Nat.lt_of_lt_of_le bdL_w7 ab_W8.size
        have bn0_W8 := (ab_W8.cell bnL_w7).trans bn0_w7
        have bn1_W8 := (ab_W8.cell bnL_w7).trans bn1_w7
        have bnF_W8 : ∀ o, W8.frozen? ⟨w3.heap.size, o, none⟩ = false := fun o => (ab_W8.frozen bnL_w7).trans (bnF_w7 o)
        have bnL_W8 : w3.heap.size < W8.heap.size := Nat.lt_of_lt_of_le bnL_w7 ab_W8.size
        have bw0_W8 := (ab_W8.cell bwL_w7).trans bw0_w7
        have bw1_W8 := (ab_W8.cell bwL_w7).trans bw1_w7
        have bwF_W8 : ∀ o, W8.frozen? ⟨w5.heap.size, o, none⟩ = false := fun o => (ab_W8.frozen bwL_w7).trans (bwF_w7 o)
        have bwL_W8 : w5.heap.size < W8.heap.size := Nat.lt_of_lt_of_le bwL_w7 ab_W8.size
        have oD_W8 := hidP (OwnG.later oD_w7.out ab_W8)
        have oR_W8 := hidP (OwnG.later oR_w7.out ab_W8)
        have oS_W8 := hidP (OwnG.later oS_w7.out ab_W8)
        have acc_W8 := hidP (acc_w7.out.trans (ab_W8.mono acc_w7.out.size))
        have sz_W8 : Hid (w7.heap.size ≤ W8.heap.size) := hidP ab_W8.size
        clear ab_W8 bd0_w7 bd1_w7 bdF_w7 bdL_w7 bn0_w7 bn1_w7 bnF_w7 bnL_w7 bw0_w7 bw1_w7 bwF_w7 bwL_w7 oD_w7 oR_w7 oS_w7 acc_w7
        refine (HE1.out _ A3 C3 oR_W8.out.row).mono ?_
        rintro e w9 ⟨A9, n9, C9, B9, D9, rfl, oG, hb9⟩
        have OG := hidP oG
        clear oG
        have bd0_w9 := (hb9.cell bdL_W8).trans bd0_W8
        have bd1_w9 := (hb9.cell bdL_W8).trans bd1_W8
        have bdF_w9 : ∀ o, w9.frozen? ⟨w1.heap.size, o, none⟩ = false := fun o => (hb9.frozen bdL_W8).trans (bdF_W8 o)
        have bdL_w9 : w1.heap.size < w9.heap.size := Nat.lt_of_lt_of_le bdL_W8 hb9.size
        have bn0_w9 := (hb9.cell bnL_W8).trans bn0_W8
        have bn1_w9 := (hb9.cell bnL_W8).trans bn1_W8
        have bnF_w9 : ∀ o, w9.frozen? ⟨w3.heap.size, o, none⟩ = false := fun o => (hb9.frozen bnL_W8).trans (bnF_W8 o)
        have bnL_w9 : w3.heap.size < w9.heap.size := Nat.lt_of_lt_of_le bnL_W8 hb9.size
        have bw0_w9 := (hb9.cell bwL_W8).trans bw0_W8
        have bw1_w9 := (hb9.cell bwL_W8).trans bw1_W8
        have bwF_w9 : ∀ o, w9.frozen? ⟨w5.heap.size, o, none⟩ = false := fun o => (hb9.frozen bwL_W8).trans (bwF_W8 o)
        have bwL_w9 : w5.heap.size < w9.heap.size := Nat.lt_of_lt_of_le bwL_W8 hb9.size
        have bs0_w9 := (hb9.cell bsL_W8).trans bs0_W8
        have bs1_w9 := (hb9.cell bsL_W8).trans bs1_W8
        have bsF_w9 : ∀ o, w9.frozen? ⟨w7.heap.size, o, none⟩ = false := fun o => (hb9.frozen bsL_W8).trans (bsF_W8 o)
        have bsL_w9 : w7.heap.size < w9.heap.size := Nat.lt_of_lt_of_le bsL_W8 hb9.size
        have oD_w9 := hidP (OwnG.later oD_W8.out hb9)
        have oR_w9 := hidP (OwnG.later oR_W8.out hb9)
        have oS_w9 := hidP (OwnG.later oS_W8.out hb9)
        have acc_w9 := hidP (acc_W8.out.trans (hb9.mono acc_W8.out.size))
        have sz_w9 : Hid (W8.heap.size ≤ w9.heap.size) := hidP hb9.size
        clear hb9 bd0_W8 bd1_W8 bdF_W8 bdL_W8 bn0_W8 bn1_W8 bnF_W8 bnL_W8 bw0_W8 bw1_W8 bwF_W8 bwL_W8 bs0_W8 bs1_W8 bsF_W8 bsL_W8 oD_W8 oR_W8 oS_W8 acc_W8
        have oG_w9 := hidP (OG.out)
        have lhG : Hid (∀ k, (Value.slice B9 nG D9).ownBlock = some k → W8.heap.size ≤ k ∧ k < w9.heap.size) := hidP (fun k hk => OwnG.lt oG_w9.out k hk)
        clear OG
        go_wp2_with fail
        obtain ⟨bg0_WA, bg1_WA⟩ := box2D w9 26 (.slice A9 n9 C9) (.int .i64 (N + 1))
        have bgF_WA : ∀ o, (w9.alloc (.cells #[.slice A9 n9 C9, .int .i64 (N + 1)] 26)).frozen? ⟨w9.heap.size, o, none⟩ = false := fun o => by simp [go_sem]
        have bgL_WA : w9.heap.size < (w9.alloc (.cells #[.slice A9 n9 C9, .int .i64 (N + 1)] 26)).heap.size := by simp
        have ab_WA := alloc_below w9 (.cells #[.slice A9 n9 C9, .int .i64 (N + 1)] 26)
        have as_WA : Hid ((w9.alloc (.cells #[.slice A9 n9 C9, .int .i64 (N + 1)] 26)).heap.size = w9.heap.size + 1) := hidP (by simp)
        generalize w9.alloc (.cells #[.slice A9 n9 C9, .int .i64 (N + 1)] 26) = WA at *
        have bd0_WA := (ab_WA.cell bdL_w9).trans bd0_w9
        have bd1_WA := (ab_WA.cell bdL_w9).trans bd1_w9
        have bdF_WA : ∀ o, WA.frozen? ⟨w1.heap.size, o, none⟩ = false := fun o => (ab_WA.frozen bdL_w9).trans (bdF_w9 o)
        have bdL_WA : w1.heap.size < WA.heap.size := Nat.lt_of_lt_of_le bdL_w9 ab_WA.size
        have bn0_WA := (ab_WA.cell bnL_w9).trans bn0_w9
        have bn1_WA := (ab_WA.cell bnL_w9).trans bn1_w9
        have bnF_WA : ∀ o, WA.frozen? ⟨w3.heap.size, o, none⟩ = false := fun o => (ab_WA.frozen bnL_w9).trans (bnF_w9 o)
        have bnL_WA : w3.heap.size < WA.heap.size := Nat.lt_of_lt_of_le bnL_w9 ab_WA.size
        have bw0_WA := (ab_WA.cell bwL_w9).trans bw0_w9
        have bw1_WA := (ab_WA.cell bwL_w9).trans bw1_w9
        have bwF_WA : ∀ o, WA.frozen? ⟨w5.heap.size, o, none⟩ = false := fun o => (ab_WA.frozen bwL_w9).trans (bwF_w9 o)
        have bwL_WA : w5.heap.size < WA.heap.size := Nat.lt_of_lt_of_le bwL_w9 ab_WA.size
        have bs0_WA := (ab_WA.cell bsL_w9).trans bs0_w9
        have bs1_WA := (ab_WA.cell bsL_w9).trans bs1_w9
        have bsF_WA : ∀ o, WA.frozen? ⟨w7.heap.size, o, none⟩ = false := fun o => (ab_WA.frozen bsL_w9).trans (bsF_w9 o)
        have bsL_WA : w7.heap.size < WA.heap.size := Nat.lt_of_lt_of_le bsL_w9 ab_WA.size
        have oD_WA := hidP (OwnG.later oD_w9.out ab_WA)
        have oR_WA := hidP (OwnG.later oR_w9.out ab_WA)
        have oS_WA := hidP (OwnG.later oS_w9.out ab_WA)
        have oG_WA := hidP (OwnG.later oG_w9.out ab_WA)
        have acc_WA := hidP (acc_w9.out.trans (ab_WA.mono acc_w9.out.size))
        have sz_WA : Hid (w9.heap.size ≤ WA.heap.size) := hidP ab_WA.size
        clear ab_WA bd0_w9 bd1_w9 bdF_w9 bdL_w9 bn0_w9 bn1_w9 bnF_w9 bnL_w9 bw0_w9 bw1_w9 bwF_w9 bwL_w9 bs0_w9 bs1_w9 bsF_w9 bsL_w9 oD_w9 oR_w9 oS_w9 oG_w9 acc_w9
        go_loopw [14, 15] (fun t14 t15 wr => ∃ (k : Nat) (B : Bool), k ≤ nG ∧ t15 = .int .i64 k ∧ t14 = .bool B ∧ B = (GS.take k).any (fun x => x == N) ∧ WA = wr) (fun _ t15 _ => nG - (intOf t15).toNat)
        case atStart => exact ⟨0, false, Nat.zero_le _, rfl, rfl, rfl, rfl⟩
        case round =>
          obtain ⟨k, B, hk, rfl, rfl, hBk, rfl⟩ := hrel
          have HBk := hidP hBk
          clear hBk
          by_cases hlt : k < nG
          · obtain ⟨pp, oo, x, rfl, hp, hx, c0⟩ := rowI oG_WA.out.row k (by rw [← HnG.out]; exact hlt)
            have HX := hidP hx
            clear hx
            cases B
            · cases hxN : (x == N)
              · have HxN := hidP hxN
                go_wp2_with fail
                go_roundw
                case rel => exact ⟨k + 1, false, by omega, by go_num, rfl, by rw [any_take HX.out, ← HBk.out, HxN.out]; rfl, by simp⟩
                case measure => simp [intOf]; omega
              · have HxN := hidP hxN
                go_wp2_with fail
                go_roundw
                case rel => exact ⟨k + 1, true, by omega, by go_num, rfl, by rw [any_take HX.out, ← HBk.out, HxN.out]; rfl, by simp⟩
                case measure => simp [intOf]; omega
            · go_wp2_with fail
              go_roundw
              case rel => exact ⟨k + 1, true, by omega, by go_num, rfl, by rw [any_take HX.out, ← HBk.out]; rfl, by simp⟩
              case measure => simp [intOf]; omega
          · have hBt : B = true := by rw [HBk.out, List.take_of_length_le (by have := HnG.out; omega)]; exact HAny.out
            subst hBt
            clear HBk
            go_wp2_with fail
            clear hlt hk
            refine (HAk.out _ A7 C7 oS_WA.out.row).mono ?_
            rintro e wB ⟨rfl, hbB⟩
            have bd0_wB := (hbB.cell bdL_WA).trans bd0_WA
            have bd1_wB := (hbB.cell bdL_WA).trans bd1_WA
            have bdF_wB : ∀ o, wB.frozen? ⟨w1.heap.size, o, none⟩ = false := fun o => (hbB.frozen bdL_WA).trans (bdF_WA o)
            have bdL_wB : w1.heap.size < wB.heap.size := Nat.lt_of_lt_of_le bdL_WA hbB.size
            have bn0_wB := (hbB.cell bnL_WA).trans bn0_WA
            have bn1_wB := (hbB.cell bnL_WA).trans bn1_WA
            have bnF_wB : ∀ o, wB.frozen? ⟨w3.heap.size, o, none⟩ = false := fun o => (hbB.frozen bnL_WA).trans (bnF_WA o)
            have bnL_wB : w3.heap.size < wB.heap.size := Nat.lt_of_lt_of_le bnL_WA hbB.size
            have bw0_wB := (hbB.cell bwL_WA).trans bw0_WA
            have bw1_wB := (hbB.cell bwL_WA).trans bw1_WA
            have bwF_wB : ∀ o, wB.frozen? ⟨w5.heap.size, o, none⟩ = false := fun o => (hbB.frozen bwL_WA).trans (bwF_WA o)
            have bwL_wB : w5.heap.size < wB.heap.size := Nat.lt_of_lt_of_le bwL_WA hbB.size
            have bs0_wB := (hbB.cell bsL_WA).trans bs0_WA
            have bs1_wB := (hbB.cell bsL_WA).trans bs1_WA
            have bsF_wB : ∀ o, wB.frozen? ⟨w7.heap.size, o, none⟩ = false := fun o => (hbB.frozen bsL_WA).trans (bsF_WA o)
            have bsL_wB : w7.heap.size < wB.heap.size := Nat.lt_of_lt_of_le bsL_WA hbB.size
            have bg0_wB := (hbB.cell bgL_WA).trans bg0_WA
            have bg1_wB := (hbB.cell bgL_WA).trans bg1_WA
            have bgF_wB : ∀ o, wB.frozen? ⟨w9.heap.size, o, none⟩ = false := fun o => (hbB.frozen bgL_WA).trans (bgF_WA o)
            have bgL_wB : w9.heap.size < wB.heap.size := Nat.lt_of_lt_of_le bgL_WA hbB.size
            have oD_wB := hidP (OwnG.later oD_WA.out hbB)
            have oR_wB := hidP (OwnG.later oR_WA.out hbB)
            have oS_wB := hidP (OwnG.later oS_WA.out hbB)
            have oG_wB := hidP (OwnG.later oG_WA.out hbB)
            have acc_wB := hidP (acc_WA.out.trans (hbB.mono acc_WA.out.size))
            have sz_wB : Hid (WA.heap.size ≤ wB.heap.size) := hidP hbB.size
            clear hbB bd0_WA bd1_WA bdF_WA bdL_WA bn0_WA bn1_WA bnF_WA bnL_WA bw0_WA bw1_WA bwF_WA bwL_WA bs0_WA bs1_WA bsF_WA bsL_WA bg0_WA bg1_WA bgF_WA bgL_WA oD_WA oR_WA oS_WA oG_WA acc_WA
            go_wp2_with fail
            refine (HDk.out _ A3 C3 oR_wB.out.row).mono ?_
            rintro e wC ⟨rfl, hbC⟩
            have bd0_wC := (hbC.cell bdL_wB).trans bd0_wB
            have bd1_wC := (hbC.cell bdL_wB).trans bd1_wB
            have bdF_wC : ∀ o, wC.frozen? ⟨w1.heap.size, o, none⟩ = false := fun o => (hbC.frozen bdL_wB).trans (bdF_wB o)
            have bdL_wC : w1.heap.size < wC.heap.size := Nat.lt_of_lt_of_le bdL_wB hbC.size
            have bn0_wC := (hbC.cell bnL_wB).trans bn0_wB
            have bn1_wC := (hbC.cell bnL_wB).trans bn1_wB
            have bnF_wC : ∀ o, wC.frozen? ⟨w3.heap.size, o, none⟩ = false := fun o => (hbC.frozen bnL_wB).trans (bnF_wB o)
            have bnL_wC : w3.heap.size < wC.heap.size := Nat.lt_of_lt_of_le bnL_wB hbC.size
            have bw0_wC := (hbC.cell bwL_wB).trans bw0_wB
            have bw1_wC := (hbC.cell bwL_wB).trans bw1_wB
            have bwF_wC : ∀ o, wC.frozen? ⟨w5.heap.size, o, none⟩ = false := fun o => (hbC.frozen bwL_wB).trans (bwF_wB o)
            have bwL_wC : w5.heap.size < wC.heap.size := Nat.lt_of_lt_of_le bwL_wB hbC.size
            have bs0_wC := (hbC.cell bsL_wB).trans bs0_wB
            have bs1_wC := (hbC.cell bsL_wB).trans bs1_wB
            have bsF_wC : ∀ o, wC.frozen? ⟨w7.heap.size, o, none⟩ = false := fun o => (hbC.frozen bsL_wB).trans (bsF_wB o)
            have bsL_wC : w7.heap.size < wC.heap.size := Nat.lt_of_lt_of_le bsL_wB hbC.size
            have bg0_wC := (hbC.cell bgL_wB).trans bg0_wB
            have bg1_wC := (hbC.cell bgL_wB).trans bg1_wB
            have bgF_wC : ∀ o, wC.frozen? ⟨w9.heap.size, o, none⟩ = false := fun o => (hbC.frozen bgL_wB).trans (bgF_wB o)
            have bgL_wC : w9.heap.size < wC.heap.size := Nat.lt_of_lt_of_le bgL_wB hbC.size
            have oD_wC := hidP (OwnG.later oD_wB.out hbC)
            have oR_wC := hidP (OwnG.later oR_wB.out hbC)
            have oS_wC := hidP (OwnG.later oS_wB.out hbC)
            have oG_wC := hidP (OwnG.later oG_wB.out hbC)
            have acc_wC := hidP (acc_wB.out.trans (hbC.mono acc_wB.out.size))
            have sz_wC : Hid (wB.heap.size ≤ wC.heap.size) := hidP hbC.size
            clear hbC bd0_wB bd1_wB bdF_wB bdL_wB bn0_wB bn1_wB bnF_wB bnL_wB bw0_wB bw1_wB bwF_wB bwL_wB bs0_wB bs1_wB bsF_wB bsL_wB bg0_wB bg1_wB bgF_wB bgL_wB oD_wB oR_wB oS_wB oG_wB acc_wB
            go_wp2_with fail
            go_ret
            exact ⟨by simp, acc_wC.out⟩

theorem Try.ownSessions : ownKnob Try.prog.godebug = none := by kernel_rfl
theorem Try.laidOutSessions : laidOutB Try.prog = true := by kernel_rfl
theorem Try.cellsByte : Try.prog.cellsOf 5 = 1 := by kernel_rfl

/-- The code's bytes out of the reading of a row of bytes. -/
theorem bytes_open {H : Type} {enc : TypeId × Value → H} {W : World} {a : Option Addr} {len cap : Nat} {d : DataW H} {p : List MemPlace}
    (h : DataW.Trod enc Try.prog W 0 (fun _ => true) true 22 (.slice a len cap) d p) : Bytes W a len := by
  obtain ⟨fuel, hf⟩ := h
  rcases open_slice1 Try.underlying22 Try.cellsByte hf with ⟨hcs, _⟩ | ⟨a', len', cap', m, n, V, D, Pl, hcs, _, hl, _, hm, _, hV⟩
  · simp [Value.cells] at hcs
    obtain ⟨rfl, rfl, rfl⟩ := hcs
    exact fun j hj => absurd hj (Nat.not_lt_zero j)
  · simp [Value.cells] at hcs
    obtain ⟨rfl, rfl, rfl⟩ := hcs
    intro j hj
    simp at hm
    obtain ⟨hc, ht⟩ := hV j (by omega)
    obtain ⟨v, e, _, wv⟩ := DataW.trod_int Try.underlying5 ht
    simp at e
    rw [e] at hc
    have hb : 0 ≤ v ∧ v ≤ 255 := by simpa [Lit.wf, IntKind.min, IntKind.max, IntKind.signed, IntKind.bits] using wv
    obtain ⟨p', o', sp⟩ := a'
    cases sp with
    | some q =>
      exfalso
      have h0 := (hV 0 (by omega)).1
      rw [show Addr.add ⟨p', o', some q⟩ 0 = ⟨p', o', some q⟩ from rfl] at h0
      unfold World.cell? at h0
      split at h0
      · simp at h0
      · cases h0
    | none =>
      have hc' : W.cell? ⟨p', o' + j, none⟩ = some (.int .u8 v) := by
        cases j with
        | zero => simpa [Addr.add] using hc
        | succ i => simpa [Addr.add] using hc
      exact ⟨p', o', v, rfl, World.block_lt_of_cell? W _ hc', hc', hb.1, by omega⟩

set_option maxRecDepth 100000 in
theorem sessions_lifted (os : Os) (started : os.Started) (H : Type) (enc : TypeId × Value → H) :
    ReturnsInHanded {} Try.checked os 4 .any (Rows.fnSessionsSpec.pre6 enc Try.prog Try.f4 Rows.fnSessionsRow.domain false) (Rows.fnSessionsSpec.post enc Try.prog Try.f4 false true false false) := by
  refine returnsInHanded_of_change (C := Try.checked) Try.ownSessions started (by kernel_rfl) Try.func4
    (ChangeSpec.witness6 (enc := enc) (C := Try.checked) false ⟨#[], #[.slice none 0 0], []⟩ 8 (by kernel_rfl) (by kernel_rfl) (by kernel_rfl) (by kernel_rfl)) ?_
  intro W base args ds gs before hval0 hW _ _
  have hval : ∀ (j : Nat) t v, Try.f4.params[j]? = some t → args[j]? = some v → Value.okWide Try.prog W .any base t v := hval0
  have hW' := hW
  obtain ⟨p, q, hA0, hV, rfl, _, _⟩ := hW
  have hA : DataW.TrodAll enc Try.prog W 0 (fun _ => true) true Try.f4.params.toList args.toList ds p := hA0
  rw [Try.params4] at hA hval
  obtain ⟨v0, d0, rfl, rfl, h0⟩ := trodAll_one hA
  obtain ⟨rfl, rfl⟩ := trodVars_none hV
  obtain ⟨a0, len, cap, rfl⟩ := okWide_slice Try.underlying22 (hval 0 22 v0 rfl rfl)
  clear hA0 hval0
  simp only [List.append_nil] at hW'
  have hlt : ∀ x ∈ p, x.block < W.heap.size := fun x hx => by simpa using hW'.lt x hx
  refine (lawSessions a0 len cap W (bytes_open h0)).mono fun e W' ⟨he, hb⟩ => ?_
  subst he
  exact ⟨_, rfl, ⟨_, _, _, [], p, [], hW', trodAll_mk1 (shut_bool Try.underlying4 true), trodAll_mk1 (Below.trod Try.laidOutSessions (by kernel_rfl) (of_decide_eq_true (by kernel_rfl)) h0 hb hlt), rfl, hb.frame _, fun h => by cases h⟩⟩

theorem sessions_holds : Rows.FnSessionsSaid :=
  OpenClaim.holds_of_wide 4 Try.f4 rfl rfl rfl rfl rfl rfl rfl ⟨rfl, rfl, rfl, rfl, rfl⟩ rfl rfl rfl rfl rfl (by kernel_rfl) Try.func4 (by kernel_rfl)
    (of_decide_eq_true (by kernel_rfl)) (by unfold Func.isWrapper; rw [if_neg (of_decide_eq_false (by kernel_rfl))]; exact ⟨rfl, rfl⟩)
    (fun os started H enc _ => sessions_lifted os started H enc)

end Go.Proofs.Ytjenbmiiikeenaa
