/-
  For every code: behind an answer of the desk that is drawn the same number is asked again and gets the same, the one ahead is old, the one behind new, the next a gap, as the law FnAgain asks; no condition.
-/
import Derived.Test.YtjenbmiiikeenaaWAn7
import Derived.Test.YtjenbmiiikeenaaK7Ag
import Derived.ProofKit
import Derived.Lib.SmallJoins
import Derived.Carry
import Derived.Deep.Slices
import Derived.ChangeMaps5
namespace Go.Proofs.Ytjenbmiiikeenaa
open Go.ChangeShapes Go.WideShapes Go.ChangeAt Go.RowKit Go.Joins Go.Deep

theorem bigF (a : Option Addr) (len cap : Nat) (w : World) :
    Calls Try.prog 5 #[.slice a len cap] w fun e w' => e = .returned (.bool (decide ((1048576 : Int) < (len : Int)))) ∧ w' = w := by
  cases d : decide ((1048576 : Int) < (len : Int))
  all_goals
    go_enter Try.func5, Try.ntmps5
    go_wp2
    go_ret
    exact ⟨rfl, rfl⟩

set_option maxRecDepth 10000 in
set_option maxHeartbeats 8000000 in
theorem lawAgain (a : Option Addr) (len cap : Nat) (w : World) (hB : Bytes w a len) :
    Calls Try.prog 3 #[.slice a len cap] w fun e w' => e = .returned (.bool true) ∧ Below w.heap.size w w' := by
  have HG := hidP (bigF a len cap)
  cases hbig : decide ((1048576 : Int) < (len : Int))
  rotate_left
  · rw [hbig] at HG
    clear hB
    go_enter Try.func3, Try.ntmps3
    go_wp2_with fail
    refine (HG.out _).mono ?_
    rintro e w0 ⟨rfl, hw0⟩
    rw [hw0]
    clear hw0 w0
    go_wp2_with fail
    go_ret
    exact ⟨rfl, Below.refl _ _⟩
  rw [hbig] at HG
  have hl : len ≤ 1048576 := by have := of_decide_eq_false hbig; omega
  have HDr := hidP (drawAnswer_any a len cap w hB hl)
  clear hB hbig
  go_enter Try.func3, Try.ntmps3
  go_wp2_with fail
  refine (HG.out _).mono ?_
  rintro e w0 ⟨rfl, hw0⟩
  rw [hw0]
  clear hw0 w0
  go_wp2_with fail
  refine (HDr.out).mono ?_
  rintro e w1 ⟨b, n, d, N, ls, id, s, rp, u, rfl, hn, h12, hoD, hb1⟩
  have OD := hidP hoD
  have HN := hidP hn
  have HCp := hidP (OwnG.caps hoD).2.2.2
  clear hoD hn
  have acc_w1 := hidP (hb1)
  have sz_w1 : Hid (w.heap.size ≤ w1.heap.size) := hidP hb1.size
  clear hb1 
  have oD_w1 := hidP (OD.out)
  have lhD : Hid (∀ k, (Value.slice b n d).ownBlock = some k → w.heap.size ≤ k ∧ k < w1.heap.size) := hidP (fun k hk => OwnG.lt oD_w1.out k hk)
  clear OD
  go_wp2_with fail
  obtain ⟨bd0_W2, bd1_W2⟩ := box2D w1 26 (.slice b n d) (.int .i64 N)
  have bdF_W2 : ∀ o, (w1.alloc (.cells #[.slice b n d, .int .i64 N] 26)).frozen? ⟨w1.heap.size, o, none⟩ = false := fun o => by simp [go_sem]
  have bdL_W2 : w1.heap.size < (w1.alloc (.cells #[.slice b n d, .int .i64 N] 26)).heap.size := by simp
  have ab_W2 := alloc_below w1 (.cells #[.slice b n d, .int .i64 N] 26)
  have as_W2 : Hid ((w1.alloc (.cells #[.slice b n d, .int .i64 N] 26)).heap.size = w1.heap.size + 1) := hidP (by simp)
  generalize w1.alloc (.cells #[.slice b n d, .int .i64 N] 26) = W2 at *
  have oD_W2 := hidP (OwnG.later oD_w1.out ab_W2)
  have acc_W2 := hidP (acc_w1.out.trans (ab_W2.mono acc_w1.out.size))
  have sz_W2 : Hid (w1.heap.size ≤ W2.heap.size) := hidP ab_W2.size
  clear ab_W2 oD_w1 acc_w1
  rcases an_split n N ls HN.out (by omega) id s rp u with ⟨hI, hS⟩ | ⟨I, q, hr, hf, hq, htk⟩
  · have HIm := hidP hI
    have HSp := hidP hS
    clear hI hS
    have HSD := hidP (fun W e1 => sDeskOk_any b n d N ls W HN.out e1 (by omega))
    have HID := hidP (fun W e1 => iDeskOk_any b n d N ls W HN.out e1 (by omega))
    refine (HIm.out b d _ oD_W2.out.row).mono ?_
    rintro e w3 ⟨A3, C3, rfl, hb3⟩
    have bd0_w3 := (hb3.cell bdL_W2).trans bd0_W2
    have bd1_w3 := (hb3.cell bdL_W2).trans bd1_W2
    have bdF_w3 : ∀ o, w3.frozen? ⟨w1.heap.size, o, none⟩ = false := fun o => (hb3.frozen bdL_W2).trans (bdF_W2 o)
    have bdL_w3 : w1.heap.size < w3.heap.size := Nat.lt_of_lt_of_le bdL_W2 hb3.size
    have oD_w3 := hidP (OwnG.later oD_W2.out hb3)
    have acc_w3 := hidP (acc_W2.out.trans (hb3.mono acc_W2.out.size))
    have sz_w3 : Hid (W2.heap.size ≤ w3.heap.size) := hidP hb3.size
    clear hb3 bd0_W2 bd1_W2 bdF_W2 bdL_W2 oD_W2 acc_W2
    go_wp2_with fail
    obtain ⟨bn0_W4, bn1_W4⟩ := box2D w3 26 (.slice A3 n C3) (.int .i64 N)
    have bnF_W4 : ∀ o, (w3.alloc (.cells #[.slice A3 n C3, .int .i64 N] 26)).frozen? ⟨w3.heap.size, o, none⟩ = false := fun o => by simp [go_sem]
    have bnL_W4 : w3.heap.size < (w3.alloc (.cells #[.slice A3 n C3, .int .i64 N] 26)).heap.size := by simp
    have ab_W4 := alloc_below w3 (.cells #[.slice A3 n C3, .int .i64 N] 26)
    have as_W4 : Hid ((w3.alloc (.cells #[.slice A3 n C3, .int .i64 N] 26)).heap.size = w3.heap.size + 1) := hidP (by simp)
    generalize w3.alloc (.cells #[.slice A3 n C3, .int .i64 N] 26) = W4 at *
    have bd0_W4 := (ab_W4.cell bdL_w3).trans bd0_w3
    have bd1_W4 := (ab_W4.cell bdL_w3).trans bd1_w3
    have bdF_W4 : ∀ o, W4.frozen? ⟨w1.heap.size, o, none⟩ = false := fun o => (ab_W4.frozen bdL_w3).trans (bdF_w3 o)
    have bdL_W4 : w1.heap.size < W4.heap.size := Nat.lt_of_lt_of_le bdL_w3 ab_W4.size
    have oD_W4 := hidP (OwnG.later oD_w3.out ab_W4)
    have acc_W4 := hidP (acc_w3.out.trans (ab_W4.mono acc_w3.out.size))
    have sz_W4 : Hid (w3.heap.size ≤ W4.heap.size) := hidP ab_W4.size
    clear ab_W4 bd0_w3 bd1_w3 bdF_w3 bdL_w3 oD_w3 acc_w3
    refine (HSp.out b d _ oD_W4.out.row HCp.out).mono ?_
    rintro e w5 ⟨A5, C5, rfl, hb5⟩
    have bd0_w5 := (hb5.cell bdL_W4).trans bd0_W4
    have bd1_w5 := (hb5.cell bdL_W4).trans bd1_W4
    have bdF_w5 : ∀ o, w5.frozen? ⟨w1.heap.size, o, none⟩ = false := fun o => (hb5.frozen bdL_W4).trans (bdF_W4 o)
    have bdL_w5 : w1.heap.size < w5.heap.size := Nat.lt_of_lt_of_le bdL_W4 hb5.size
    have bn0_w5 := (hb5.cell bnL_W4).trans bn0_W4
    have bn1_w5 := (hb5.cell bnL_W4).trans bn1_W4
    have bnF_w5 : ∀ o, w5.frozen? ⟨w3.heap.size, o, none⟩ = false := fun o => (hb5.frozen bnL_W4).trans (bnF_W4 o)
    have bnL_w5 : w3.heap.size < w5.heap.size := Nat.lt_of_lt_of_le bnL_W4 hb5.size
    have oD_w5 := hidP (OwnG.later oD_W4.out hb5)
    have acc_w5 := hidP (acc_W4.out.trans (hb5.mono acc_W4.out.size))
    have sz_w5 : Hid (W4.heap.size ≤ w5.heap.size) := hidP hb5.size
    clear hb5 bd0_W4 bd1_W4 bdF_W4 bdL_W4 bn0_W4 bn1_W4 bnF_W4 bnL_W4 oD_W4 acc_W4
    go_wp2_with fail
    obtain ⟨bw0_W6, bw1_W6⟩ := box2D w5 26 (.slice A5 n C5) (.int .i64 N)
    have bwF_W6 : ∀ o, (w5.alloc (.cells #[.slice A5 n C5, .int .i64 N] 26)).frozen? ⟨w5.heap.size, o, none⟩ = false := fun o => by simp [go_sem]
    have bwL_W6 : w5.heap.size < (w5.alloc (.cells #[.slice A5 n C5, .int .i64 N] 26)).heap.size := by simp
    have ab_W6 := alloc_below w5 (.cells #[.slice A5 n C5, .int .i64 N] 26)
    have as_W6 : Hid ((w5.alloc (.cells #[.slice A5 n C5, .int .i64 N] 26)).heap.size = w5.heap.size + 1) := hidP (by simp)
    generalize w5.alloc (.cells #[.slice A5 n C5, .int .i64 N] 26) = W6 at *
    have bd0_W6 := (ab_W6.cell bdL_w5).trans bd0_w5
    have bd1_W6 := (ab_W6.cell bdL_w5).trans bd1_w5
    have bdF_W6 : ∀ o, W6.frozen? ⟨w1.heap.size, o, none⟩ = false := fun o => (ab_W6.frozen bdL_w5).trans (bdF_w5 o)
    have bdL_W6 : w1.heap.size < W6.heap.size := Nat.lt_of_lt_of_le bdL_w5 ab_W6.size
    have bn0_W6 := (ab_W6.cell bnL_w5).trans bn0_w5
    have bn1_W6 := (ab_W6.cell bnL_w5).trans bn1_w5
    have bnF_W6 : ∀ o, W6.frozen? ⟨w3.heap.size, o, none⟩ = false := fun o => (ab_W6.frozen bnL_w5).trans (bnF_w5 o)
    have bnL_W6 : w3.heap.size < W6.heap.size := Nat.lt_of_lt_of_le bnL_w5 ab_W6.size
    have oD_W6 := hidP (OwnG.later oD_w5.out ab_W6)
    have acc_W6 := hidP (acc_w5.out.trans (ab_W6.mono acc_w5.out.size))
    have sz_W6 : Hid (w5.heap.size ≤ W6.heap.size) := hidP ab_W6.size
    clear ab_W6 bd0_w5 bd1_w5 bdF_w5 bdL_w5 bn0_w5 bn1_w5 bnF_w5 bnL_w5 oD_w5 acc_w5
    refine (HSD.out _ oD_W6.out.row).mono ?_
    rintro e w7 ⟨rfl, hb7⟩
    have bd0_w7 := (hb7.cell bdL_W6).trans bd0_W6
    have bd1_w7 := (hb7.cell bdL_W6).trans bd1_W6
    have bdF_w7 : ∀ o, w7.frozen? ⟨w1.heap.size, o, none⟩ = false := fun o => (hb7.frozen bdL_W6).trans (bdF_W6 o)
    have bdL_w7 : w1.heap.size < w7.heap.size := Nat.lt_of_lt_of_le bdL_W6 hb7.size
    have bn0_w7 := (hb7.cell bnL_W6).trans bn0_W6
    have bn1_w7 := (hb7.cell bnL_W6).trans bn1_W6
    have bnF_w7 : ∀ o, w7.frozen? ⟨w3.heap.size, o, none⟩ = false := fun o => (hb7.frozen bnL_W6).trans (bnF_W6 o)
    have bnL_w7 : w3.heap.size < w7.heap.size := Nat.lt_of_lt_of_le bnL_W6 hb7.size
    have bw0_w7 := (hb7.cell bwL_W6).trans bw0_W6
    have bw1_w7 := (hb7.cell bwL_W6).trans bw1_W6
    have bwF_w7 : ∀ o, w7.frozen? ⟨w5.heap.size, o, none⟩ = false := fun o => (hb7.frozen bwL_W6).trans (bwF_W6 o)
    have bwL_w7 : w5.heap.size < w7.heap.size := Nat.lt_of_lt_of_le bwL_W6 hb7.size
    have oD_w7 := hidP (OwnG.later oD_W6.out hb7)
    have acc_w7 := hidP (acc_W6.out.trans (hb7.mono acc_W6.out.size))
    have sz_w7 : Hid (W6.heap.size ≤ w7.heap.size) := hidP hb7.size
    clear hb7 bd0_W6 bd1_W6 bdF_W6 bdL_W6 bn0_W6 bn1_W6 bnF_W6 bnL_W6 bw0_W6 bw1_W6 bwF_W6 bwL_W6 oD_W6 acc_W6
    cases hD : dkB ls N
    · go_wp2_with fail
      go_ret
      exact ⟨rfl, acc_w7.out⟩
    · rw [hD] at HID
      go_wp2_with fail
      refine (HID.out _ oD_w7.out.row).mono ?_
      rintro e w8 ⟨rfl, hb8⟩
      have bd0_w8 := (hb8.cell bdL_w7).trans bd0_w7
      have bd1_w8 := (hb8.cell bdL_w7).trans bd1_w7
      have bdF_w8 : ∀ o, w8.frozen? ⟨w1.heap.size, o, none⟩ = false := fun o => (hb8.frozen bdL_w7).trans (bdF_w7 o)
      have bdL_w8 : w1.heap.size < w8.heap.size := Nat.lt_of_lt_of_le bdL_w7 hb8.size
      have bn0_w8 := (hb8.cell bnL_w7).trans bn0_w7
      have bn1_w8 := (hb8.cell bnL_w7).trans bn1_w7
      have bnF_w8 : ∀ o, w8.frozen? ⟨w3.heap.size, o, none⟩ = false := fun o => (hb8.frozen bnL_w7).trans (bnF_w7 o)
      have bnL_w8 : w3.heap.size < w8.heap.size := Nat.lt_of_lt_of_le bnL_w7 hb8.size
      have bw0_w8 := (hb8.cell bwL_w7).trans bw0_w7
      have bw1_w8 := (hb8.cell bwL_w7).trans bw1_w7
      have bwF_w8 : ∀ o, w8.frozen? ⟨w5.heap.size, o, none⟩ = false := fun o => (hb8.frozen bwL_w7).trans (bwF_w7 o)
      have bwL_w8 : w5.heap.size < w8.heap.size := Nat.lt_of_lt_of_le bwL_w7 hb8.size
      have oD_w8 := hidP (OwnG.later oD_w7.out hb8)
      have acc_w8 := hidP (acc_w7.out.trans (hb8.mono acc_w7.out.size))
      have sz_w8 : Hid (w7.heap.size ≤ w8.heap.size) := hidP hb8.size
      clear hb8 bd0_w7 bd1_w7 bdF_w7 bdL_w7 bn0_w7 bn1_w7 bnF_w7 bnL_w7 bw0_w7 bw1_w7 bwF_w7 bwL_w7 oD_w7 acc_w7
      go_wp2_with fail
      go_ret
      exact ⟨rfl, acc_w8.out⟩
  · obtain ⟨hs1, hs2, _, _, _⟩ := tk_parts htk
    obtain ⟨hl0, hl1, _⟩ := ok_parts (sesF_mem (dk_next hr).2.2.2 q (List.mem_of_getElem? hq)).1
    have hs0 : 0 < s := by omega
    have hIn : I < n := by rw [HN.out]; exact (List.getElem?_eq_some_iff.1 hq).1
    have HLn : Hid (n = (ls.set I (⟨q.i, s, rp, max q.u u⟩ : Ss)).length) := hidP (by rw [List.length_set]; exact HN.out)
    have HdL := hidP (dkB_set hr hq htk)
    have HfL := hidP (find_set (q' := (⟨q.i, s, rp, max q.u u⟩ : Ss)) hf hq rfl)
    have HNu := hidP (ask_nums hs0)
    have hm1 : IntKind.i64.wrap (s - 1) = s - 1 := by rw [IntKind.wrap_i64]; omega
    have hp1 : IntKind.i64.wrap (s + 1) = s + 1 := by rw [IntKind.wrap_i64]; omega
    have hp2 : IntKind.i64.wrap (s + 2) = s + 2 := by rw [IntKind.wrap_i64]; omega
    have HAk := fun W a c e1 s' => iAsk_yes a n c N _ W HLn.out e1 (by omega) id s' HdL.out I HfL.out.1 _ HfL.out.2
    have hT : askT (⟨q.i, s, rp, max q.u u⟩ : Ss) s = rp := by unfold askT; rw [show askN (⟨q.i, s, rp, max q.u u⟩ : Ss).l s = askN s s from rfl, HNu.out.1, if_pos rfl]
    have HA1 : Hid (∀ W a c, RowG KSs W a (ls.set I (⟨q.i, s, rp, max q.u u⟩ : Ss)) → Calls Try.prog 11 #[.agg #[.slice a n c, .int .i64 N], .int .i64 id, .int .i64 s] W fun e w' => e = .returned (.tuple #[.int .i64 1, .string rp]) ∧ Below W.heap.size W w') := hidP (fun W a c e1 => by have h := HAk W a c e1 s; rw [hT, show askN (⟨q.i, s, rp, max q.u u⟩ : Ss).l s = askN s s from rfl, HNu.out.1] at h; exact h)
    obtain ⟨XHA2, hXHA2⟩ : ∃ X, X = askT (⟨q.i, s, rp, max q.u u⟩ : Ss) (s - 1) := ⟨_, rfl⟩
    have HA2 : Hid (∀ W a c, RowG KSs W a (ls.set I (⟨q.i, s, rp, max q.u u⟩ : Ss)) → Calls Try.prog 11 #[.agg #[.slice a n c, .int .i64 N], .int .i64 id, .int .i64 (s - 1)] W fun e w' => e = .returned (.tuple #[.int .i64 2, .string XHA2]) ∧ Below W.heap.size W w') := hidP (fun W a c e1 => by have h := HAk W a c e1 (s - 1); rw [← hXHA2, show askN (⟨q.i, s, rp, max q.u u⟩ : Ss).l (s - 1) = askN s (s - 1) from rfl, HNu.out.2.1] at h; exact h)
    clear hXHA2
    obtain ⟨XHA3, hXHA3⟩ : ∃ X, X = askT (⟨q.i, s, rp, max q.u u⟩ : Ss) (s + 1) := ⟨_, rfl⟩
    have HA3 : Hid (∀ W a c, RowG KSs W a (ls.set I (⟨q.i, s, rp, max q.u u⟩ : Ss)) → Calls Try.prog 11 #[.agg #[.slice a n c, .int .i64 N], .int .i64 id, .int .i64 (s + 1)] W fun e w' => e = .returned (.tuple #[.int .i64 0, .string XHA3]) ∧ Below W.heap.size W w') := hidP (fun W a c e1 => by have h := HAk W a c e1 (s + 1); rw [← hXHA3, show askN (⟨q.i, s, rp, max q.u u⟩ : Ss).l (s + 1) = askN s (s + 1) from rfl, HNu.out.2.2.1] at h; exact h)
    clear hXHA3
    obtain ⟨XHA4, hXHA4⟩ : ∃ X, X = askT (⟨q.i, s, rp, max q.u u⟩ : Ss) (s + 2) := ⟨_, rfl⟩
    have HA4 : Hid (∀ W a c, RowG KSs W a (ls.set I (⟨q.i, s, rp, max q.u u⟩ : Ss)) → Calls Try.prog 11 #[.agg #[.slice a n c, .int .i64 N], .int .i64 id, .int .i64 (s + 2)] W fun e w' => e = .returned (.tuple #[.int .i64 3, .string XHA4]) ∧ Below W.heap.size W w') := hidP (fun W a c e1 => by have h := HAk W a c e1 (s + 2); rw [← hXHA4, show askN (⟨q.i, s, rp, max q.u u⟩ : Ss).l (s + 2) = askN s (s + 2) from rfl, HNu.out.2.2.2] at h; exact h)
    clear hXHA4
    have HA5 := hidP (fun W a c e1 => iAsk_none a n c N _ W HLn.out e1 (by omega) 1000000 1 HdL.out (find_big HdL.out))
    have HCl := hidP (fun W a c e1 => iCl_yes a n c N _ W HLn.out e1 (by omega) id HdL.out I HfL.out.1)
    have HLe : Hid (n - 1 = ((ls.set I (⟨q.i, s, rp, max q.u u⟩ : Ss)).eraseIdx I).length) := hidP (by rw [List.length_eraseIdx_of_lt (by rw [← HLn.out]; exact hIn), ← HLn.out])
    have HA6 := hidP (fun W a c e1 => ask_erased HLe.out (by omega) HdL.out HfL.out.1 s a c W e1)
    have HDk := hidP (fun W a c e1 => iDeskOk_any a n c N _ W HLn.out e1 (by omega))
    rw [HdL.out] at HDk
    have HOp := hidP (iAn_yes b n d N ls W2 HN.out oD_W2.out.row (by omega) id s rp u hr I hf q hq htk)
    have HSp := hidP (fun W e1 => sAn_yes b n d N ls W HN.out e1 HCp.out (by omega) id s rp u (askN q.l s) (askT q s) (fun a c w e => sAsk_yes a n c N ls w HN.out e (by omega) id s hr I hf q hq) htk I hf q hq)
    clear HAk hT hr hf hq htk hs1 hl0 hl1 hIn
    refine (HOp.out).mono ?_
    rintro e w3 ⟨A3, C3, rfl, oR, hb3⟩
    have OR := hidP oR
    clear oR HOp
    have bd0_w3 := (hb3.cell bdL_W2).trans bd0_W2
    have bd1_w3 := (hb3.cell bdL_W2).trans bd1_W2
    have bdF_w3 : ∀ o, w3.frozen? ⟨w1.heap.size, o, none⟩ = false := fun o => (hb3.frozen bdL_W2).trans (bdF_W2 o)
    have bdL_w3 : w1.heap.size < w3.heap.size := Nat.lt_of_lt_of_le bdL_W2 hb3.size
    have oD_w3 := hidP (OwnG.later oD_W2.out hb3)
    have acc_w3 := hidP (acc_W2.out.trans (hb3.mono acc_W2.out.size))
    have sz_w3 : Hid (W2.heap.size ≤ w3.heap.size) := hidP hb3.size
    clear hb3 bd0_W2 bd1_W2 bdF_W2 bdL_W2 oD_W2 acc_W2
    have oR_w3 := hidP (OR.out)
    have lhR : Hid (∀ k, (Value.slice A3 n C3).ownBlock = some k → W2.heap.size ≤ k ∧ k < w3.heap.size) := hidP (fun k hk => OwnG.lt oR_w3.out k hk)
    clear OR
    go_wp2_with fail
    obtain ⟨bn0_W4, bn1_W4⟩ := box2D w3 26 (.slice A3 n C3) (.int .i64 N)
    have bnF_W4 : ∀ o, (w3.alloc (.cells #[.slice A3 n C3, .int .i64 N] 26)).frozen? ⟨w3.heap.size, o, none⟩ = false := fun o => by simp [go_sem]
    have bnL_W4 : w3.heap.size < (w3.alloc (.cells #[.slice A3 n C3, .int .i64 N] 26)).heap.size := by simp
    have ab_W4 := alloc_below w3 (.cells #[.slice A3 n C3, .int .i64 N] 26)
    have as_W4 : Hid ((w3.alloc (.cells #[.slice A3 n C3, .int .i64 N] 26)).heap.size = w3.heap.size + 1) := hidP (by simp)
    generalize w3.alloc (.cells #[.slice A3 n C3, .int .i64 N] 26) = W4 at *
    have bd0_W4 := (ab_W4.cell bdL_w3).trans bd0_w3
    have bd1_W4 := (ab_W4.cell bdL_w3).trans bd1_w3
    have bdF_W4 : ∀ o, W4.frozen? ⟨w1.heap.size, o, none⟩ = false := fun o => (ab_W4.frozen bdL_w3).trans (bdF_w3 o)
    have bdL_W4 : w1.heap.size < W4.heap.size := Nat.lt_of_lt_of_le bdL_w3 ab_W4.size
    have oD_W4 := hidP (OwnG.later oD_w3.out ab_W4)
    have oR_W4 := hidP (OwnG.later oR_w3.out ab_W4)
    have acc_W4 := hidP (acc_w3.out.trans (ab_W4.mono acc_w3.out.size))
    have sz_W4 : Hid (w3.heap.size ≤ W4.heap.size) := hidP ab_W4.size
    clear ab_W4 bd0_w3 bd1_w3 bdF_w3 bdL_w3 oD_w3 oR_w3 acc_w3
    refine (HSp.out _ oD_W4.out.row).mono ?_
    rintro e w5 ⟨A5, C5, rfl, oR, hb5⟩
    clear oR HSp
    have bd0_w5 := (hb5.cell bdL_W4).trans bd0_W4
    have bd1_w5 := (hb5.cell bdL_W4).trans bd1_W4
    have bdF_w5 : ∀ o, w5.frozen? ⟨w1.heap.size, o, none⟩ = false := fun o => (hb5.frozen bdL_W4).trans (bdF_W4 o)
    have bdL_w5 : w1.heap.size < w5.heap.size := Nat.lt_of_lt_of_le bdL_W4 hb5.size
    have bn0_w5 := (hb5.cell bnL_W4).trans bn0_W4
    have bn1_w5 := (hb5.cell bnL_W4).trans bn1_W4
    have bnF_w5 : ∀ o, w5.frozen? ⟨w3.heap.size, o, none⟩ = false := fun o => (hb5.frozen bnL_W4).trans (bnF_W4 o)
    have bnL_w5 : w3.heap.size < w5.heap.size := Nat.lt_of_lt_of_le bnL_W4 hb5.size
    have oD_w5 := hidP (OwnG.later oD_W4.out hb5)
    have oR_w5 := hidP (OwnG.later oR_W4.out hb5)
    have acc_w5 := hidP (acc_W4.out.trans (hb5.mono acc_W4.out.size))
    have sz_w5 : Hid (W4.heap.size ≤ w5.heap.size) := hidP hb5.size
    clear hb5 bd0_W4 bd1_W4 bdF_W4 bdL_W4 bn0_W4 bn1_W4 bnF_W4 bnL_W4 oD_W4 oR_W4 acc_W4
    go_wp2_with fail
    obtain ⟨bw0_W6, bw1_W6⟩ := box2D w5 26 (.slice A5 n C5) (.int .i64 N)
    have bwF_W6 : ∀ o, (w5.alloc (.cells #[.slice A5 n C5, .int .i64 N] 26)).frozen? ⟨w5.heap.size, o, none⟩ = false := fun o => by simp [go_sem]
    have bwL_W6 : w5.heap.size < (w5.alloc (.cells #[.slice A5 n C5, .int .i64 N] 26)).heap.size := by simp
    have ab_W6 := alloc_below w5 (.cells #[.slice A5 n C5, .int .i64 N] 26)
    have as_W6 : Hid ((w5.alloc (.cells #[.slice A5 n C5, .int .i64 N] 26)).heap.size = w5.heap.size + 1) := hidP (by simp)
    generalize w5.alloc (.cells #[.slice A5 n C5, .int .i64 N] 26) = W6 at *
    have bd0_W6 := (ab_W6.cell bdL_w5).trans bd0_w5
    have bd1_W6 := (ab_W6.cell bdL_w5).trans bd1_w5
    have bdF_W6 : ∀ o, W6.frozen? ⟨w1.heap.size, o, none⟩ = false := fun o => (ab_W6.frozen bdL_w5).trans (bdF_w5 o)
    have bdL_W6 : w1.heap.size < W6.heap.size := Nat.lt_of_lt_of_le bdL_w5 ab_W6.size
    have bn0_W6 := (ab_W6.cell bnL_w5).trans bn0_w5
    have bn1_W6 := (ab_W6.cell bnL_w5).trans bn1_w5
    have bnF_W6 : ∀ o, W6.frozen? ⟨w3.heap.size, o, none⟩ = false := fun o => (ab_W6.frozen bnL_w5).trans (bnF_w5 o)
    have bnL_W6 : w3.heap.size < W6.heap.size := Nat.lt_of_lt_of_le bnL_w5 ab_W6.size
    have oD_W6 := hidP (OwnG.later oD_w5.out ab_W6)
    have oR_W6 := hidP (OwnG.later oR_w5.out ab_W6)
    have acc_W6 := hidP (acc_w5.out.trans (ab_W6.mono acc_w5.out.size))
    have sz_W6 : Hid (w5.heap.size ≤ W6.heap.size) := hidP ab_W6.size
    clear ab_W6 bd0_w5 bd1_w5 bdF_w5 bdL_w5 bn0_w5 bn1_w5 bnF_w5 bnL_w5 oD_w5 oR_w5 acc_w5
    refine (HA1.out _ A3 C3 oR_W6.out.row).mono ?_
    rintro e w10 ⟨rfl, hb10⟩
    have bd0_w10 := (hb10.cell bdL_W6).trans bd0_W6
    have bd1_w10 := (hb10.cell bdL_W6).trans bd1_W6
    have bdF_w10 : ∀ o, w10.frozen? ⟨w1.heap.size, o, none⟩ = false := fun o => (hb10.frozen bdL_W6).trans (bdF_W6 o)
    have bdL_w10 : w1.heap.size < w10.heap.size := Nat.lt_of_lt_of_le bdL_W6 hb10.size
    have bn0_w10 := (hb10.cell bnL_W6).trans bn0_W6
    have bn1_w10 := (hb10.cell bnL_W6).trans bn1_W6
    have bnF_w10 : ∀ o, w10.frozen? ⟨w3.heap.size, o, none⟩ = false := fun o => (hb10.frozen bnL_W6).trans (bnF_W6 o)
    have bnL_w10 : w3.heap.size < w10.heap.size := Nat.lt_of_lt_of_le bnL_W6 hb10.size
    have bw0_w10 := (hb10.cell bwL_W6).trans bw0_W6
    have bw1_w10 := (hb10.cell bwL_W6).trans bw1_W6
    have bwF_w10 : ∀ o, w10.frozen? ⟨w5.heap.size, o, none⟩ = false := fun o => (hb10.frozen bwL_W6).trans (bwF_W6 o)
    have bwL_w10 : w5.heap.size < w10.heap.size := Nat.lt_of_lt_of_le bwL_W6 hb10.size
    have oD_w10 := hidP (OwnG.later oD_W6.out hb10)
    have oR_w10 := hidP (OwnG.later oR_W6.out hb10)
    have acc_w10 := hidP (acc_W6.out.trans (hb10.mono acc_W6.out.size))
    have sz_w10 : Hid (W6.heap.size ≤ w10.heap.size) := hidP hb10.size
    clear hb10 bd0_W6 bd1_W6 bdF_W6 bdL_W6 bn0_W6 bn1_W6 bnF_W6 bnL_W6 bw0_W6 bw1_W6 bwF_W6 bwL_W6 oD_W6 oR_W6 acc_W6
    go_wp2_with fail
    refine (HA2.out _ A3 C3 oR_w10.out.row).mono ?_
    rintro e w11 ⟨rfl, hb11⟩
    have bd0_w11 := (hb11.cell bdL_w10).trans bd0_w10
    have bd1_w11 := (hb11.cell bdL_w10).trans bd1_w10
    have bdF_w11 : ∀ o, w11.frozen? ⟨w1.heap.size, o, none⟩ = false := fun o => (hb11.frozen bdL_w10).trans (bdF_w10 o)
    have bdL_w11 : w1.heap.size < w11.heap.size := Nat.lt_of_lt_of_le bdL_w10 hb11.size
    have bn0_w11 := (hb11.cell bnL_w10).trans bn0_w10
    have bn1_w11 := (hb11.cell bnL_w10).trans bn1_w10
    have bnF_w11 : ∀ o, w11.frozen? ⟨w3.heap.size, o, none⟩ = false := fun o => (hb11.frozen bnL_w10).trans (bnF_w10 o)
    have bnL_w11 : w3.heap.size < w11.heap.size := Nat.lt_of_lt_of_le bnL_w10 hb11.size
    have bw0_w11 := (hb11.cell bwL_w10).trans bw0_w10
    have bw1_w11 := (hb11.cell bwL_w10).trans bw1_w10
    have bwF_w11 : ∀ o, w11.frozen? ⟨w5.heap.size, o, none⟩ = false := fun o => (hb11.frozen bwL_w10).trans (bwF_w10 o)
    have bwL_w11 : w5.heap.size < w11.heap.size := Nat.lt_of_lt_of_le bwL_w10 hb11.size
    have oD_w11 := hidP (OwnG.later oD_w10.out hb11)
    have oR_w11 := hidP (OwnG.later oR_w10.out hb11)
    have acc_w11 := hidP (acc_w10.out.trans (hb11.mono acc_w10.out.size))
    have sz_w11 : Hid (w10.heap.size ≤ w11.heap.size) := hidP hb11.size
    clear hb11 bd0_w10 bd1_w10 bdF_w10 bdL_w10 bn0_w10 bn1_w10 bnF_w10 bnL_w10 bw0_w10 bw1_w10 bwF_w10 bwL_w10 oD_w10 oR_w10 acc_w10
    go_wp2_with fail
    refine (HA3.out _ A3 C3 oR_w11.out.row).mono ?_
    rintro e w12 ⟨rfl, hb12⟩
    have bd0_w12 := (hb12.cell bdL_w11).trans bd0_w11
    have bd1_w12 := (hb12.cell bdL_w11).trans bd1_w11
    have bdF_w12 : ∀ o, w12.frozen? ⟨w1.heap.size, o, none⟩ = false := fun o => (hb12.frozen bdL_w11).trans (bdF_w11 o)
    have bdL_w12 : w1.heap.size < w12.heap.size := Nat.lt_of_lt_of_le bdL_w11 hb12.size
    have bn0_w12 := (hb12.cell bnL_w11).trans bn0_w11
    have bn1_w12 := (hb12.cell bnL_w11).trans bn1_w11
    have bnF_w12 : ∀ o, w12.frozen? ⟨w3.heap.size, o, none⟩ = false := fun o => (hb12.frozen bnL_w11).trans (bnF_w11 o)
    have bnL_w12 : w3.heap.size < w12.heap.size := Nat.lt_of_lt_of_le bnL_w11 hb12.size
    have bw0_w12 := (hb12.cell bwL_w11).trans bw0_w11
    have bw1_w12 := (hb12.cell bwL_w11).trans bw1_w11
    have bwF_w12 : ∀ o, w12.frozen? ⟨w5.heap.size, o, none⟩ = false := fun o => (hb12.frozen bwL_w11).trans (bwF_w11 o)
    have bwL_w12 : w5.heap.size < w12.heap.size := Nat.lt_of_lt_of_le bwL_w11 hb12.size
    have oD_w12 := hidP (OwnG.later oD_w11.out hb12)
    have oR_w12 := hidP (OwnG.later oR_w11.out hb12)
    have acc_w12 := hidP (acc_w11.out.trans (hb12.mono acc_w11.out.size))
    have sz_w12 : Hid (w11.heap.size ≤ w12.heap.size) := hidP hb12.size
    clear hb12 bd0_w11 bd1_w11 bdF_w11 bdL_w11 bn0_w11 bn1_w11 bnF_w11 bnL_w11 bw0_w11 bw1_w11 bwF_w11 bwL_w11 oD_w11 oR_w11 acc_w11
    go_wp2_with fail
    refine (HA4.out _ A3 C3 oR_w12.out.row).mono ?_
    rintro e w13 ⟨rfl, hb13⟩
    have bd0_w13 := (hb13.cell bdL_w12).trans bd0_w12
    have bd1_w13 := (hb13.cell bdL_w12).trans bd1_w12
    have bdF_w13 : ∀ o, w13.frozen? ⟨w1.heap.size, o, none⟩ = false := fun o => (hb13.frozen bdL_w12).trans (bdF_w12 o)
    have bdL_w13 : w1.heap.size < w13.heap.size := Nat.lt_of_lt_of_le bdL_w12 hb13.size
    have bn0_w13 := (hb13.cell bnL_w12).trans bn0_w12
    have bn1_w13 := (hb13.cell bnL_w12).trans bn1_w12
    have bnF_w13 : ∀ o, w13.frozen? ⟨w3.heap.size, o, none⟩ = false := fun o => (hb13.frozen bnL_w12).trans (bnF_w12 o)
    have bnL_w13 : w3.heap.size < w13.heap.size := Nat.lt_of_lt_of_le bnL_w12 hb13.size
    have bw0_w13 := (hb13.cell bwL_w12).trans bw0_w12
    have bw1_w13 := (hb13.cell bwL_w12).trans bw1_w12
    have bwF_w13 : ∀ o, w13.frozen? ⟨w5.heap.size, o, none⟩ = false := fun o => (hb13.frozen bwL_w12).trans (bwF_w12 o)
    have bwL_w13 : w5.heap.size < w13.heap.size := Nat.lt_of_lt_of_le bwL_w12 hb13.size
    have oD_w13 := hidP (OwnG.later oD_w12.out hb13)
    have oR_w13 := hidP (OwnG.later oR_w12.out hb13)
    have acc_w13 := hidP (acc_w12.out.trans (hb13.mono acc_w12.out.size))
    have sz_w13 : Hid (w12.heap.size ≤ w13.heap.size) := hidP hb13.size
    clear hb13 bd0_w12 bd1_w12 bdF_w12 bdL_w12 bn0_w12 bn1_w12 bnF_w12 bnL_w12 bw0_w12 bw1_w12 bwF_w12 bwL_w12 oD_w12 oR_w12 acc_w12
    go_wp2_with fail
    refine (HA5.out _ A3 C3 oR_w13.out.row).mono ?_
    rintro e w14 ⟨rfl, hb14⟩
    have bd0_w14 := (hb14.cell bdL_w13).trans bd0_w13
    have bd1_w14 := (hb14.cell bdL_w13).trans bd1_w13
    have bdF_w14 : ∀ o, w14.frozen? ⟨w1.heap.size, o, none⟩ = false := fun o => (hb14.frozen bdL_w13).trans (bdF_w13 o)
    have bdL_w14 : w1.heap.size < w14.heap.size := Nat.lt_of_lt_of_le bdL_w13 hb14.size
    have bn0_w14 := (hb14.cell bnL_w13).trans bn0_w13
    have bn1_w14 := (hb14.cell bnL_w13).trans bn1_w13
    have bnF_w14 : ∀ o, w14.frozen? ⟨w3.heap.size, o, none⟩ = false := fun o => (hb14.frozen bnL_w13).trans (bnF_w13 o)
    have bnL_w14 : w3.heap.size < w14.heap.size := Nat.lt_of_lt_of_le bnL_w13 hb14.size
    have bw0_w14 := (hb14.cell bwL_w13).trans bw0_w13
    have bw1_w14 := (hb14.cell bwL_w13).trans bw1_w13
    have bwF_w14 : ∀ o, w14.frozen? ⟨w5.heap.size, o, none⟩ = false := fun o => (hb14.frozen bwL_w13).trans (bwF_w13 o)
    have bwL_w14 : w5.heap.size < w14.heap.size := Nat.lt_of_lt_of_le bwL_w13 hb14.size
    have oD_w14 := hidP (OwnG.later oD_w13.out hb14)
    have oR_w14 := hidP (OwnG.later oR_w13.out hb14)
    have acc_w14 := hidP (acc_w13.out.trans (hb14.mono acc_w13.out.size))
    have sz_w14 : Hid (w13.heap.size ≤ w14.heap.size) := hidP hb14.size
    clear hb14 bd0_w13 bd1_w13 bdF_w13 bdL_w13 bn0_w13 bn1_w13 bnF_w13 bnL_w13 bw0_w13 bw1_w13 bwF_w13 bwL_w13 oD_w13 oR_w13 acc_w13
    go_wp2_with fail
    refine (HCl.out _ A3 C3 oR_w14.out.row).mono ?_
    rintro e w15 ⟨A7, C7, rfl, oP, hb15⟩
    have OP := hidP oP
    clear oP
    have bd0_w15 := (hb15.cell bdL_w14).trans bd0_w14
    have bd1_w15 := (hb15.cell bdL_w14).trans bd1_w14
    have bdF_w15 : ∀ o, w15.frozen? ⟨w1.heap.size, o, none⟩ = false := fun o => (hb15.frozen bdL_w14).trans (bdF_w14 o)
    have bdL_w15 : w1.heap.size < w15.heap.size := Nat.lt_of_lt_of_le bdL_w14 hb15.size
    have bn0_w15 := (hb15.cell bnL_w14).trans bn0_w14
    have bn1_w15 := (hb15.cell bnL_w14).trans bn1_w14
    have bnF_w15 : ∀ o, w15.frozen? ⟨w3.heap.size, o, none⟩ = false := fun o => (hb15.frozen bnL_w14).trans (bnF_w14 o)
    have bnL_w15 : w3.heap.size < w15.heap.size := Nat.lt_of_lt_of_le bnL_w14 hb15.size
    have bw0_w15 := (hb15.cell bwL_w14).trans bw0_w14
    have bw1_w15 := (hb15.cell bwL_w14).trans bw1_w14
    have bwF_w15 : ∀ o, w15.frozen? ⟨w5.heap.size, o, none⟩ = false := fun o => (hb15.frozen bwL_w14).trans (bwF_w14 o)
    have bwL_w15 : w5.heap.size < w15.heap.size := Nat.lt_of_lt_of_le bwL_w14 hb15.size
    have oD_w15 := hidP (OwnG.later oD_w14.out hb15)
    have oR_w15 := hidP (OwnG.later oR_w14.out hb15)
    have acc_w15 := hidP (acc_w14.out.trans (hb15.mono acc_w14.out.size))
    have sz_w15 : Hid (w14.heap.size ≤ w15.heap.size) := hidP hb15.size
    clear hb15 bd0_w14 bd1_w14 bdF_w14 bdL_w14 bn0_w14 bn1_w14 bnF_w14 bnL_w14 bw0_w14 bw1_w14 bwF_w14 bwL_w14 oD_w14 oR_w14 acc_w14
    have oP_w15 := hidP (OP.out)
    have lhP : Hid (∀ k, (Value.slice A7 (n - 1) C7).ownBlock = some k → w14.heap.size ≤ k ∧ k < w15.heap.size) := hidP (fun k hk => OwnG.lt oP_w15.out k hk)
    clear OP
    go_wp2_with fail
    obtain ⟨bc0_W16, bc1_W16⟩ := box2D w15 26 (.slice A7 (n - 1) C7) (.int .i64 N)
    have bcF_W16 : ∀ o, (w15.alloc (.cells #[.slice A7 (n - 1) C7, .int .i64 N] 26)).frozen? ⟨w15.heap.size, o, none⟩ = false := fun o => by simp [go_sem]
    have bcL_W16 : w15.heap.size < (w15.alloc (.cells #[.slice A7 (n - 1) C7, .int .i64 N] 26)).heap.size := by simp
    have ab_W16 := alloc_below w15 (.cells #[.slice A7 (n - 1) C7, .int .i64 N] 26)
    have as_W16 : Hid ((w15.alloc (.cells #[.slice A7 (n - 1) C7, .int .i64 N] 26)).heap.size = w15.heap.size + 1) := hidP (by simp)
    generalize w15.alloc (.cells #[.slice A7 (n - 1) C7, .int .i64 N] 26) = W16 at *
    have bd0_W16 := (ab_W16.cell bdL_w15).trans bd0_w15
    have bd1_W16 := (ab_W16.cell bdL_w15).trans bd1_w15
    have bdF_W16 : ∀ o, W16.frozen? ⟨w1.heap.size, o, none⟩ = false := fun o => (ab_W16.frozen bdL_w15).trans (bdF_w15 o)
    have bdL_W16 : w1.heap.size < W16.heap.size := Nat.lt_of_lt_of_le bdL_w15 ab_W16.size
    have bn0_W16 := (ab_W16.cell bnL_w15).trans bn0_w15
    have bn1_W16 := (ab_W16.cell bnL_w15).trans bn1_w15
    have bnF_W16 : ∀ o, W16.frozen? ⟨w3.heap.size, o, none⟩ = false := fun o => (ab_W16.frozen bnL_w15).trans (bnF_w15 o)
    have bnL_W16 : w3.heap.size < W16.heap.size := Nat.lt_of_lt_of_le bnL_w15 ab_W16.size
    have bw0_W16 := (ab_W16.cell bwL_w15).trans bw0_w15
    have bw1_W16 := (ab_W16.cell bwL_w15).trans bw1_w15
    have bwF_W16 : ∀ o, W16.frozen? ⟨w5.heap.size, o, none⟩ = false := fun o => (ab_W16.frozen bwL_w15).trans (bwF_w15 o)
    have bwL_W16 : w5.heap.size < W16.heap.size := Nat.lt_of_lt_of_le bwL_w15 ab_W16.size
    have oD_W16 := hidP (OwnG.later oD_w15.out ab_W16)
    have oR_W16 := hidP (OwnG.later oR_w15.out ab_W16)
    have oP_W16 := hidP (OwnG.later oP_w15.out ab_W16)
    have acc_W16 := hidP (acc_w15.out.trans (ab_W16.mono acc_w15.out.size))
    have sz_W16 : Hid (w15.heap.size ≤ W16.heap.size) := hidP ab_W16.size
    clear ab_W16 bd0_w15 bd1_w15 bdF_w15 bdL_w15 bn0_w15 bn1_w15 bnF_w15 bnL_w15 bw0_w15 bw1_w15 bwF_w15 bwL_w15 oD_w15 oR_w15 oP_w15 acc_w15
    refine (HA6.out _ A7 C7 oP_W16.out.row).mono ?_
    rintro e w17 ⟨rfl, hb17⟩
    have bd0_w17 := (hb17.cell bdL_W16).trans bd0_W16
    have bd1_w17 := (hb17.cell bdL_W16).trans bd1_W16
    have bdF_w17 : ∀ o, w17.frozen? ⟨w1.heap.size, o, none⟩ = false := fun o => (hb17.frozen bdL_W16).trans (bdF_W16 o)
    have bdL_w17 : w1.heap.size < w17.heap.size := Nat.lt_of_lt_of_le bdL_W16 hb17.size
    have bn0_w17 := (hb17.cell bnL_W16).trans bn0_W16
    have bn1_w17 := (hb17.cell bnL_W16).trans bn1_W16
    have bnF_w17 : ∀ o, w17.frozen? ⟨w3.heap.size, o, none⟩ = false := fun o => (hb17.frozen bnL_W16).trans (bnF_W16 o)
    have bnL_w17 : w3.heap.size < w17.heap.size := Nat.lt_of_lt_of_le bnL_W16 hb17.size
    have bw0_w17 := (hb17.cell bwL_W16).trans bw0_W16
    have bw1_w17 := (hb17.cell bwL_W16).trans bw1_W16
    have bwF_w17 : ∀ o, w17.frozen? ⟨w5.heap.size, o, none⟩ = false := fun o => (hb17.frozen bwL_W16).trans (bwF_W16 o)
    have bwL_w17 : w5.heap.size < w17.heap.size := Nat.lt_of_lt_of_le bwL_W16 hb17.size
    have bc0_w17 := (hb17.cell bcL_W16).trans bc0_W16
    have bc1_w17 := (hb17.cell bcL_W16).trans bc1_W16
    have bcF_w17 : ∀ o, w17.frozen? ⟨w15.heap.size, o, none⟩ = false := fun o => (hb17.frozen bcL_W16).trans (bcF_W16 o)
    have bcL_w17 : w15.heap.size < w17.heap.size := Nat.lt_of_lt_of_le bcL_W16 hb17.size
    have oD_w17 := hidP (OwnG.later oD_W16.out hb17)
    have oR_w17 := hidP (OwnG.later oR_W16.out hb17)
    have oP_w17 := hidP (OwnG.later oP_W16.out hb17)
    have acc_w17 := hidP (acc_W16.out.trans (hb17.mono acc_W16.out.size))
    have sz_w17 : Hid (W16.heap.size ≤ w17.heap.size) := hidP hb17.size
    clear hb17 bd0_W16 bd1_W16 bdF_W16 bdL_W16 bn0_W16 bn1_W16 bnF_W16 bnL_W16 bw0_W16 bw1_W16 bwF_W16 bwL_W16 bc0_W16 bc1_W16 bcF_W16 bcL_W16 oD_W16 oR_W16 oP_W16 acc_W16
    go_wp2_with fail
    refine (HDk.out _ A3 C3 oR_w17.out.row).mono ?_
    rintro e w18 ⟨rfl, hb18⟩
    have bd0_w18 := (hb18.cell bdL_w17).trans bd0_w17
    have bd1_w18 := (hb18.cell bdL_w17).trans bd1_w17
    have bdF_w18 : ∀ o, w18.frozen? ⟨w1.heap.size, o, none⟩ = false := fun o => (hb18.frozen bdL_w17).trans (bdF_w17 o)
    have bdL_w18 : w1.heap.size < w18.heap.size := Nat.lt_of_lt_of_le bdL_w17 hb18.size
    have bn0_w18 := (hb18.cell bnL_w17).trans bn0_w17
    have bn1_w18 := (hb18.cell bnL_w17).trans bn1_w17
    have bnF_w18 : ∀ o, w18.frozen? ⟨w3.heap.size, o, none⟩ = false := fun o => (hb18.frozen bnL_w17).trans (bnF_w17 o)
    have bnL_w18 : w3.heap.size < w18.heap.size := Nat.lt_of_lt_of_le bnL_w17 hb18.size
    have bw0_w18 := (hb18.cell bwL_w17).trans bw0_w17
    have bw1_w18 := (hb18.cell bwL_w17).trans bw1_w17
    have bwF_w18 : ∀ o, w18.frozen? ⟨w5.heap.size, o, none⟩ = false := fun o => (hb18.frozen bwL_w17).trans (bwF_w17 o)
    have bwL_w18 : w5.heap.size < w18.heap.size := Nat.lt_of_lt_of_le bwL_w17 hb18.size
    have bc0_w18 := (hb18.cell bcL_w17).trans bc0_w17
    have bc1_w18 := (hb18.cell bcL_w17).trans bc1_w17
    have bcF_w18 : ∀ o, w18.frozen? ⟨w15.heap.size, o, none⟩ = false := fun o => (hb18.frozen bcL_w17).trans (bcF_w17 o)
    have bcL_w18 : w15.heap.size < w18.heap.size := Nat.lt_of_lt_of_le bcL_w17 hb18.size
    have oD_w18 := hidP (OwnG.later oD_w17.out hb18)
    have oR_w18 := hidP (OwnG.later oR_w17.out hb18)
    have oP_w18 := hidP (OwnG.later oP_w17.out hb18)
    have acc_w18 := hidP (acc_w17.out.trans (hb18.mono acc_w17.out.size))
    have sz_w18 : Hid (w17.heap.size ≤ w18.heap.size) := hidP hb18.size
    clear hb18 bd0_w17 bd1_w17 bdF_w17 bdL_w17 bn0_w17 bn1_w17 bnF_w17 bnL_w17 bw0_w17 bw1_w17 bwF_w17 bwL_w17 bc0_w17 bc1_w17 bcF_w17 bcL_w17 oD_w17 oR_w17 oP_w17 acc_w17
    go_wp2_with fail
    go_ret
    exact ⟨rfl, acc_w18.out⟩

theorem Try.ownAgain : ownKnob Try.prog.godebug = none := by kernel_rfl
theorem Try.laidOutAgain : laidOutB Try.prog = true := by kernel_rfl
theorem Try.cellsByte : Try.prog.cellsOf 5 = 1 := by kernel_rfl

/-- The code's bytes out of the reading of a row of bytes. -/
theorem bytes_open {H : Type} {enc : TypeId × Value → H} {W : World} {a : Option Addr} {len cap : Nat} {d : DataW H} {p : List MemPlace}
    (h : DataW.Trod enc Try.prog W 0 (fun _ => true) true 22 (.slice a len cap) d p) : Bytes W a len := by
  obtain ⟨fuel, hf⟩ := h
  rcases open_slice1 Try.underlying22 Try.cellsByte hf with ⟨hcs, _⟩ | ⟨a', len', cap', m, n, V, D, Pl, hcs, _, hl, _, hm, _, hV⟩
  · simp [Value.cells] at hcs
    obtain ⟨rfl, rfl, rfl⟩ := hcs
    exact fun j hj => absurd hj (Nat.not_lt_zero j)
  · simp [Value.cells] at hcs
    obtain ⟨rfl, rfl, rfl⟩ := hcs
    intro j hj
    simp at hm
    obtain ⟨hc, ht⟩ := hV j (by omega)
    obtain ⟨v, e, _, wv⟩ := DataW.trod_int Try.underlying5 ht
    simp at e
    rw [e] at hc
    have hb : 0 ≤ v ∧ v ≤ 255 := by simpa [Lit.wf, IntKind.min, IntKind.max, IntKind.signed, IntKind.bits] using wv
    obtain ⟨p', o', sp⟩ := a'
    cases sp with
    | some q =>
      exfalso
      have h0 := (hV 0 (by omega)).1
      rw [show Addr.add ⟨p', o', some q⟩ 0 = ⟨p', o', some q⟩ from rfl] at h0
      unfold World.cell? at h0
      split at h0
      · simp at h0
      · cases h0
    | none =>
      have hc' : W.cell? ⟨p', o' + j, none⟩ = some (.int .u8 v) := by
        cases j with
        | zero => simpa [Addr.add] using hc
        | succ i => simpa [Addr.add] using hc
      exact ⟨p', o', v, rfl, World.block_lt_of_cell? W _ hc', hc', hb.1, by omega⟩

set_option maxRecDepth 100000 in
theorem again_lifted (os : Os) (started : os.Started) (H : Type) (enc : TypeId × Value → H) :
    ReturnsInHanded {} Try.checked os 3 .any (Rows.fnAgainSpec.pre6 enc Try.prog Try.f3 Rows.fnAgainRow.domain false) (Rows.fnAgainSpec.post enc Try.prog Try.f3 false true false false) := by
  refine returnsInHanded_of_change (C := Try.checked) Try.ownAgain started (by kernel_rfl) Try.func3
    (ChangeSpec.witness6 (enc := enc) (C := Try.checked) false ⟨#[], #[.slice none 0 0], []⟩ 8 (by kernel_rfl) (by kernel_rfl) (by kernel_rfl) (by kernel_rfl)) ?_
  intro W base args ds gs before hval0 hW _ _
  have hval : ∀ (j : Nat) t v, Try.f3.params[j]? = some t → args[j]? = some v → Value.okWide Try.prog W .any base t v := hval0
  have hW' := hW
  obtain ⟨p, q, hA0, hV, rfl, _, _⟩ := hW
  have hA : DataW.TrodAll enc Try.prog W 0 (fun _ => true) true Try.f3.params.toList args.toList ds p := hA0
  rw [Try.params3] at hA hval
  obtain ⟨v0, d0, rfl, rfl, h0⟩ := trodAll_one hA
  obtain ⟨rfl, rfl⟩ := trodVars_none hV
  obtain ⟨a0, len, cap, rfl⟩ := okWide_slice Try.underlying22 (hval 0 22 v0 rfl rfl)
  clear hA0 hval0
  simp only [List.append_nil] at hW'
  have hlt : ∀ x ∈ p, x.block < W.heap.size := fun x hx => by simpa using hW'.lt x hx
  refine (lawAgain a0 len cap W (bytes_open h0)).mono fun e W' ⟨he, hb⟩ => ?_
  subst he
  exact ⟨_, rfl, ⟨_, _, _, [], p, [], hW', trodAll_mk1 (shut_bool Try.underlying4 true), trodAll_mk1 (Below.trod Try.laidOutAgain (by kernel_rfl) (of_decide_eq_true (by kernel_rfl)) h0 hb hlt), rfl, hb.frame _, fun h => by cases h⟩⟩

theorem again_holds : Rows.FnAgainSaid :=
  OpenClaim.holds_of_wide 3 Try.f3 rfl rfl rfl rfl rfl rfl rfl ⟨rfl, rfl, rfl, rfl, rfl⟩ rfl rfl rfl rfl rfl (by kernel_rfl) Try.func3 (by kernel_rfl)
    (of_decide_eq_true (by kernel_rfl)) (by unfold Func.isWrapper; rw [if_neg (of_decide_eq_false (by kernel_rfl))]; exact ⟨rfl, rfl⟩)
    (fun os started H enc _ => again_lifted os started H enc)

end Go.Proofs.Ytjenbmiiikeenaa
