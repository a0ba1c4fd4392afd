/-
  The specification's Renew.
-/
import Derived.Test.YtgackacnlnagmaaDoorV6IRn
import Derived.Test.YtgackacnlnagmaaDoorV6SRl
namespace Go.Proofs.YtgackacnlnagmaaDoor
open Go.RowKit

set_option maxRecDepth 10000 in
set_option maxHeartbeats 4000000 in
theorem sRen_form (a : Option Addr) (n c : Nat) (T N : Int) (ls : List Ls) (ad : Ad) (tk : Int) (span : Int) (w : World) (hn : n = ls.length) (hB : RowG KLs w a ls) (hl : n ≤ 1048576) (hc : a = none → c = 0) (hst : ∀ q ∈ ls, q.t.size ≤ 9223372036854775807) (hr : rokB ls T N ad span = false) :
    Calls Tryd.prog 7 #[.agg #[.slice a n c, .int .i64 T, .int .i64 N], .agg #[.bool ad.s, .int .i64 ad.H.toInt, .int .i64 ad.L.toInt], .int .i64 tk, .int .i64 span] w fun e w' => ∃ a' c', e = .returned (.tuple #[.agg #[.slice a' n c', .int .i64 T, .int .i64 N], .int .i64 10]) ∧ OwnG KLs 51 w' w.heap.size (.slice a' n c') (ls) ∧ Below w.heap.size w w' := by
  have HOw := hidP (fun W h => l6Copy_any (a) n c T N ls W hn (hB.later h) hc hl)
  have HSp := hidP (fun W h => sBookOk_any (a) n c T N ls W hn (hB.later h) hl hst)
  have HAd := hidP (sAddrOk_any ad.s ad.H.toInt ad.L.toInt)
  have HN := hidP hn
  have HR := hidP (fun W h => hB.later (w' := W) h)
  have HI := hidP (l1InO_any span 1 1000)
  have hok : ad.ok = okB ad.s ad.H.toInt ad.L.toInt := rfl
  unfold rokB at hr
  rw [hok] at hr
  cases hb : bkB ls T N
  · rw [hb] at HSp
    clear hB hn hst hok hc hr
    go_enter Tryd.func7, Tryd.ntmps7
    go_wp2_with fail
    obtain ⟨bk0_W1, bk1_W1, bk2_W1⟩ := box3B w 30 (.slice a n c) (.int .i64 T) (.int .i64 N)
    have bkF_W1 : ∀ o, (w.alloc (.cells #[.slice a n c, .int .i64 T, .int .i64 N] 30)).frozen? ⟨w.heap.size, o, none⟩ = false := fun o => by simp [go_sem]
    have bkL_W1 : w.heap.size < (w.alloc (.cells #[.slice a n c, .int .i64 T, .int .i64 N] 30)).heap.size := by simp
    have ab_W1 := alloc_below w (.cells #[.slice a n c, .int .i64 T, .int .i64 N] 30)
    have as_W1 : Hid ((w.alloc (.cells #[.slice a n c, .int .i64 T, .int .i64 N] 30)).heap.size = w.heap.size + 1) := hidP (by simp)
    generalize w.alloc (.cells #[.slice a n c, .int .i64 T, .int .i64 N] 30) = W1 at *
    have acc_W1 := hidP (ab_W1)
    have sz_W1 : Hid (w.heap.size ≤ W1.heap.size) := hidP ab_W1.size
    clear ab_W1 
    obtain ⟨at0_W2, at1_W2, at2_W2⟩ := box3B W1 34 (.bool ad.s) (.int .i64 ad.H.toInt) (.int .i64 ad.L.toInt)
    have atF_W2 : ∀ o, (W1.alloc (.cells #[.bool ad.s, .int .i64 ad.H.toInt, .int .i64 ad.L.toInt] 34)).frozen? ⟨W1.heap.size, o, none⟩ = false := fun o => by simp [go_sem]
    have atL_W2 : W1.heap.size < (W1.alloc (.cells #[.bool ad.s, .int .i64 ad.H.toInt, .int .i64 ad.L.toInt] 34)).heap.size := by simp
    have ab_W2 := alloc_below W1 (.cells #[.bool ad.s, .int .i64 ad.H.toInt, .int .i64 ad.L.toInt] 34)
    have as_W2 : Hid ((W1.alloc (.cells #[.bool ad.s, .int .i64 ad.H.toInt, .int .i64 ad.L.toInt] 34)).heap.size = W1.heap.size + 1) := hidP (by simp)
    generalize W1.alloc (.cells #[.bool ad.s, .int .i64 ad.H.toInt, .int .i64 ad.L.toInt] 34) = W2 at *
    have bk0_W2 := (ab_W2.cell bkL_W1).trans bk0_W1
    have bk1_W2 := (ab_W2.cell bkL_W1).trans bk1_W1
    have bk2_W2 := (ab_W2.cell bkL_W1).trans bk2_W1
    have bkF_W2 : ∀ o, W2.frozen? ⟨w.heap.size, o, none⟩ = false := fun o => (ab_W2.frozen bkL_W1).trans (bkF_W1 o)
    have bkL_W2 : w.heap.size < W2.heap.size := Nat.lt_of_lt_of_le bkL_W1 ab_W2.size
    have acc_W2 := hidP (acc_W1.out.trans (ab_W2.mono acc_W1.out.size))
    have sz_W2 : Hid (W1.heap.size ≤ W2.heap.size) := hidP ab_W2.size
    clear ab_W2 bk0_W1 bk1_W1 bk2_W1 bkF_W1 bkL_W1 acc_W1
    rw [as_W1.out] at at0_W2 at1_W2 at2_W2 atL_W2
    have atF_W2' : ∀ o, W2.frozen? ⟨w.heap.size + 1, o, none⟩ = false := fun o => by have := atF_W2 o; rw [as_W1.out] at this; exact this
    clear atF_W2
    have atF_W2 := atF_W2'
    clear atF_W2'
    obtain ⟨rs0_W3, rs1_W3, rs2_W3⟩ := box3B W2 30 (.slice none 0 0) (.int .i64 0) (.int .i64 0)
    have rsF_W3 : ∀ o, (W2.alloc (.cells #[.slice none 0 0, .int .i64 0, .int .i64 0] 30)).frozen? ⟨W2.heap.size, o, none⟩ = false := fun o => by simp [go_sem]
    have rsL_W3 : W2.heap.size < (W2.alloc (.cells #[.slice none 0 0, .int .i64 0, .int .i64 0] 30)).heap.size := by simp
    have ab_W3 := alloc_below W2 (.cells #[.slice none 0 0, .int .i64 0, .int .i64 0] 30)
    have as_W3 : Hid ((W2.alloc (.cells #[.slice none 0 0, .int .i64 0, .int .i64 0] 30)).heap.size = W2.heap.size + 1) := hidP (by simp)
    generalize W2.alloc (.cells #[.slice none 0 0, .int .i64 0, .int .i64 0] 30) = W3 at *
    have bk0_W3 := (ab_W3.cell bkL_W2).trans bk0_W2
    have bk1_W3 := (ab_W3.cell bkL_W2).trans bk1_W2
    have bk2_W3 := (ab_W3.cell bkL_W2).trans bk2_W2
    have bkF_W3 : ∀ o, W3.frozen? ⟨w.heap.size, o, none⟩ = false := fun o => (ab_W3.frozen bkL_W2).trans (bkF_W2 o)
    have bkL_W3 : w.heap.size < W3.heap.size := Nat.lt_of_lt_of_le bkL_W2 ab_W3.size
    have at0_W3 := (ab_W3.cell atL_W2).trans at0_W2
    have at1_W3 := (ab_W3.cell atL_W2).trans at1_W2
    have at2_W3 := (ab_W3.cell atL_W2).trans at2_W2
    have atF_W3 : ∀ o, W3.frozen? ⟨w.heap.size + 1, o, none⟩ = false := fun o => (ab_W3.frozen atL_W2).trans (atF_W2 o)
    have atL_W3 : w.heap.size + 1 < W3.heap.size := Nat.lt_of_lt_of_le atL_W2 ab_W3.size
    have acc_W3 := hidP (acc_W2.out.trans (ab_W3.mono acc_W2.out.size))
    have sz_W3 : Hid (W2.heap.size ≤ W3.heap.size) := hidP ab_W3.size
    clear ab_W3 bk0_W2 bk1_W2 bk2_W2 bkF_W2 bkL_W2 at0_W2 at1_W2 at2_W2 atF_W2 atL_W2 acc_W2
    rw [as_W2.out, as_W1.out] at rs0_W3 rs1_W3 rs2_W3 rsL_W3
    have rsF_W3' : ∀ o, W3.frozen? ⟨w.heap.size + 1 + 1, o, none⟩ = false := fun o => by have := rsF_W3 o; rw [as_W2.out, as_W1.out] at this; exact this
    clear rsF_W3
    have rsF_W3 := rsF_W3'
    clear rsF_W3'
    refine (HOw.out _ acc_W3.out).mono ?_
    rintro e w4 ⟨a3, c3, rfl, og3, hb4⟩
    have og3' := hidP og3
    clear og3
    have bk0_w4 := (hb4.cell bkL_W3).trans bk0_W3
    have bk1_w4 := (hb4.cell bkL_W3).trans bk1_W3
    have bk2_w4 := (hb4.cell bkL_W3).trans bk2_W3
    have bkF_w4 : ∀ o, w4.frozen? ⟨w.heap.size, o, none⟩ = false := fun o => (hb4.frozen bkL_W3).trans (bkF_W3 o)
    have bkL_w4 : w.heap.size < w4.heap.size := Nat.lt_of_lt_of_le bkL_W3 hb4.size
    have at0_w4 := (hb4.cell atL_W3).trans at0_W3
    have at1_w4 := (hb4.cell atL_W3).trans at1_W3
    have at2_w4 := (hb4.cell atL_W3).trans at2_W3
    have atF_w4 : ∀ o, w4.frozen? ⟨w.heap.size + 1, o, none⟩ = false := fun o => (hb4.frozen atL_W3).trans (atF_W3 o)
    have atL_w4 : w.heap.size + 1 < w4.heap.size := Nat.lt_of_lt_of_le atL_W3 hb4.size
    have rs0_w4 := (hb4.cell rsL_W3).trans rs0_W3
    have rs1_w4 := (hb4.cell rsL_W3).trans rs1_W3
    have rs2_w4 := (hb4.cell rsL_W3).trans rs2_W3
    have rsF_w4 : ∀ o, w4.frozen? ⟨w.heap.size + 1 + 1, o, none⟩ = false := fun o => (hb4.frozen rsL_W3).trans (rsF_W3 o)
    have rsL_w4 : w.heap.size + 1 + 1 < w4.heap.size := Nat.lt_of_lt_of_le rsL_W3 hb4.size
    have acc_w4 := hidP (acc_W3.out.trans (hb4.mono acc_W3.out.size))
    have sz_w4 : Hid (W3.heap.size ≤ w4.heap.size) := hidP hb4.size
    clear hb4 bk0_W3 bk1_W3 bk2_W3 bkF_W3 bkL_W3 at0_W3 at1_W3 at2_W3 atF_W3 atL_W3 rs0_W3 rs1_W3 rs2_W3 rsF_W3 rsL_W3 acc_W3
    have oL_w4 := hidP (og3'.out)
    have lhL : Hid (∀ k, (Value.slice a3 n c3).ownBlock = some k → W3.heap.size ≤ k ∧ k < w4.heap.size) := hidP (fun k hk => OwnG.lt oL_w4.out k hk)
    clear og3'
    go_wp2_with fail
    obtain ⟨ou0_W5, ou1_W5, ou2_W5⟩ := box3B w4 30 (.slice a3 n c3) (.int .i64 T) (.int .i64 N)
    have ouF_W5 : ∀ o, (w4.alloc (.cells #[.slice a3 n c3, .int .i64 T, .int .i64 N] 30)).frozen? ⟨w4.heap.size, o, none⟩ = false := fun o => by simp [go_sem]
    have ouL_W5 : w4.heap.size < (w4.alloc (.cells #[.slice a3 n c3, .int .i64 T, .int .i64 N] 30)).heap.size := by simp
    have ab_W5 := alloc_below w4 (.cells #[.slice a3 n c3, .int .i64 T, .int .i64 N] 30)
    have as_W5 : Hid ((w4.alloc (.cells #[.slice a3 n c3, .int .i64 T, .int .i64 N] 30)).heap.size = w4.heap.size + 1) := hidP (by simp)
    generalize w4.alloc (.cells #[.slice a3 n c3, .int .i64 T, .int .i64 N] 30) = W5 at *
    have bk0_W5 := (ab_W5.cell bkL_w4).trans bk0_w4
    have bk1_W5 := (ab_W5.cell bkL_w4).trans bk1_w4
    have bk2_W5 := (ab_W5.cell bkL_w4).trans bk2_w4
    have bkF_W5 : ∀ o, W5.frozen? ⟨w.heap.size, o, none⟩ = false := fun o => (ab_W5.frozen bkL_w4).trans (bkF_w4 o)
    have bkL_W5 : w.heap.size < W5.heap.size := Nat.lt_of_lt_of_le bkL_w4 ab_W5.size
    have at0_W5 := (ab_W5.cell atL_w4).trans at0_w4
    have at1_W5 := (ab_W5.cell atL_w4).trans at1_w4
    have at2_W5 := (ab_W5.cell atL_w4).trans at2_w4
    have atF_W5 : ∀ o, W5.frozen? ⟨w.heap.size + 1, o, none⟩ = false := fun o => (ab_W5.frozen atL_w4).trans (atF_w4 o)
    have atL_W5 : w.heap.size + 1 < W5.heap.size := Nat.lt_of_lt_of_le atL_w4 ab_W5.size
    have rs0_W5 := (ab_W5.cell rsL_w4).trans rs0_w4
    have rs1_W5 := (ab_W5.cell rsL_w4).trans rs1_w4
    have rs2_W5 := (ab_W5.cell rsL_w4).trans rs2_w4
    have rsF_W5 : ∀ o, W5.frozen? ⟨w.heap.size + 1 + 1, o, none⟩ = false := fun o => (ab_W5.frozen rsL_w4).trans (rsF_w4 o)
    have rsL_W5 : w.heap.size + 1 + 1 < W5.heap.size := Nat.lt_of_lt_of_le rsL_w4 ab_W5.size
    have oL_W5 := hidP (OwnG.later oL_w4.out ab_W5)
    have acc_W5 := hidP (acc_w4.out.trans (ab_W5.mono acc_w4.out.size))
    have sz_W5 : Hid (w4.heap.size ≤ W5.heap.size) := hidP ab_W5.size
    clear ab_W5 bk0_w4 bk1_w4 bk2_w4 bkF_w4 bkL_w4 at0_w4 at1_w4 at2_w4 atF_w4 atL_w4 rs0_w4 rs1_w4 rs2_w4 rsF_w4 rsL_w4 oL_w4 acc_w4
    refine (HSp.out _ acc_W5.out).mono ?_
    rintro e w6 ⟨rfl, hb6⟩
    have bk0_w6 := (hb6.cell bkL_W5).trans bk0_W5
    have bk1_w6 := (hb6.cell bkL_W5).trans bk1_W5
    have bk2_w6 := (hb6.cell bkL_W5).trans bk2_W5
    have bkF_w6 : ∀ o, w6.frozen? ⟨w.heap.size, o, none⟩ = false := fun o => (hb6.frozen bkL_W5).trans (bkF_W5 o)
    have bkL_w6 : w.heap.size < w6.heap.size := Nat.lt_of_lt_of_le bkL_W5 hb6.size
    have at0_w6 := (hb6.cell atL_W5).trans at0_W5
    have at1_w6 := (hb6.cell atL_W5).trans at1_W5
    have at2_w6 := (hb6.cell atL_W5).trans at2_W5
    have atF_w6 : ∀ o, w6.frozen? ⟨w.heap.size + 1, o, none⟩ = false := fun o => (hb6.frozen atL_W5).trans (atF_W5 o)
    have atL_w6 : w.heap.size + 1 < w6.heap.size := Nat.lt_of_lt_of_le atL_W5 hb6.size
    have rs0_w6 := (hb6.cell rsL_W5).trans rs0_W5
    have rs1_w6 := (hb6.cell rsL_W5).trans rs1_W5
    have rs2_w6 := (hb6.cell rsL_W5).trans rs2_W5
    have rsF_w6 : ∀ o, w6.frozen? ⟨w.heap.size + 1 + 1, o, none⟩ = false := fun o => (hb6.frozen rsL_W5).trans (rsF_W5 o)
    have rsL_w6 : w.heap.size + 1 + 1 < w6.heap.size := Nat.lt_of_lt_of_le rsL_W5 hb6.size
    have ou0_w6 := (hb6.cell ouL_W5).trans ou0_W5
    have ou1_w6 := (hb6.cell ouL_W5).trans ou1_W5
    have ou2_w6 := (hb6.cell ouL_W5).trans ou2_W5
    have ouF_w6 : ∀ o, w6.frozen? ⟨w4.heap.size, o, none⟩ = false := fun o => (hb6.frozen ouL_W5).trans (ouF_W5 o)
    have ouL_w6 : w4.heap.size < w6.heap.size := Nat.lt_of_lt_of_le ouL_W5 hb6.size
    have oL_w6 := hidP (OwnG.later oL_W5.out hb6)
    have acc_w6 := hidP (acc_W5.out.trans (hb6.mono acc_W5.out.size))
    have sz_w6 : Hid (W5.heap.size ≤ w6.heap.size) := hidP hb6.size
    clear hb6 bk0_W5 bk1_W5 bk2_W5 bkF_W5 bkL_W5 at0_W5 at1_W5 at2_W5 atF_W5 atL_W5 rs0_W5 rs1_W5 rs2_W5 rsF_W5 rsL_W5 ou0_W5 ou1_W5 ou2_W5 ouF_W5 ouL_W5 oL_W5 acc_W5
    go_wp2_with fail
    refine bodyPost_ret (v := .tuple #[.agg #[.slice a3 n c3, .int .i64 T, .int .i64 N], .int .i64 10]) (by simp [results, Tryd.results7, go_sem, rs0_w6, rs1_w6, rs2_w6]) rfl ⟨_, _, rfl, ?_, ?_⟩
    · refine OwnG.mono (B := W3.heap.size) ?_ (by have := as_W1.out; have := sz_W1.out; have := as_W2.out; have := sz_W2.out; have := as_W3.out; have := sz_W3.out; have := sz_w4.out; have := as_W5.out; have := sz_W5.out; have := sz_w6.out; omega)
      iterate 3 (with_reducible refine OwnG.grown ?_ (grown_cellG _ _ _ _) ?_; rotate_left; (focus (exact OwnG.ne_of oL_w6.out (by have := as_W1.out; have := sz_W1.out; have := as_W2.out; have := sz_W2.out; have := as_W3.out; have := sz_W3.out; have := sz_w4.out; have := as_W5.out; have := sz_W5.out; have := sz_w6.out; omega))))
      with_reducible exact oL_w6.out
    · repeat (with_reducible refine Below.setCell ?_ ?_ _; rotate_left; (focus (first | (simp; done) | (simp; omega))))
      exact acc_w6.out
  · have hnow := bk_now hb
    rw [hb] at HSp hr
    rw [Bool.true_and] at hr
    clear hB hn hst hok hc
    cases ho : okB ad.s ad.H.toInt ad.L.toInt
    · rw [ho] at HAd
      clear hr
      go_enter Tryd.func7, Tryd.ntmps7
      go_wp2_with fail
      obtain ⟨bk0_W1, bk1_W1, bk2_W1⟩ := box3B w 30 (.slice a n c) (.int .i64 T) (.int .i64 N)
      have bkF_W1 : ∀ o, (w.alloc (.cells #[.slice a n c, .int .i64 T, .int .i64 N] 30)).frozen? ⟨w.heap.size, o, none⟩ = false := fun o => by simp [go_sem]
      have bkL_W1 : w.heap.size < (w.alloc (.cells #[.slice a n c, .int .i64 T, .int .i64 N] 30)).heap.size := by simp
      have ab_W1 := alloc_below w (.cells #[.slice a n c, .int .i64 T, .int .i64 N] 30)
      have as_W1 : Hid ((w.alloc (.cells #[.slice a n c, .int .i64 T, .int .i64 N] 30)).heap.size = w.heap.size + 1) := hidP (by simp)
      generalize w.alloc (.cells #[.slice a n c, .int .i64 T, .int .i64 N] 30) = W1 at *
      have acc_W1 := hidP (ab_W1)
      have sz_W1 : Hid (w.heap.size ≤ W1.heap.size) := hidP ab_W1.size
      clear ab_W1 
      obtain ⟨at0_W2, at1_W2, at2_W2⟩ := box3B W1 34 (.bool ad.s) (.int .i64 ad.H.toInt) (.int .i64 ad.L.toInt)
      have atF_W2 : ∀ o, (W1.alloc (.cells #[.bool ad.s, .int .i64 ad.H.toInt, .int .i64 ad.L.toInt] 34)).frozen? ⟨W1.heap.size, o, none⟩ = false := fun o => by simp [go_sem]
      have atL_W2 : W1.heap.size < (W1.alloc (.cells #[.bool ad.s, .int .i64 ad.H.toInt, .int .i64 ad.L.toInt] 34)).heap.size := by simp
      have ab_W2 := alloc_below W1 (.cells #[.bool ad.s, .int .i64 ad.H.toInt, .int .i64 ad.L.toInt] 34)
      have as_W2 : Hid ((W1.alloc (.cells #[.bool ad.s, .int .i64 ad.H.toInt, .int .i64 ad.L.toInt] 34)).heap.size = W1.heap.size + 1) := hidP (by simp)
      generalize W1.alloc (.cells #[.bool ad.s, .int .i64 ad.H.toInt, .int .i64 ad.L.toInt] 34) = W2 at *
      have bk0_W2 := (ab_W2.cell bkL_W1).trans bk0_W1
      have bk1_W2 := (ab_W2.cell bkL_W1).trans bk1_W1
      have bk2_W2 := (ab_W2.cell bkL_W1).trans bk2_W1
      have bkF_W2 : ∀ o, W2.frozen? ⟨w.heap.size, o, none⟩ = false := fun o => (ab_W2.frozen bkL_W1).trans (bkF_W1 o)
      have bkL_W2 : w.heap.size < W2.heap.size := Nat.lt_of_lt_of_le bkL_W1 ab_W2.size
      have acc_W2 := hidP (acc_W1.out.trans (ab_W2.mono acc_W1.out.size))
      have sz_W2 : Hid (W1.heap.size ≤ W2.heap.size) := hidP ab_W2.size
      clear ab_W2 bk0_W1 bk1_W1 bk2_W1 bkF_W1 bkL_W1 acc_W1
      rw [as_W1.out] at at0_W2 at1_W2 at2_W2 atL_W2
      have atF_W2' : ∀ o, W2.frozen? ⟨w.heap.size + 1, o, none⟩ = false := fun o => by have := atF_W2 o; rw [as_W1.out] at this; exact this
      clear atF_W2
      have atF_W2 := atF_W2'
      clear atF_W2'
      obtain ⟨rs0_W3, rs1_W3, rs2_W3⟩ := box3B W2 30 (.slice none 0 0) (.int .i64 0) (.int .i64 0)
      have rsF_W3 : ∀ o, (W2.alloc (.cells #[.slice none 0 0, .int .i64 0, .int .i64 0] 30)).frozen? ⟨W2.heap.size, o, none⟩ = false := fun o => by simp [go_sem]
      have rsL_W3 : W2.heap.size < (W2.alloc (.cells #[.slice none 0 0, .int .i64 0, .int .i64 0] 30)).heap.size := by simp
      have ab_W3 := alloc_below W2 (.cells #[.slice none 0 0, .int .i64 0, .int .i64 0] 30)
      have as_W3 : Hid ((W2.alloc (.cells #[.slice none 0 0, .int .i64 0, .int .i64 0] 30)).heap.size = W2.heap.size + 1) := hidP (by simp)
      generalize W2.alloc (.cells #[.slice none 0 0, .int .i64 0, .int .i64 0] 30) = W3 at *
      have bk0_W3 := (ab_W3.cell bkL_W2).trans bk0_W2
      have bk1_W3 := (ab_W3.cell bkL_W2).trans bk1_W2
      have bk2_W3 := (ab_W3.cell bkL_W2).trans bk2_W2
      have bkF_W3 : ∀ o, W3.frozen? ⟨w.heap.size, o, none⟩ = false := fun o => (ab_W3.frozen bkL_W2).trans (bkF_W2 o)
      have bkL_W3 : w.heap.size < W3.heap.size := Nat.lt_of_lt_of_le bkL_W2 ab_W3.size
      have at0_W3 := (ab_W3.cell atL_W2).trans at0_W2
      have at1_W3 := (ab_W3.cell atL_W2).trans at1_W2
      have at2_W3 := (ab_W3.cell atL_W2).trans at2_W2
      have atF_W3 : ∀ o, W3.frozen? ⟨w.heap.size + 1, o, none⟩ = false := fun o => (ab_W3.frozen atL_W2).trans (atF_W2 o)
      have atL_W3 : w.heap.size + 1 < W3.heap.size := Nat.lt_of_lt_of_le atL_W2 ab_W3.size
      have acc_W3 := hidP (acc_W2.out.trans (ab_W3.mono acc_W2.out.size))
      have sz_W3 : Hid (W2.heap.size ≤ W3.heap.size) := hidP ab_W3.size
      clear ab_W3 bk0_W2 bk1_W2 bk2_W2 bkF_W2 bkL_W2 at0_W2 at1_W2 at2_W2 atF_W2 atL_W2 acc_W2
      rw [as_W2.out, as_W1.out] at rs0_W3 rs1_W3 rs2_W3 rsL_W3
      have rsF_W3' : ∀ o, W3.frozen? ⟨w.heap.size + 1 + 1, o, none⟩ = false := fun o => by have := rsF_W3 o; rw [as_W2.out, as_W1.out] at this; exact this
      clear rsF_W3
      have rsF_W3 := rsF_W3'
      clear rsF_W3'
      refine (HOw.out _ acc_W3.out).mono ?_
      rintro e w4 ⟨a3, c3, rfl, og3, hb4⟩
      have og3' := hidP og3
      clear og3
      have bk0_w4 := (hb4.cell bkL_W3).trans bk0_W3
      have bk1_w4 := (hb4.cell bkL_W3).trans bk1_W3
      have bk2_w4 := (hb4.cell bkL_W3).trans bk2_W3
      have bkF_w4 : ∀ o, w4.frozen? ⟨w.heap.size, o, none⟩ = false := fun o => (hb4.frozen bkL_W3).trans (bkF_W3 o)
      have bkL_w4 : w.heap.size < w4.heap.size := Nat.lt_of_lt_of_le bkL_W3 hb4.size
      have at0_w4 := (hb4.cell atL_W3).trans at0_W3
      have at1_w4 := (hb4.cell atL_W3).trans at1_W3
      have at2_w4 := (hb4.cell atL_W3).trans at2_W3
      have atF_w4 : ∀ o, w4.frozen? ⟨w.heap.size + 1, o, none⟩ = false := fun o => (hb4.frozen atL_W3).trans (atF_W3 o)
      have atL_w4 : w.heap.size + 1 < w4.heap.size := Nat.lt_of_lt_of_le atL_W3 hb4.size
      have rs0_w4 := (hb4.cell rsL_W3).trans rs0_W3
      have rs1_w4 := (hb4.cell rsL_W3).trans rs1_W3
      have rs2_w4 := (hb4.cell rsL_W3).trans rs2_W3
      have rsF_w4 : ∀ o, w4.frozen? ⟨w.heap.size + 1 + 1, o, none⟩ = false := fun o => (hb4.frozen rsL_W3).trans (rsF_W3 o)
      have rsL_w4 : w.heap.size + 1 + 1 < w4.heap.size := Nat.lt_of_lt_of_le rsL_W3 hb4.size
      have acc_w4 := hidP (acc_W3.out.trans (hb4.mono acc_W3.out.size))
      have sz_w4 : Hid (W3.heap.size ≤ w4.heap.size) := hidP hb4.size
      clear hb4 bk0_W3 bk1_W3 bk2_W3 bkF_W3 bkL_W3 at0_W3 at1_W3 at2_W3 atF_W3 atL_W3 rs0_W3 rs1_W3 rs2_W3 rsF_W3 rsL_W3 acc_W3
      have oL_w4 := hidP (og3'.out)
      have lhL : Hid (∀ k, (Value.slice a3 n c3).ownBlock = some k → W3.heap.size ≤ k ∧ k < w4.heap.size) := hidP (fun k hk => OwnG.lt oL_w4.out k hk)
      clear og3'
      go_wp2_with fail
      obtain ⟨ou0_W5, ou1_W5, ou2_W5⟩ := box3B w4 30 (.slice a3 n c3) (.int .i64 T) (.int .i64 N)
      have ouF_W5 : ∀ o, (w4.alloc (.cells #[.slice a3 n c3, .int .i64 T, .int .i64 N] 30)).frozen? ⟨w4.heap.size, o, none⟩ = false := fun o => by simp [go_sem]
      have ouL_W5 : w4.heap.size < (w4.alloc (.cells #[.slice a3 n c3, .int .i64 T, .int .i64 N] 30)).heap.size := by simp
      have ab_W5 := alloc_below w4 (.cells #[.slice a3 n c3, .int .i64 T, .int .i64 N] 30)
      have as_W5 : Hid ((w4.alloc (.cells #[.slice a3 n c3, .int .i64 T, .int .i64 N] 30)).heap.size = w4.heap.size + 1) := hidP (by simp)
      generalize w4.alloc (.cells #[.slice a3 n c3, .int .i64 T, .int .i64 N] 30) = W5 at *
      have bk0_W5 := (ab_W5.cell bkL_w4).trans bk0_w4
      have bk1_W5 := (ab_W5.cell bkL_w4).trans bk1_w4
      have bk2_W5 := (ab_W5.cell bkL_w4).trans bk2_w4
      have bkF_W5 : ∀ o, W5.frozen? ⟨w.heap.size, o, none⟩ = false := fun o => (ab_W5.frozen bkL_w4).trans (bkF_w4 o)
      have bkL_W5 : w.heap.size < W5.heap.size := Nat.lt_of_lt_of_le bkL_w4 ab_W5.size
      have at0_W5 := (ab_W5.cell atL_w4).trans at0_w4
      have at1_W5 := (ab_W5.cell atL_w4).trans at1_w4
      have at2_W5 := (ab_W5.cell atL_w4).trans at2_w4
      have atF_W5 : ∀ o, W5.frozen? ⟨w.heap.size + 1, o, none⟩ = false := fun o => (ab_W5.frozen atL_w4).trans (atF_w4 o)
      have atL_W5 : w.heap.size + 1 < W5.heap.size := Nat.lt_of_lt_of_le atL_w4 ab_W5.size
      have rs0_W5 := (ab_W5.cell rsL_w4).trans rs0_w4
      have rs1_W5 := (ab_W5.cell rsL_w4).trans rs1_w4
      have rs2_W5 := (ab_W5.cell rsL_w4).trans rs2_w4
      have rsF_W5 : ∀ o, W5.frozen? ⟨w.heap.size + 1 + 1, o, none⟩ = false := fun o => (ab_W5.frozen rsL_w4).trans (rsF_w4 o)
      have rsL_W5 : w.heap.size + 1 + 1 < W5.heap.size := Nat.lt_of_lt_of_le rsL_w4 ab_W5.size
      have oL_W5 := hidP (OwnG.later oL_w4.out ab_W5)
      have acc_W5 := hidP (acc_w4.out.trans (ab_W5.mono acc_w4.out.size))
      have sz_W5 : Hid (w4.heap.size ≤ W5.heap.size) := hidP ab_W5.size
      clear ab_W5 bk0_w4 bk1_w4 bk2_w4 bkF_w4 bkL_w4 at0_w4 at1_w4 at2_w4 atF_w4 atL_w4 rs0_w4 rs1_w4 rs2_w4 rsF_w4 rsL_w4 oL_w4 acc_w4
      refine (HSp.out _ acc_W5.out).mono ?_
      rintro e w6 ⟨rfl, hb6⟩
      have bk0_w6 := (hb6.cell bkL_W5).trans bk0_W5
      have bk1_w6 := (hb6.cell bkL_W5).trans bk1_W5
      have bk2_w6 := (hb6.cell bkL_W5).trans bk2_W5
      have bkF_w6 : ∀ o, w6.frozen? ⟨w.heap.size, o, none⟩ = false := fun o => (hb6.frozen bkL_W5).trans (bkF_W5 o)
      have bkL_w6 : w.heap.size < w6.heap.size := Nat.lt_of_lt_of_le bkL_W5 hb6.size
      have at0_w6 := (hb6.cell atL_W5).trans at0_W5
      have at1_w6 := (hb6.cell atL_W5).trans at1_W5
      have at2_w6 := (hb6.cell atL_W5).trans at2_W5
      have atF_w6 : ∀ o, w6.frozen? ⟨w.heap.size + 1, o, none⟩ = false := fun o => (hb6.frozen atL_W5).trans (atF_W5 o)
      have atL_w6 : w.heap.size + 1 < w6.heap.size := Nat.lt_of_lt_of_le atL_W5 hb6.size
      have rs0_w6 := (hb6.cell rsL_W5).trans rs0_W5
      have rs1_w6 := (hb6.cell rsL_W5).trans rs1_W5
      have rs2_w6 := (hb6.cell rsL_W5).trans rs2_W5
      have rsF_w6 : ∀ o, w6.frozen? ⟨w.heap.size + 1 + 1, o, none⟩ = false := fun o => (hb6.frozen rsL_W5).trans (rsF_W5 o)
      have rsL_w6 : w.heap.size + 1 + 1 < w6.heap.size := Nat.lt_of_lt_of_le rsL_W5 hb6.size
      have ou0_w6 := (hb6.cell ouL_W5).trans ou0_W5
      have ou1_w6 := (hb6.cell ouL_W5).trans ou1_W5
      have ou2_w6 := (hb6.cell ouL_W5).trans ou2_W5
      have ouF_w6 : ∀ o, w6.frozen? ⟨w4.heap.size, o, none⟩ = false := fun o => (hb6.frozen ouL_W5).trans (ouF_W5 o)
      have ouL_w6 : w4.heap.size < w6.heap.size := Nat.lt_of_lt_of_le ouL_W5 hb6.size
      have oL_w6 := hidP (OwnG.later oL_W5.out hb6)
      have acc_w6 := hidP (acc_W5.out.trans (hb6.mono acc_W5.out.size))
      have sz_w6 : Hid (W5.heap.size ≤ w6.heap.size) := hidP hb6.size
      clear hb6 bk0_W5 bk1_W5 bk2_W5 bkF_W5 bkL_W5 at0_W5 at1_W5 at2_W5 atF_W5 atL_W5 rs0_W5 rs1_W5 rs2_W5 rsF_W5 rsL_W5 ou0_W5 ou1_W5 ou2_W5 ouF_W5 ouL_W5 oL_W5 acc_W5
      go_wp2_with fail
      refine (HAd.out _).mono ?_
      rintro e w7 ⟨rfl, hb7⟩
      have bk0_w7 := (hb7.cell bkL_w6).trans bk0_w6
      have bk1_w7 := (hb7.cell bkL_w6).trans bk1_w6
      have bk2_w7 := (hb7.cell bkL_w6).trans bk2_w6
      have bkF_w7 : ∀ o, w7.frozen? ⟨w.heap.size, o, none⟩ = false := fun o => (hb7.frozen bkL_w6).trans (bkF_w6 o)
      have bkL_w7 : w.heap.size < w7.heap.size := Nat.lt_of_lt_of_le bkL_w6 hb7.size
      have at0_w7 := (hb7.cell atL_w6).trans at0_w6
      have at1_w7 := (hb7.cell atL_w6).trans at1_w6
      have at2_w7 := (hb7.cell atL_w6).trans at2_w6
      have atF_w7 : ∀ o, w7.frozen? ⟨w.heap.size + 1, o, none⟩ = false := fun o => (hb7.frozen atL_w6).trans (atF_w6 o)
      have atL_w7 : w.heap.size + 1 < w7.heap.size := Nat.lt_of_lt_of_le atL_w6 hb7.size
      have rs0_w7 := (hb7.cell rsL_w6).trans rs0_w6
      have rs1_w7 := (hb7.cell rsL_w6).trans rs1_w6
      have rs2_w7 := (hb7.cell rsL_w6).trans rs2_w6
      have rsF_w7 : ∀ o, w7.frozen? ⟨w.heap.size + 1 + 1, o, none⟩ = false := fun o => (hb7.frozen rsL_w6).trans (rsF_w6 o)
      have rsL_w7 : w.heap.size + 1 + 1 < w7.heap.size := Nat.lt_of_lt_of_le rsL_w6 hb7.size
      have ou0_w7 := (hb7.cell ouL_w6).trans ou0_w6
      have ou1_w7 := (hb7.cell ouL_w6).trans ou1_w6
      have ou2_w7 := (hb7.cell ouL_w6).trans ou2_w6
      have ouF_w7 : ∀ o, w7.frozen? ⟨w4.heap.size, o, none⟩ = false := fun o => (hb7.frozen ouL_w6).trans (ouF_w6 o)
      have ouL_w7 : w4.heap.size < w7.heap.size := Nat.lt_of_lt_of_le ouL_w6 hb7.size
      have oL_w7 := hidP (OwnG.later oL_w6.out hb7)
      have acc_w7 := hidP (acc_w6.out.trans (hb7.mono acc_w6.out.size))
      have sz_w7 : Hid (w6.heap.size ≤ w7.heap.size) := hidP hb7.size
      clear hb7 bk0_w6 bk1_w6 bk2_w6 bkF_w6 bkL_w6 at0_w6 at1_w6 at2_w6 atF_w6 atL_w6 rs0_w6 rs1_w6 rs2_w6 rsF_w6 rsL_w6 ou0_w6 ou1_w6 ou2_w6 ouF_w6 ouL_w6 oL_w6 acc_w6
      go_wp2_with fail
      refine bodyPost_ret (v := .tuple #[.agg #[.slice a3 n c3, .int .i64 T, .int .i64 N], .int .i64 10]) (by simp [results, Tryd.results7, go_sem, rs0_w7, rs1_w7, rs2_w7]) rfl ⟨_, _, rfl, ?_, ?_⟩
      · refine OwnG.mono (B := W3.heap.size) ?_ (by have := as_W1.out; have := sz_W1.out; have := as_W2.out; have := sz_W2.out; have := as_W3.out; have := sz_W3.out; have := sz_w4.out; have := as_W5.out; have := sz_W5.out; have := sz_w6.out; have := sz_w7.out; omega)
        iterate 3 (with_reducible refine OwnG.grown ?_ (grown_cellG _ _ _ _) ?_; rotate_left; (focus (exact OwnG.ne_of oL_w7.out (by have := as_W1.out; have := sz_W1.out; have := as_W2.out; have := sz_W2.out; have := as_W3.out; have := sz_W3.out; have := sz_w4.out; have := as_W5.out; have := sz_W5.out; have := sz_w6.out; have := sz_w7.out; omega))))
        with_reducible exact oL_w7.out
      · repeat (with_reducible refine Below.setCell ?_ ?_ _; rotate_left; (focus (first | (simp; done) | (simp; omega))))
        exact acc_w7.out
    · rw [ho] at HAd hr
      rw [Bool.true_and] at hr
      cases h1 : (decide (1 ≤ span) && decide (span ≤ 1000))
      · rw [h1] at HI
        clear hr
        go_enter Tryd.func7, Tryd.ntmps7
        go_wp2_with fail
        obtain ⟨bk0_W1, bk1_W1, bk2_W1⟩ := box3B w 30 (.slice a n c) (.int .i64 T) (.int .i64 N)
        have bkF_W1 : ∀ o, (w.alloc (.cells #[.slice a n c, .int .i64 T, .int .i64 N] 30)).frozen? ⟨w.heap.size, o, none⟩ = false := fun o => by simp [go_sem]
        have bkL_W1 : w.heap.size < (w.alloc (.cells #[.slice a n c, .int .i64 T, .int .i64 N] 30)).heap.size := by simp
        have ab_W1 := alloc_below w (.cells #[.slice a n c, .int .i64 T, .int .i64 N] 30)
        have as_W1 : Hid ((w.alloc (.cells #[.slice a n c, .int .i64 T, .int .i64 N] 30)).heap.size = w.heap.size + 1) := hidP (by simp)
        generalize w.alloc (.cells #[.slice a n c, .int .i64 T, .int .i64 N] 30) = W1 at *
        have acc_W1 := hidP (ab_W1)
        have sz_W1 : Hid (w.heap.size ≤ W1.heap.size) := hidP ab_W1.size
        clear ab_W1 
        obtain ⟨at0_W2, at1_W2, at2_W2⟩ := box3B W1 34 (.bool ad.s) (.int .i64 ad.H.toInt) (.int .i64 ad.L.toInt)
        have atF_W2 : ∀ o, (W1.alloc (.cells #[.bool ad.s, .int .i64 ad.H.toInt, .int .i64 ad.L.toInt] 34)).frozen? ⟨W1.heap.size, o, none⟩ = false := fun o => by simp [go_sem]
        have atL_W2 : W1.heap.size < (W1.alloc (.cells #[.bool ad.s, .int .i64 ad.H.toInt, .int .i64 ad.L.toInt] 34)).heap.size := by simp
        have ab_W2 := alloc_below W1 (.cells #[.bool ad.s, .int .i64 ad.H.toInt, .int .i64 ad.L.toInt] 34)
        have as_W2 : Hid ((W1.alloc (.cells #[.bool ad.s, .int .i64 ad.H.toInt, .int .i64 ad.L.toInt] 34)).heap.size = W1.heap.size + 1) := hidP (by simp)
        generalize W1.alloc (.cells #[.bool ad.s, .int .i64 ad.H.toInt, .int .i64 ad.L.toInt] 34) = W2 at *
        have bk0_W2 := (ab_W2.cell bkL_W1).trans bk0_W1
        have bk1_W2 := (ab_W2.cell bkL_W1).trans bk1_W1
        have bk2_W2 := (ab_W2.cell bkL_W1).trans bk2_W1
        have bkF_W2 : ∀ o, W2.frozen? ⟨w.heap.size, o, none⟩ = false := fun o => (ab_W2.frozen bkL_W1).trans (bkF_W1 o)
        have bkL_W2 : w.heap.size < W2.heap.size := Nat.lt_of_lt_of_le bkL_W1 ab_W2.size
        have acc_W2 := hidP (acc_W1.out.trans (ab_W2.mono acc_W1.out.size))
        have sz_W2 : Hid (W1.heap.size ≤ W2.heap.size) := hidP ab_W2.size
        clear ab_W2 bk0_W1 bk1_W1 bk2_W1 bkF_W1 bkL_W1 acc_W1
        rw [as_W1.out] at at0_W2 at1_W2 at2_W2 atL_W2
        have atF_W2' : ∀ o, W2.frozen? ⟨w.heap.size + 1, o, none⟩ = false := fun o => by have := atF_W2 o; rw [as_W1.out] at this; exact this
        clear atF_W2
        have atF_W2 := atF_W2'
        clear atF_W2'
        obtain ⟨rs0_W3, rs1_W3, rs2_W3⟩ := box3B W2 30 (.slice none 0 0) (.int .i64 0) (.int .i64 0)
        have rsF_W3 : ∀ o, (W2.alloc (.cells #[.slice none 0 0, .int .i64 0, .int .i64 0] 30)).frozen? ⟨W2.heap.size, o, none⟩ = false := fun o => by simp [go_sem]
        have rsL_W3 : W2.heap.size < (W2.alloc (.cells #[.slice none 0 0, .int .i64 0, .int .i64 0] 30)).heap.size := by simp
        have ab_W3 := alloc_below W2 (.cells #[.slice none 0 0, .int .i64 0, .int .i64 0] 30)
        have as_W3 : Hid ((W2.alloc (.cells #[.slice none 0 0, .int .i64 0, .int .i64 0] 30)).heap.size = W2.heap.size + 1) := hidP (by simp)
        generalize W2.alloc (.cells #[.slice none 0 0, .int .i64 0, .int .i64 0] 30) = W3 at *
        have bk0_W3 := (ab_W3.cell bkL_W2).trans bk0_W2
        have bk1_W3 := (ab_W3.cell bkL_W2).trans bk1_W2
        have bk2_W3 := (ab_W3.cell bkL_W2).trans bk2_W2
        have bkF_W3 : ∀ o, W3.frozen? ⟨w.heap.size, o, none⟩ = false := fun o => (ab_W3.frozen bkL_W2).trans (bkF_W2 o)
        have bkL_W3 : w.heap.size < W3.heap.size := Nat.lt_of_lt_of_le bkL_W2 ab_W3.size
        have at0_W3 := (ab_W3.cell atL_W2).trans at0_W2
        have at1_W3 := (ab_W3.cell atL_W2).trans at1_W2
        have at2_W3 := (ab_W3.cell atL_W2).trans at2_W2
        have atF_W3 : ∀ o, W3.frozen? ⟨w.heap.size + 1, o, none⟩ = false := fun o => (ab_W3.frozen atL_W2).trans (atF_W2 o)
        have atL_W3 : w.heap.size + 1 < W3.heap.size := Nat.lt_of_lt_of_le atL_W2 ab_W3.size
        have acc_W3 := hidP (acc_W2.out.trans (ab_W3.mono acc_W2.out.size))
        have sz_W3 : Hid (W2.heap.size ≤ W3.heap.size) := hidP ab_W3.size
        clear ab_W3 bk0_W2 bk1_W2 bk2_W2 bkF_W2 bkL_W2 at0_W2 at1_W2 at2_W2 atF_W2 atL_W2 acc_W2
        rw [as_W2.out, as_W1.out] at rs0_W3 rs1_W3 rs2_W3 rsL_W3
        have rsF_W3' : ∀ o, W3.frozen? ⟨w.heap.size + 1 + 1, o, none⟩ = false := fun o => by have := rsF_W3 o; rw [as_W2.out, as_W1.out] at this; exact this
        clear rsF_W3
        have rsF_W3 := rsF_W3'
        clear rsF_W3'
        refine (HOw.out _ acc_W3.out).mono ?_
        rintro e w4 ⟨a3, c3, rfl, og3, hb4⟩
        have og3' := hidP og3
        clear og3
        have bk0_w4 := (hb4.cell bkL_W3).trans bk0_W3
        have bk1_w4 := (hb4.cell bkL_W3).trans bk1_W3
        have bk2_w4 := (hb4.cell bkL_W3).trans bk2_W3
        have bkF_w4 : ∀ o, w4.frozen? ⟨w.heap.size, o, none⟩ = false := fun o => (hb4.frozen bkL_W3).trans (bkF_W3 o)
        have bkL_w4 : w.heap.size < w4.heap.size := Nat.lt_of_lt_of_le bkL_W3 hb4.size
        have at0_w4 := (hb4.cell atL_W3).trans at0_W3
        have at1_w4 := (hb4.cell atL_W3).trans at1_W3
        have at2_w4 := (hb4.cell atL_W3).trans at2_W3
        have atF_w4 : ∀ o, w4.frozen? ⟨w.heap.size + 1, o, none⟩ = false := fun o => (hb4.frozen atL_W3).trans (atF_W3 o)
        have atL_w4 : w.heap.size + 1 < w4.heap.size := Nat.lt_of_lt_of_le atL_W3 hb4.size
        have rs0_w4 := (hb4.cell rsL_W3).trans rs0_W3
        have rs1_w4 := (hb4.cell rsL_W3).trans rs1_W3
        have rs2_w4 := (hb4.cell rsL_W3).trans rs2_W3
        have rsF_w4 : ∀ o, w4.frozen? ⟨w.heap.size + 1 + 1, o, none⟩ = false := fun o => (hb4.frozen rsL_W3).trans (rsF_W3 o)
        have rsL_w4 : w.heap.size + 1 + 1 < w4.heap.size := Nat.lt_of_lt_of_le rsL_W3 hb4.size
        have acc_w4 := hidP (acc_W3.out.trans (hb4.mono acc_W3.out.size))
        have sz_w4 : Hid (W3.heap.size ≤ w4.heap.size) := hidP hb4.size
        clear hb4 bk0_W3 bk1_W3 bk2_W3 bkF_W3 bkL_W3 at0_W3 at1_W3 at2_W3 atF_W3 atL_W3 rs0_W3 rs1_W3 rs2_W3 rsF_W3 rsL_W3 acc_W3
        have oL_w4 := hidP (og3'.out)
        have lhL : Hid (∀ k, (Value.slice a3 n c3).ownBlock = some k → W3.heap.size ≤ k ∧ k < w4.heap.size) := hidP (fun k hk => OwnG.lt oL_w4.out k hk)
        clear og3'
        go_wp2_with fail
        obtain ⟨ou0_W5, ou1_W5, ou2_W5⟩ := box3B w4 30 (.slice a3 n c3) (.int .i64 T) (.int .i64 N)
        have ouF_W5 : ∀ o, (w4.alloc (.cells #[.slice a3 n c3, .int .i64 T, .int .i64 N] 30)).frozen? ⟨w4.heap.size, o, none⟩ = false := fun o => by simp [go_sem]
        have ouL_W5 : w4.heap.size < (w4.alloc (.cells #[.slice a3 n c3, .int .i64 T, .int .i64 N] 30)).heap.size := by simp
        have ab_W5 := alloc_below w4 (.cells #[.slice a3 n c3, .int .i64 T, .int .i64 N] 30)
        have as_W5 : Hid ((w4.alloc (.cells #[.slice a3 n c3, .int .i64 T, .int .i64 N] 30)).heap.size = w4.heap.size + 1) := hidP (by simp)
        generalize w4.alloc (.cells #[.slice a3 n c3, .int .i64 T, .int .i64 N] 30) = W5 at *
        have bk0_W5 := (ab_W5.cell bkL_w4).trans bk0_w4
        have bk1_W5 := (ab_W5.cell bkL_w4).trans bk1_w4
        have bk2_W5 := (ab_W5.cell bkL_w4).trans bk2_w4
        have bkF_W5 : ∀ o, W5.frozen? ⟨w.heap.size, o, none⟩ = false := fun o => (ab_W5.frozen bkL_w4).trans (bkF_w4 o)
        have bkL_W5 : w.heap.size < W5.heap.size := Nat.lt_of_lt_of_le bkL_w4 ab_W5.size
        have at0_W5 := (ab_W5.cell atL_w4).trans at0_w4
        have at1_W5 := (ab_W5.cell atL_w4).trans at1_w4
        have at2_W5 := (ab_W5.cell atL_w4).trans at2_w4
        have atF_W5 : ∀ o, W5.frozen? ⟨w.heap.size + 1, o, none⟩ = false := fun o => (ab_W5.frozen atL_w4).trans (atF_w4 o)
        have atL_W5 : w.heap.size + 1 < W5.heap.size := Nat.lt_of_lt_of_le atL_w4 ab_W5.size
        have rs0_W5 := (ab_W5.cell rsL_w4).trans rs0_w4
        have rs1_W5 := (ab_W5.cell rsL_w4).trans rs1_w4
        have rs2_W5 := (ab_W5.cell rsL_w4).trans rs2_w4
        have rsF_W5 : ∀ o, W5.frozen? ⟨w.heap.size + 1 + 1, o, none⟩ = false := fun o => (ab_W5.frozen rsL_w4).trans (rsF_w4 o)
        have rsL_W5 : w.heap.size + 1 + 1 < W5.heap.size := Nat.lt_of_lt_of_le rsL_w4 ab_W5.size
        have oL_W5 := hidP (OwnG.later oL_w4.out ab_W5)
        have acc_W5 := hidP (acc_w4.out.trans (ab_W5.mono acc_w4.out.size))
        have sz_W5 : Hid (w4.heap.size ≤ W5.heap.size) := hidP ab_W5.size
        clear ab_W5 bk0_w4 bk1_w4 bk2_w4 bkF_w4 bkL_w4 at0_w4 at1_w4 at2_w4 atF_w4 atL_w4 rs0_w4 rs1_w4 rs2_w4 rsF_w4 rsL_w4 oL_w4 acc_w4
        refine (HSp.out _ acc_W5.out).mono ?_
        rintro e w6 ⟨rfl, hb6⟩
        have bk0_w6 := (hb6.cell bkL_W5).trans bk0_W5
        have bk1_w6 := (hb6.cell bkL_W5).trans bk1_W5
        have bk2_w6 := (hb6.cell bkL_W5).trans bk2_W5
        have bkF_w6 : ∀ o, w6.frozen? ⟨w.heap.size, o, none⟩ = false := fun o => (hb6.frozen bkL_W5).trans (bkF_W5 o)
        have bkL_w6 : w.heap.size < w6.heap.size := Nat.lt_of_lt_of_le bkL_W5 hb6.size
        have at0_w6 := (hb6.cell atL_W5).trans at0_W5
        have at1_w6 := (hb6.cell atL_W5).trans at1_W5
        have at2_w6 := (hb6.cell atL_W5).trans at2_W5
        have atF_w6 : ∀ o, w6.frozen? ⟨w.heap.size + 1, o, none⟩ = false := fun o => (hb6.frozen atL_W5).trans (atF_W5 o)
        have atL_w6 : w.heap.size + 1 < w6.heap.size := Nat.lt_of_lt_of_le atL_W5 hb6.size
        have rs0_w6 := (hb6.cell rsL_W5).trans rs0_W5
        have rs1_w6 := (hb6.cell rsL_W5).trans rs1_W5
        have rs2_w6 := (hb6.cell rsL_W5).trans rs2_W5
        have rsF_w6 : ∀ o, w6.frozen? ⟨w.heap.size + 1 + 1, o, none⟩ = false := fun o => (hb6.frozen rsL_W5).trans (rsF_W5 o)
        have rsL_w6 : w.heap.size + 1 + 1 < w6.heap.size := Nat.lt_of_lt_of_le rsL_W5 hb6.size
        have ou0_w6 := (hb6.cell ouL_W5).trans ou0_W5
        have ou1_w6 := (hb6.cell ouL_W5).trans ou1_W5
        have ou2_w6 := (hb6.cell ouL_W5).trans ou2_W5
        have ouF_w6 : ∀ o, w6.frozen? ⟨w4.heap.size, o, none⟩ = false := fun o => (hb6.frozen ouL_W5).trans (ouF_W5 o)
        have ouL_w6 : w4.heap.size < w6.heap.size := Nat.lt_of_lt_of_le ouL_W5 hb6.size
        have oL_w6 := hidP (OwnG.later oL_W5.out hb6)
        have acc_w6 := hidP (acc_W5.out.trans (hb6.mono acc_W5.out.size))
        have sz_w6 : Hid (W5.heap.size ≤ w6.heap.size) := hidP hb6.size
        clear hb6 bk0_W5 bk1_W5 bk2_W5 bkF_W5 bkL_W5 at0_W5 at1_W5 at2_W5 atF_W5 atL_W5 rs0_W5 rs1_W5 rs2_W5 rsF_W5 rsL_W5 ou0_W5 ou1_W5 ou2_W5 ouF_W5 ouL_W5 oL_W5 acc_W5
        go_wp2_with fail
        refine (HAd.out _).mono ?_
        rintro e w7 ⟨rfl, hb7⟩
        have bk0_w7 := (hb7.cell bkL_w6).trans bk0_w6
        have bk1_w7 := (hb7.cell bkL_w6).trans bk1_w6
        have bk2_w7 := (hb7.cell bkL_w6).trans bk2_w6
        have bkF_w7 : ∀ o, w7.frozen? ⟨w.heap.size, o, none⟩ = false := fun o => (hb7.frozen bkL_w6).trans (bkF_w6 o)
        have bkL_w7 : w.heap.size < w7.heap.size := Nat.lt_of_lt_of_le bkL_w6 hb7.size
        have at0_w7 := (hb7.cell atL_w6).trans at0_w6
        have at1_w7 := (hb7.cell atL_w6).trans at1_w6
        have at2_w7 := (hb7.cell atL_w6).trans at2_w6
        have atF_w7 : ∀ o, w7.frozen? ⟨w.heap.size + 1, o, none⟩ = false := fun o => (hb7.frozen atL_w6).trans (atF_w6 o)
        have atL_w7 : w.heap.size + 1 < w7.heap.size := Nat.lt_of_lt_of_le atL_w6 hb7.size
        have rs0_w7 := (hb7.cell rsL_w6).trans rs0_w6
        have rs1_w7 := (hb7.cell rsL_w6).trans rs1_w6
        have rs2_w7 := (hb7.cell rsL_w6).trans rs2_w6
        have rsF_w7 : ∀ o, w7.frozen? ⟨w.heap.size + 1 + 1, o, none⟩ = false := fun o => (hb7.frozen rsL_w6).trans (rsF_w6 o)
        have rsL_w7 : w.heap.size + 1 + 1 < w7.heap.size := Nat.lt_of_lt_of_le rsL_w6 hb7.size
        have ou0_w7 := (hb7.cell ouL_w6).trans ou0_w6
        have ou1_w7 := (hb7.cell ouL_w6).trans ou1_w6
        have ou2_w7 := (hb7.cell ouL_w6).trans ou2_w6
        have ouF_w7 : ∀ o, w7.frozen? ⟨w4.heap.size, o, none⟩ = false := fun o => (hb7.frozen ouL_w6).trans (ouF_w6 o)
        have ouL_w7 : w4.heap.size < w7.heap.size := Nat.lt_of_lt_of_le ouL_w6 hb7.size
        have oL_w7 := hidP (OwnG.later oL_w6.out hb7)
        have acc_w7 := hidP (acc_w6.out.trans (hb7.mono acc_w6.out.size))
        have sz_w7 : Hid (w6.heap.size ≤ w7.heap.size) := hidP hb7.size
        clear hb7 bk0_w6 bk1_w6 bk2_w6 bkF_w6 bkL_w6 at0_w6 at1_w6 at2_w6 atF_w6 atL_w6 rs0_w6 rs1_w6 rs2_w6 rsF_w6 rsL_w6 ou0_w6 ou1_w6 ou2_w6 ouF_w6 ouL_w6 oL_w6 acc_w6
        go_wp2_with fail
        refine (HI.out _).mono ?_
        rintro e w7' ⟨rfl, hw7⟩
        rw [hw7]
        clear hw7 w7'
        go_wp2_with fail
        refine bodyPost_ret (v := .tuple #[.agg #[.slice a3 n c3, .int .i64 T, .int .i64 N], .int .i64 10]) (by simp [results, Tryd.results7, go_sem, rs0_w7, rs1_w7, rs2_w7]) rfl ⟨_, _, rfl, ?_, ?_⟩
        · refine OwnG.mono (B := W3.heap.size) ?_ (by have := as_W1.out; have := sz_W1.out; have := as_W2.out; have := sz_W2.out; have := as_W3.out; have := sz_W3.out; have := sz_w4.out; have := as_W5.out; have := sz_W5.out; have := sz_w6.out; have := sz_w7.out; omega)
          iterate 3 (with_reducible refine OwnG.grown ?_ (grown_cellG _ _ _ _) ?_; rotate_left; (focus (exact OwnG.ne_of oL_w7.out (by have := as_W1.out; have := sz_W1.out; have := as_W2.out; have := sz_W2.out; have := as_W3.out; have := sz_W3.out; have := sz_w4.out; have := as_W5.out; have := sz_W5.out; have := sz_w6.out; have := sz_w7.out; omega))))
          with_reducible exact oL_w7.out
        · repeat (with_reducible refine Below.setCell ?_ ?_ _; rotate_left; (focus (first | (simp; done) | (simp; omega))))
          exact acc_w7.out
      · have hw := sp_wrap hnow h1
        obtain ⟨hw1, hw2⟩ := hw
        rw [h1] at HI hr
        rw [Bool.true_and] at hr
        have h2 : decide ((1000000000 : Int) < N + span) = true := by have := of_decide_eq_false hr; exact decide_eq_true (by omega)
        clear hr h1
        go_enter Tryd.func7, Tryd.ntmps7
        go_wp2_with fail
        obtain ⟨bk0_W1, bk1_W1, bk2_W1⟩ := box3B w 30 (.slice a n c) (.int .i64 T) (.int .i64 N)
        have bkF_W1 : ∀ o, (w.alloc (.cells #[.slice a n c, .int .i64 T, .int .i64 N] 30)).frozen? ⟨w.heap.size, o, none⟩ = false := fun o => by simp [go_sem]
        have bkL_W1 : w.heap.size < (w.alloc (.cells #[.slice a n c, .int .i64 T, .int .i64 N] 30)).heap.size := by simp
        have ab_W1 := alloc_below w (.cells #[.slice a n c, .int .i64 T, .int .i64 N] 30)
        have as_W1 : Hid ((w.alloc (.cells #[.slice a n c, .int .i64 T, .int .i64 N] 30)).heap.size = w.heap.size + 1) := hidP (by simp)
        generalize w.alloc (.cells #[.slice a n c, .int .i64 T, .int .i64 N] 30) = W1 at *
        have acc_W1 := hidP (ab_W1)
        have sz_W1 : Hid (w.heap.size ≤ W1.heap.size) := hidP ab_W1.size
        clear ab_W1 
        obtain ⟨at0_W2, at1_W2, at2_W2⟩ := box3B W1 34 (.bool ad.s) (.int .i64 ad.H.toInt) (.int .i64 ad.L.toInt)
        have atF_W2 : ∀ o, (W1.alloc (.cells #[.bool ad.s, .int .i64 ad.H.toInt, .int .i64 ad.L.toInt] 34)).frozen? ⟨W1.heap.size, o, none⟩ = false := fun o => by simp [go_sem]
        have atL_W2 : W1.heap.size < (W1.alloc (.cells #[.bool ad.s, .int .i64 ad.H.toInt, .int .i64 ad.L.toInt] 34)).heap.size := by simp
        have ab_W2 := alloc_below W1 (.cells #[.bool ad.s, .int .i64 ad.H.toInt, .int .i64 ad.L.toInt] 34)
        have as_W2 : Hid ((W1.alloc (.cells #[.bool ad.s, .int .i64 ad.H.toInt, .int .i64 ad.L.toInt] 34)).heap.size = W1.heap.size + 1) := hidP (by simp)
        generalize W1.alloc (.cells #[.bool ad.s, .int .i64 ad.H.toInt, .int .i64 ad.L.toInt] 34) = W2 at *
        have bk0_W2 := (ab_W2.cell bkL_W1).trans bk0_W1
        have bk1_W2 := (ab_W2.cell bkL_W1).trans bk1_W1
        have bk2_W2 := (ab_W2.cell bkL_W1).trans bk2_W1
        have bkF_W2 : ∀ o, W2.frozen? ⟨w.heap.size, o, none⟩ = false := fun o => (ab_W2.frozen bkL_W1).trans (bkF_W1 o)
        have bkL_W2 : w.heap.size < W2.heap.size := Nat.lt_of_lt_of_le bkL_W1 ab_W2.size
        have acc_W2 := hidP (acc_W1.out.trans (ab_W2.mono acc_W1.out.size))
        have sz_W2 : Hid (W1.heap.size ≤ W2.heap.size) := hidP ab_W2.size
        clear ab_W2 bk0_W1 bk1_W1 bk2_W1 bkF_W1 bkL_W1 acc_W1
        rw [as_W1.out] at at0_W2 at1_W2 at2_W2 atL_W2
        have atF_W2' : ∀ o, W2.frozen? ⟨w.heap.size + 1, o, none⟩ = false := fun o => by have := atF_W2 o; rw [as_W1.out] at this; exact this
        clear atF_W2
        have atF_W2 := atF_W2'
        clear atF_W2'
        obtain ⟨rs0_W3, rs1_W3, rs2_W3⟩ := box3B W2 30 (.slice none 0 0) (.int .i64 0) (.int .i64 0)
        have rsF_W3 : ∀ o, (W2.alloc (.cells #[.slice none 0 0, .int .i64 0, .int .i64 0] 30)).frozen? ⟨W2.heap.size, o, none⟩ = false := fun o => by simp [go_sem]
        have rsL_W3 : W2.heap.size < (W2.alloc (.cells #[.slice none 0 0, .int .i64 0, .int .i64 0] 30)).heap.size := by simp
        have ab_W3 := alloc_below W2 (.cells #[.slice none 0 0, .int .i64 0, .int .i64 0] 30)
        have as_W3 : Hid ((W2.alloc (.cells #[.slice none 0 0, .int .i64 0, .int .i64 0] 30)).heap.size = W2.heap.size + 1) := hidP (by simp)
        generalize W2.alloc (.cells #[.slice none 0 0, .int .i64 0, .int .i64 0] 30) = W3 at *
        have bk0_W3 := (ab_W3.cell bkL_W2).trans bk0_W2
        have bk1_W3 := (ab_W3.cell bkL_W2).trans bk1_W2
        have bk2_W3 := (ab_W3.cell bkL_W2).trans bk2_W2
        have bkF_W3 : ∀ o, W3.frozen? ⟨w.heap.size, o, none⟩ = false := fun o => (ab_W3.frozen bkL_W2).trans (bkF_W2 o)
        have bkL_W3 : w.heap.size < W3.heap.size := Nat.lt_of_lt_of_le bkL_W2 ab_W3.size
        have at0_W3 := (ab_W3.cell atL_W2).trans at0_W2
        have at1_W3 := (ab_W3.cell atL_W2).trans at1_W2
        have at2_W3 := (ab_W3.cell atL_W2).trans at2_W2
        have atF_W3 : ∀ o, W3.frozen? ⟨w.heap.size + 1, o, none⟩ = false := fun o => (ab_W3.frozen atL_W2).trans (atF_W2 o)
        have atL_W3 : w.heap.size + 1 < W3.heap.size := Nat.lt_of_lt_of_le atL_W2 ab_W3.size
        have acc_W3 := hidP (acc_W2.out.trans (ab_W3.mono acc_W2.out.size))
        have sz_W3 : Hid (W2.heap.size ≤ W3.heap.size) := hidP ab_W3.size
        clear ab_W3 bk0_W2 bk1_W2 bk2_W2 bkF_W2 bkL_W2 at0_W2 at1_W2 at2_W2 atF_W2 atL_W2 acc_W2
        rw [as_W2.out, as_W1.out] at rs0_W3 rs1_W3 rs2_W3 rsL_W3
        have rsF_W3' : ∀ o, W3.frozen? ⟨w.heap.size + 1 + 1, o, none⟩ = false := fun o => by have := rsF_W3 o; rw [as_W2.out, as_W1.out] at this; exact this
        clear rsF_W3
        have rsF_W3 := rsF_W3'
        clear rsF_W3'
        refine (HOw.out _ acc_W3.out).mono ?_
        rintro e w4 ⟨a3, c3, rfl, og3, hb4⟩
        have og3' := hidP og3
        clear og3
        have bk0_w4 := (hb4.cell bkL_W3).trans bk0_W3
        have bk1_w4 := (hb4.cell bkL_W3).trans bk1_W3
        have bk2_w4 := (hb4.cell bkL_W3).trans bk2_W3
        have bkF_w4 : ∀ o, w4.frozen? ⟨w.heap.size, o, none⟩ = false := fun o => (hb4.frozen bkL_W3).trans (bkF_W3 o)
        have bkL_w4 : w.heap.size < w4.heap.size := Nat.lt_of_lt_of_le bkL_W3 hb4.size
        have at0_w4 := (hb4.cell atL_W3).trans at0_W3
        have at1_w4 := (hb4.cell atL_W3).trans at1_W3
        have at2_w4 := (hb4.cell atL_W3).trans at2_W3
        have atF_w4 : ∀ o, w4.frozen? ⟨w.heap.size + 1, o, none⟩ = false := fun o => (hb4.frozen atL_W3).trans (atF_W3 o)
        have atL_w4 : w.heap.size + 1 < w4.heap.size := Nat.lt_of_lt_of_le atL_W3 hb4.size
        have rs0_w4 := (hb4.cell rsL_W3).trans rs0_W3
        have rs1_w4 := (hb4.cell rsL_W3).trans rs1_W3
        have rs2_w4 := (hb4.cell rsL_W3).trans rs2_W3
        have rsF_w4 : ∀ o, w4.frozen? ⟨w.heap.size + 1 + 1, o, none⟩ = false := fun o => (hb4.frozen rsL_W3).trans (rsF_W3 o)
        have rsL_w4 : w.heap.size + 1 + 1 < w4.heap.size := Nat.lt_of_lt_of_le rsL_W3 hb4.size
        have acc_w4 := hidP (acc_W3.out.trans (hb4.mono acc_W3.out.size))
        have sz_w4 : Hid (W3.heap.size ≤ w4.heap.size) := hidP hb4.size
        clear hb4 bk0_W3 bk1_W3 bk2_W3 bkF_W3 bkL_W3 at0_W3 at1_W3 at2_W3 atF_W3 atL_W3 rs0_W3 rs1_W3 rs2_W3 rsF_W3 rsL_W3 acc_W3
        have oL_w4 := hidP (og3'.out)
        have lhL : Hid (∀ k, (Value.slice a3 n c3).ownBlock = some k → W3.heap.size ≤ k ∧ k < w4.heap.size) := hidP (fun k hk => OwnG.lt oL_w4.out k hk)
        clear og3'
        go_wp2_with fail
        obtain ⟨ou0_W5, ou1_W5, ou2_W5⟩ := box3B w4 30 (.slice a3 n c3) (.int .i64 T) (.int .i64 N)
        have ouF_W5 : ∀ o, (w4.alloc (.cells #[.slice a3 n c3, .int .i64 T, .int .i64 N] 30)).frozen? ⟨w4.heap.size, o, none⟩ = false := fun o => by simp [go_sem]
        have ouL_W5 : w4.heap.size < (w4.alloc (.cells #[.slice a3 n c3, .int .i64 T, .int .i64 N] 30)).heap.size := by simp
        have ab_W5 := alloc_below w4 (.cells #[.slice a3 n c3, .int .i64 T, .int .i64 N] 30)
        have as_W5 : Hid ((w4.alloc (.cells #[.slice a3 n c3, .int .i64 T, .int .i64 N] 30)).heap.size = w4.heap.size + 1) := hidP (by simp)
        generalize w4.alloc (.cells #[.slice a3 n c3, .int .i64 T, .int .i64 N] 30) = W5 at *
        have bk0_W5 := (ab_W5.cell bkL_w4).trans bk0_w4
        have bk1_W5 := (ab_W5.cell bkL_w4).trans bk1_w4
        have bk2_W5 := (ab_W5.cell bkL_w4).trans bk2_w4
        have bkF_W5 : ∀ o, W5.frozen? ⟨w.heap.size, o, none⟩ = false := fun o => (ab_W5.frozen bkL_w4).trans (bkF_w4 o)
        have bkL_W5 : w.heap.size < W5.heap.size := Nat.lt_of_lt_of_le bkL_w4 ab_W5.size
        have at0_W5 := (ab_W5.cell atL_w4).trans at0_w4
        have at1_W5 := (ab_W5.cell atL_w4).trans at1_w4
        have at2_W5 := (ab_W5.cell atL_w4).trans at2_w4
        have atF_W5 : ∀ o, W5.frozen? ⟨w.heap.size + 1, o, none⟩ = false := fun o => (ab_W5.frozen atL_w4).trans (atF_w4 o)
        have atL_W5 : w.heap.size + 1 < W5.heap.size := Nat.lt_of_lt_of_le atL_w4 ab_W5.size
        have rs0_W5 := (ab_W5.cell rsL_w4).trans rs0_w4
        have rs1_W5 := (ab_W5.cell rsL_w4).trans rs1_w4
        have rs2_W5 := (ab_W5.cell rsL_w4).trans rs2_w4
        have rsF_W5 : ∀ o, W5.frozen? ⟨w.heap.size + 1 + 1, o, none⟩ = false := fun o => (ab_W5.frozen rsL_w4).trans (rsF_w4 o)
        have rsL_W5 : w.heap.size + 1 + 1 < W5.heap.size := Nat.lt_of_lt_of_le rsL_w4 ab_W5.size
        have oL_W5 := hidP (OwnG.later oL_w4.out ab_W5)
        have acc_W5 := hidP (acc_w4.out.trans (ab_W5.mono acc_w4.out.size))
        have sz_W5 : Hid (w4.heap.size ≤ W5.heap.size) := hidP ab_W5.size
        clear ab_W5 bk0_w4 bk1_w4 bk2_w4 bkF_w4 bkL_w4 at0_w4 at1_w4 at2_w4 atF_w4 atL_w4 rs0_w4 rs1_w4 rs2_w4 rsF_w4 rsL_w4 oL_w4 acc_w4
        refine (HSp.out _ acc_W5.out).mono ?_
        rintro e w6 ⟨rfl, hb6⟩
        have bk0_w6 := (hb6.cell bkL_W5).trans bk0_W5
        have bk1_w6 := (hb6.cell bkL_W5).trans bk1_W5
        have bk2_w6 := (hb6.cell bkL_W5).trans bk2_W5
        have bkF_w6 : ∀ o, w6.frozen? ⟨w.heap.size, o, none⟩ = false := fun o => (hb6.frozen bkL_W5).trans (bkF_W5 o)
        have bkL_w6 : w.heap.size < w6.heap.size := Nat.lt_of_lt_of_le bkL_W5 hb6.size
        have at0_w6 := (hb6.cell atL_W5).trans at0_W5
        have at1_w6 := (hb6.cell atL_W5).trans at1_W5
        have at2_w6 := (hb6.cell atL_W5).trans at2_W5
        have atF_w6 : ∀ o, w6.frozen? ⟨w.heap.size + 1, o, none⟩ = false := fun o => (hb6.frozen atL_W5).trans (atF_W5 o)
        have atL_w6 : w.heap.size + 1 < w6.heap.size := Nat.lt_of_lt_of_le atL_W5 hb6.size
        have rs0_w6 := (hb6.cell rsL_W5).trans rs0_W5
        have rs1_w6 := (hb6.cell rsL_W5).trans rs1_W5
        have rs2_w6 := (hb6.cell rsL_W5).trans rs2_W5
        have rsF_w6 : ∀ o, w6.frozen? ⟨w.heap.size + 1 + 1, o, none⟩ = false := fun o => (hb6.frozen rsL_W5).trans (rsF_W5 o)
        have rsL_w6 : w.heap.size + 1 + 1 < w6.heap.size := Nat.lt_of_lt_of_le rsL_W5 hb6.size
        have ou0_w6 := (hb6.cell ouL_W5).trans ou0_W5
        have ou1_w6 := (hb6.cell ouL_W5).trans ou1_W5
        have ou2_w6 := (hb6.cell ouL_W5).trans ou2_W5
        have ouF_w6 : ∀ o, w6.frozen? ⟨w4.heap.size, o, none⟩ = false := fun o => (hb6.frozen ouL_W5).trans (ouF_W5 o)
        have ouL_w6 : w4.heap.size < w6.heap.size := Nat.lt_of_lt_of_le ouL_W5 hb6.size
        have oL_w6 := hidP (OwnG.later oL_W5.out hb6)
        have acc_w6 := hidP (acc_W5.out.trans (hb6.mono acc_W5.out.size))
        have sz_w6 : Hid (W5.heap.size ≤ w6.heap.size) := hidP hb6.size
        clear hb6 bk0_W5 bk1_W5 bk2_W5 bkF_W5 bkL_W5 at0_W5 at1_W5 at2_W5 atF_W5 atL_W5 rs0_W5 rs1_W5 rs2_W5 rsF_W5 rsL_W5 ou0_W5 ou1_W5 ou2_W5 ouF_W5 ouL_W5 oL_W5 acc_W5
        go_wp2_with fail
        refine (HAd.out _).mono ?_
        rintro e w7 ⟨rfl, hb7⟩
        have bk0_w7 := (hb7.cell bkL_w6).trans bk0_w6
        have bk1_w7 := (hb7.cell bkL_w6).trans bk1_w6
        have bk2_w7 := (hb7.cell bkL_w6).trans bk2_w6
        have bkF_w7 : ∀ o, w7.frozen? ⟨w.heap.size, o, none⟩ = false := fun o => (hb7.frozen bkL_w6).trans (bkF_w6 o)
        have bkL_w7 : w.heap.size < w7.heap.size := Nat.lt_of_lt_of_le bkL_w6 hb7.size
        have at0_w7 := (hb7.cell atL_w6).trans at0_w6
        have at1_w7 := (hb7.cell atL_w6).trans at1_w6
        have at2_w7 := (hb7.cell atL_w6).trans at2_w6
        have atF_w7 : ∀ o, w7.frozen? ⟨w.heap.size + 1, o, none⟩ = false := fun o => (hb7.frozen atL_w6).trans (atF_w6 o)
        have atL_w7 : w.heap.size + 1 < w7.heap.size := Nat.lt_of_lt_of_le atL_w6 hb7.size
        have rs0_w7 := (hb7.cell rsL_w6).trans rs0_w6
        have rs1_w7 := (hb7.cell rsL_w6).trans rs1_w6
        have rs2_w7 := (hb7.cell rsL_w6).trans rs2_w6
        have rsF_w7 : ∀ o, w7.frozen? ⟨w.heap.size + 1 + 1, o, none⟩ = false := fun o => (hb7.frozen rsL_w6).trans (rsF_w6 o)
        have rsL_w7 : w.heap.size + 1 + 1 < w7.heap.size := Nat.lt_of_lt_of_le rsL_w6 hb7.size
        have ou0_w7 := (hb7.cell ouL_w6).trans ou0_w6
        have ou1_w7 := (hb7.cell ouL_w6).trans ou1_w6
        have ou2_w7 := (hb7.cell ouL_w6).trans ou2_w6
        have ouF_w7 : ∀ o, w7.frozen? ⟨w4.heap.size, o, none⟩ = false := fun o => (hb7.frozen ouL_w6).trans (ouF_w6 o)
        have ouL_w7 : w4.heap.size < w7.heap.size := Nat.lt_of_lt_of_le ouL_w6 hb7.size
        have oL_w7 := hidP (OwnG.later oL_w6.out hb7)
        have acc_w7 := hidP (acc_w6.out.trans (hb7.mono acc_w6.out.size))
        have sz_w7 : Hid (w6.heap.size ≤ w7.heap.size) := hidP hb7.size
        clear hb7 bk0_w6 bk1_w6 bk2_w6 bkF_w6 bkL_w6 at0_w6 at1_w6 at2_w6 atF_w6 atL_w6 rs0_w6 rs1_w6 rs2_w6 rsF_w6 rsL_w6 ou0_w6 ou1_w6 ou2_w6 ouF_w6 ouL_w6 oL_w6 acc_w6
        go_wp2_with fail
        refine (HI.out _).mono ?_
        rintro e w7' ⟨rfl, hw7⟩
        rw [hw7]
        clear hw7 w7'
        go_wp2_with fail
        refine bodyPost_ret (v := .tuple #[.agg #[.slice a3 n c3, .int .i64 T, .int .i64 N], .int .i64 10]) (by simp [results, Tryd.results7, go_sem, rs0_w7, rs1_w7, rs2_w7]) rfl ⟨_, _, rfl, ?_, ?_⟩
        · refine OwnG.mono (B := W3.heap.size) ?_ (by have := as_W1.out; have := sz_W1.out; have := as_W2.out; have := sz_W2.out; have := as_W3.out; have := sz_W3.out; have := sz_w4.out; have := as_W5.out; have := sz_W5.out; have := sz_w6.out; have := sz_w7.out; omega)
          iterate 3 (with_reducible refine OwnG.grown ?_ (grown_cellG _ _ _ _) ?_; rotate_left; (focus (exact OwnG.ne_of oL_w7.out (by have := as_W1.out; have := sz_W1.out; have := as_W2.out; have := sz_W2.out; have := as_W3.out; have := sz_W3.out; have := sz_w4.out; have := as_W5.out; have := sz_W5.out; have := sz_w6.out; have := sz_w7.out; omega))))
          with_reducible exact oL_w7.out
        · repeat (with_reducible refine Below.setCell ?_ ?_ _; rotate_left; (focus (first | (simp; done) | (simp; omega))))
          exact acc_w7.out

set_option maxRecDepth 10000 in
set_option maxHeartbeats 4000000 in
theorem sRen_code (a : Option Addr) (n c : Nat) (T N : Int) (ls : List Ls) (ad : Ad) (tk : Int) (span : Int) (w : World) (hn : n = ls.length) (hB : RowG KLs w a ls) (hl : n ≤ 1048576) (hc : a = none → c = 0) (hst : ∀ q ∈ ls, q.t.size ≤ 9223372036854775807) (hr : rokB ls T N ad span = true) (x : Int) (hx0 : ¬ x = 0) (HL : ∀ W, Below w.heap.size w W → Calls Tryd.prog 23 #[.agg #[.slice a n c, .int .i64 T, .int .i64 N], .agg #[.bool ad.s, .int .i64 ad.H.toInt, .int .i64 ad.L.toInt], .int .i64 tk] W fun e w' => e = .returned (.tuple #[.int .i64 0, .int .i64 x]) ∧ Below W.heap.size W w') :
    Calls Tryd.prog 7 #[.agg #[.slice a n c, .int .i64 T, .int .i64 N], .agg #[.bool ad.s, .int .i64 ad.H.toInt, .int .i64 ad.L.toInt], .int .i64 tk, .int .i64 span] w fun e w' => ∃ a' c', e = .returned (.tuple #[.agg #[.slice a' n c', .int .i64 T, .int .i64 N], .int .i64 x]) ∧ OwnG KLs 51 w' w.heap.size (.slice a' n c') (ls) ∧ Below w.heap.size w w' := by
  have HOw := hidP (fun W h => l6Copy_any (a) n c T N ls W hn (hB.later h) hc hl)
  have HSp := hidP (fun W h => sBookOk_any (a) n c T N ls W hn (hB.later h) hl hst)
  have HAd := hidP (sAddrOk_any ad.s ad.H.toInt ad.L.toInt)
  have HN := hidP hn
  have HR := hidP (fun W h => hB.later (w' := W) h)
  unfold rokB at hr
  rw [Bool.and_eq_true, Bool.and_eq_true] at hr
  obtain ⟨⟨hb, hok⟩, hsp⟩ := hr
  rw [Bool.and_eq_true] at hsp
  obtain ⟨h1, h2⟩ := hsp
  have hok' : okB ad.s ad.H.toInt ad.L.toInt = true := hok
  obtain ⟨hw1, hw2⟩ := sp_wrap (bk_now hb) h1
  have h3 : decide ((1000000000 : Int) < N + span) = false := by have := of_decide_eq_true h2; exact decide_eq_false (by omega)
  have HI := hidP (l1InO_any span 1 1000)
  rw [h1] at HI
  rw [hb] at HSp
  rw [hok'] at HAd
  have HLd := hidP HL
  clear HL hc hB hn hst hok' hok hb h1 h2
  have hx1 : (x == 0) = false := beq_eq_false_iff_ne.2 hx0
  go_enter Tryd.func7, Tryd.ntmps7
  go_wp2_with fail
  obtain ⟨bk0_W1, bk1_W1, bk2_W1⟩ := box3B w 30 (.slice a n c) (.int .i64 T) (.int .i64 N)
  have bkF_W1 : ∀ o, (w.alloc (.cells #[.slice a n c, .int .i64 T, .int .i64 N] 30)).frozen? ⟨w.heap.size, o, none⟩ = false := fun o => by simp [go_sem]
  have bkL_W1 : w.heap.size < (w.alloc (.cells #[.slice a n c, .int .i64 T, .int .i64 N] 30)).heap.size := by simp
  have ab_W1 := alloc_below w (.cells #[.slice a n c, .int .i64 T, .int .i64 N] 30)
  have as_W1 : Hid ((w.alloc (.cells #[.slice a n c, .int .i64 T, .int .i64 N] 30)).heap.size = w.heap.size + 1) := hidP (by simp)
  generalize w.alloc (.cells #[.slice a n c, .int .i64 T, .int .i64 N] 30) = W1 at *
  have acc_W1 := hidP (ab_W1)
  have sz_W1 : Hid (w.heap.size ≤ W1.heap.size) := hidP ab_W1.size
  clear ab_W1 
  obtain ⟨at0_W2, at1_W2, at2_W2⟩ := box3B W1 34 (.bool ad.s) (.int .i64 ad.H.toInt) (.int .i64 ad.L.toInt)
  have atF_W2 : ∀ o, (W1.alloc (.cells #[.bool ad.s, .int .i64 ad.H.toInt, .int .i64 ad.L.toInt] 34)).frozen? ⟨W1.heap.size, o, none⟩ = false := fun o => by simp [go_sem]
  have atL_W2 : W1.heap.size < (W1.alloc (.cells #[.bool ad.s, .int .i64 ad.H.toInt, .int .i64 ad.L.toInt] 34)).heap.size := by simp
  have ab_W2 := alloc_below W1 (.cells #[.bool ad.s, .int .i64 ad.H.toInt, .int .i64 ad.L.toInt] 34)
  have as_W2 : Hid ((W1.alloc (.cells #[.bool ad.s, .int .i64 ad.H.toInt, .int .i64 ad.L.toInt] 34)).heap.size = W1.heap.size + 1) := hidP (by simp)
  generalize W1.alloc (.cells #[.bool ad.s, .int .i64 ad.H.toInt, .int .i64 ad.L.toInt] 34) = W2 at *
  have bk0_W2 := (ab_W2.cell bkL_W1).trans bk0_W1
  have bk1_W2 := (ab_W2.cell bkL_W1).trans bk1_W1
  have bk2_W2 := (ab_W2.cell bkL_W1).trans bk2_W1
  have bkF_W2 : ∀ o, W2.frozen? ⟨w.heap.size, o, none⟩ = false := fun o => (ab_W2.frozen bkL_W1).trans (bkF_W1 o)
  have bkL_W2 : w.heap.size < W2.heap.size := Nat.lt_of_lt_of_le bkL_W1 ab_W2.size
  have acc_W2 := hidP (acc_W1.out.trans (ab_W2.mono acc_W1.out.size))
  have sz_W2 : Hid (W1.heap.size ≤ W2.heap.size) := hidP ab_W2.size
  clear ab_W2 bk0_W1 bk1_W1 bk2_W1 bkF_W1 bkL_W1 acc_W1
  rw [as_W1.out] at at0_W2 at1_W2 at2_W2 atL_W2
  have atF_W2' : ∀ o, W2.frozen? ⟨w.heap.size + 1, o, none⟩ = false := fun o => by have := atF_W2 o; rw [as_W1.out] at this; exact this
  clear atF_W2
  have atF_W2 := atF_W2'
  clear atF_W2'
  obtain ⟨rs0_W3, rs1_W3, rs2_W3⟩ := box3B W2 30 (.slice none 0 0) (.int .i64 0) (.int .i64 0)
  have rsF_W3 : ∀ o, (W2.alloc (.cells #[.slice none 0 0, .int .i64 0, .int .i64 0] 30)).frozen? ⟨W2.heap.size, o, none⟩ = false := fun o => by simp [go_sem]
  have rsL_W3 : W2.heap.size < (W2.alloc (.cells #[.slice none 0 0, .int .i64 0, .int .i64 0] 30)).heap.size := by simp
  have ab_W3 := alloc_below W2 (.cells #[.slice none 0 0, .int .i64 0, .int .i64 0] 30)
  have as_W3 : Hid ((W2.alloc (.cells #[.slice none 0 0, .int .i64 0, .int .i64 0] 30)).heap.size = W2.heap.size + 1) := hidP (by simp)
  generalize W2.alloc (.cells #[.slice none 0 0, .int .i64 0, .int .i64 0] 30) = W3 at *
  have bk0_W3 := (ab_W3.cell bkL_W2).trans bk0_W2
  have bk1_W3 := (ab_W3.cell bkL_W2).trans bk1_W2
  have bk2_W3 := (ab_W3.cell bkL_W2).trans bk2_W2
  have bkF_W3 : ∀ o, W3.frozen? ⟨w.heap.size, o, none⟩ = false := fun o => (ab_W3.frozen bkL_W2).trans (bkF_W2 o)
  have bkL_W3 : w.heap.size < W3.heap.size := Nat.lt_of_lt_of_le bkL_W2 ab_W3.size
  have at0_W3 := (ab_W3.cell atL_W2).trans at0_W2
  have at1_W3 := (ab_W3.cell atL_W2).trans at1_W2
  have at2_W3 := (ab_W3.cell atL_W2).trans at2_W2
  have atF_W3 : ∀ o, W3.frozen? ⟨w.heap.size + 1, o, none⟩ = false := fun o => (ab_W3.frozen atL_W2).trans (atF_W2 o)
  have atL_W3 : w.heap.size + 1 < W3.heap.size := Nat.lt_of_lt_of_le atL_W2 ab_W3.size
  have acc_W3 := hidP (acc_W2.out.trans (ab_W3.mono acc_W2.out.size))
  have sz_W3 : Hid (W2.heap.size ≤ W3.heap.size) := hidP ab_W3.size
  clear ab_W3 bk0_W2 bk1_W2 bk2_W2 bkF_W2 bkL_W2 at0_W2 at1_W2 at2_W2 atF_W2 atL_W2 acc_W2
  rw [as_W2.out, as_W1.out] at rs0_W3 rs1_W3 rs2_W3 rsL_W3
  have rsF_W3' : ∀ o, W3.frozen? ⟨w.heap.size + 1 + 1, o, none⟩ = false := fun o => by have := rsF_W3 o; rw [as_W2.out, as_W1.out] at this; exact this
  clear rsF_W3
  have rsF_W3 := rsF_W3'
  clear rsF_W3'
  refine (HOw.out _ acc_W3.out).mono ?_
  rintro e w4 ⟨a3, c3, rfl, og3, hb4⟩
  have og3' := hidP og3
  clear og3
  have bk0_w4 := (hb4.cell bkL_W3).trans bk0_W3
  have bk1_w4 := (hb4.cell bkL_W3).trans bk1_W3
  have bk2_w4 := (hb4.cell bkL_W3).trans bk2_W3
  have bkF_w4 : ∀ o, w4.frozen? ⟨w.heap.size, o, none⟩ = false := fun o => (hb4.frozen bkL_W3).trans (bkF_W3 o)
  have bkL_w4 : w.heap.size < w4.heap.size := Nat.lt_of_lt_of_le bkL_W3 hb4.size
  have at0_w4 := (hb4.cell atL_W3).trans at0_W3
  have at1_w4 := (hb4.cell atL_W3).trans at1_W3
  have at2_w4 := (hb4.cell atL_W3).trans at2_W3
  have atF_w4 : ∀ o, w4.frozen? ⟨w.heap.size + 1, o, none⟩ = false := fun o => (hb4.frozen atL_W3).trans (atF_W3 o)
  have atL_w4 : w.heap.size + 1 < w4.heap.size := Nat.lt_of_lt_of_le atL_W3 hb4.size
  have rs0_w4 := (hb4.cell rsL_W3).trans rs0_W3
  have rs1_w4 := (hb4.cell rsL_W3).trans rs1_W3
  have rs2_w4 := (hb4.cell rsL_W3).trans rs2_W3
  have rsF_w4 : ∀ o, w4.frozen? ⟨w.heap.size + 1 + 1, o, none⟩ = false := fun o => (hb4.frozen rsL_W3).trans (rsF_W3 o)
  have rsL_w4 : w.heap.size + 1 + 1 < w4.heap.size := Nat.lt_of_lt_of_le rsL_W3 hb4.size
  have acc_w4 := hidP (acc_W3.out.trans (hb4.mono acc_W3.out.size))
  have sz_w4 : Hid (W3.heap.size ≤ w4.heap.size) := hidP hb4.size
  clear hb4 bk0_W3 bk1_W3 bk2_W3 bkF_W3 bkL_W3 at0_W3 at1_W3 at2_W3 atF_W3 atL_W3 rs0_W3 rs1_W3 rs2_W3 rsF_W3 rsL_W3 acc_W3
  have oL_w4 := hidP (og3'.out)
  have lhL : Hid (∀ k, (Value.slice a3 n c3).ownBlock = some k → W3.heap.size ≤ k ∧ k < w4.heap.size) := hidP (fun k hk => OwnG.lt oL_w4.out k hk)
  clear og3'
  go_wp2_with fail
  obtain ⟨ou0_W5, ou1_W5, ou2_W5⟩ := box3B w4 30 (.slice a3 n c3) (.int .i64 T) (.int .i64 N)
  have ouF_W5 : ∀ o, (w4.alloc (.cells #[.slice a3 n c3, .int .i64 T, .int .i64 N] 30)).frozen? ⟨w4.heap.size, o, none⟩ = false := fun o => by simp [go_sem]
  have ouL_W5 : w4.heap.size < (w4.alloc (.cells #[.slice a3 n c3, .int .i64 T, .int .i64 N] 30)).heap.size := by simp
  have ab_W5 := alloc_below w4 (.cells #[.slice a3 n c3, .int .i64 T, .int .i64 N] 30)
  have as_W5 : Hid ((w4.alloc (.cells #[.slice a3 n c3, .int .i64 T, .int .i64 N] 30)).heap.size = w4.heap.size + 1) := hidP (by simp)
  generalize w4.alloc (.cells #[.slice a3 n c3, .int .i64 T, .int .i64 N] 30) = W5 at *
  have bk0_W5 := (ab_W5.cell bkL_w4).trans bk0_w4
  have bk1_W5 := (ab_W5.cell bkL_w4).trans bk1_w4
  have bk2_W5 := (ab_W5.cell bkL_w4).trans bk2_w4
  have bkF_W5 : ∀ o, W5.frozen? ⟨w.heap.size, o, none⟩ = false := fun o => (ab_W5.frozen bkL_w4).trans (bkF_w4 o)
  have bkL_W5 : w.heap.size < W5.heap.size := Nat.lt_of_lt_of_le bkL_w4 ab_W5.size
  have at0_W5 := (ab_W5.cell atL_w4).trans at0_w4
  have at1_W5 := (ab_W5.cell atL_w4).trans at1_w4
  have at2_W5 := (ab_W5.cell atL_w4).trans at2_w4
  have atF_W5 : ∀ o, W5.frozen? ⟨w.heap.size + 1, o, none⟩ = false := fun o => (ab_W5.frozen atL_w4).trans (atF_w4 o)
  have atL_W5 : w.heap.size + 1 < W5.heap.size := Nat.lt_of_lt_of_le atL_w4 ab_W5.size
  have rs0_W5 := (ab_W5.cell rsL_w4).trans rs0_w4
  have rs1_W5 := (ab_W5.cell rsL_w4).trans rs1_w4
  have rs2_W5 := (ab_W5.cell rsL_w4).trans rs2_w4
  have rsF_W5 : ∀ o, W5.frozen? ⟨w.heap.size + 1 + 1, o, none⟩ = false := fun o => (ab_W5.frozen rsL_w4).trans (rsF_w4 o)
  have rsL_W5 : w.heap.size + 1 + 1 < W5.heap.size := Nat.lt_of_lt_of_le rsL_w4 ab_W5.size
  have oL_W5 := hidP (OwnG.later oL_w4.out ab_W5)
  have acc_W5 := hidP (acc_w4.out.trans (ab_W5.mono acc_w4.out.size))
  have sz_W5 : Hid (w4.heap.size ≤ W5.heap.size) := hidP ab_W5.size
  clear ab_W5 bk0_w4 bk1_w4 bk2_w4 bkF_w4 bkL_w4 at0_w4 at1_w4 at2_w4 atF_w4 atL_w4 rs0_w4 rs1_w4 rs2_w4 rsF_w4 rsL_w4 oL_w4 acc_w4
  refine (HSp.out _ acc_W5.out).mono ?_
  rintro e w6 ⟨rfl, hb6⟩
  have bk0_w6 := (hb6.cell bkL_W5).trans bk0_W5
  have bk1_w6 := (hb6.cell bkL_W5).trans bk1_W5
  have bk2_w6 := (hb6.cell bkL_W5).trans bk2_W5
  have bkF_w6 : ∀ o, w6.frozen? ⟨w.heap.size, o, none⟩ = false := fun o => (hb6.frozen bkL_W5).trans (bkF_W5 o)
  have bkL_w6 : w.heap.size < w6.heap.size := Nat.lt_of_lt_of_le bkL_W5 hb6.size
  have at0_w6 := (hb6.cell atL_W5).trans at0_W5
  have at1_w6 := (hb6.cell atL_W5).trans at1_W5
  have at2_w6 := (hb6.cell atL_W5).trans at2_W5
  have atF_w6 : ∀ o, w6.frozen? ⟨w.heap.size + 1, o, none⟩ = false := fun o => (hb6.frozen atL_W5).trans (atF_W5 o)
  have atL_w6 : w.heap.size + 1 < w6.heap.size := Nat.lt_of_lt_of_le atL_W5 hb6.size
  have rs0_w6 := (hb6.cell rsL_W5).trans rs0_W5
  have rs1_w6 := (hb6.cell rsL_W5).trans rs1_W5
  have rs2_w6 := (hb6.cell rsL_W5).trans rs2_W5
  have rsF_w6 : ∀ o, w6.frozen? ⟨w.heap.size + 1 + 1, o, none⟩ = false := fun o => (hb6.frozen rsL_W5).trans (rsF_W5 o)
  have rsL_w6 : w.heap.size + 1 + 1 < w6.heap.size := Nat.lt_of_lt_of_le rsL_W5 hb6.size
  have ou0_w6 := (hb6.cell ouL_W5).trans ou0_W5
  have ou1_w6 := (hb6.cell ouL_W5).trans ou1_W5
  have ou2_w6 := (hb6.cell ouL_W5).trans ou2_W5
  have ouF_w6 : ∀ o, w6.frozen? ⟨w4.heap.size, o, none⟩ = false := fun o => (hb6.frozen ouL_W5).trans (ouF_W5 o)
  have ouL_w6 : w4.heap.size < w6.heap.size := Nat.lt_of_lt_of_le ouL_W5 hb6.size
  have oL_w6 := hidP (OwnG.later oL_W5.out hb6)
  have acc_w6 := hidP (acc_W5.out.trans (hb6.mono acc_W5.out.size))
  have sz_w6 : Hid (W5.heap.size ≤ w6.heap.size) := hidP hb6.size
  clear hb6 bk0_W5 bk1_W5 bk2_W5 bkF_W5 bkL_W5 at0_W5 at1_W5 at2_W5 atF_W5 atL_W5 rs0_W5 rs1_W5 rs2_W5 rsF_W5 rsL_W5 ou0_W5 ou1_W5 ou2_W5 ouF_W5 ouL_W5 oL_W5 acc_W5
  go_wp2_with fail
  refine (HAd.out _).mono ?_
  rintro e w7 ⟨rfl, hb7⟩
  have bk0_w7 := (hb7.cell bkL_w6).trans bk0_w6
  have bk1_w7 := (hb7.cell bkL_w6).trans bk1_w6
  have bk2_w7 := (hb7.cell bkL_w6).trans bk2_w6
  have bkF_w7 : ∀ o, w7.frozen? ⟨w.heap.size, o, none⟩ = false := fun o => (hb7.frozen bkL_w6).trans (bkF_w6 o)
  have bkL_w7 : w.heap.size < w7.heap.size := Nat.lt_of_lt_of_le bkL_w6 hb7.size
  have at0_w7 := (hb7.cell atL_w6).trans at0_w6
  have at1_w7 := (hb7.cell atL_w6).trans at1_w6
  have at2_w7 := (hb7.cell atL_w6).trans at2_w6
  have atF_w7 : ∀ o, w7.frozen? ⟨w.heap.size + 1, o, none⟩ = false := fun o => (hb7.frozen atL_w6).trans (atF_w6 o)
  have atL_w7 : w.heap.size + 1 < w7.heap.size := Nat.lt_of_lt_of_le atL_w6 hb7.size
  have rs0_w7 := (hb7.cell rsL_w6).trans rs0_w6
  have rs1_w7 := (hb7.cell rsL_w6).trans rs1_w6
  have rs2_w7 := (hb7.cell rsL_w6).trans rs2_w6
  have rsF_w7 : ∀ o, w7.frozen? ⟨w.heap.size + 1 + 1, o, none⟩ = false := fun o => (hb7.frozen rsL_w6).trans (rsF_w6 o)
  have rsL_w7 : w.heap.size + 1 + 1 < w7.heap.size := Nat.lt_of_lt_of_le rsL_w6 hb7.size
  have ou0_w7 := (hb7.cell ouL_w6).trans ou0_w6
  have ou1_w7 := (hb7.cell ouL_w6).trans ou1_w6
  have ou2_w7 := (hb7.cell ouL_w6).trans ou2_w6
  have ouF_w7 : ∀ o, w7.frozen? ⟨w4.heap.size, o, none⟩ = false := fun o => (hb7.frozen ouL_w6).trans (ouF_w6 o)
  have ouL_w7 : w4.heap.size < w7.heap.size := Nat.lt_of_lt_of_le ouL_w6 hb7.size
  have oL_w7 := hidP (OwnG.later oL_w6.out hb7)
  have acc_w7 := hidP (acc_w6.out.trans (hb7.mono acc_w6.out.size))
  have sz_w7 : Hid (w6.heap.size ≤ w7.heap.size) := hidP hb7.size
  clear hb7 bk0_w6 bk1_w6 bk2_w6 bkF_w6 bkL_w6 at0_w6 at1_w6 at2_w6 atF_w6 atL_w6 rs0_w6 rs1_w6 rs2_w6 rsF_w6 rsL_w6 ou0_w6 ou1_w6 ou2_w6 ouF_w6 ouL_w6 oL_w6 acc_w6
  go_wp2_with fail
  refine (HI.out _).mono ?_
  rintro e w7' ⟨rfl, hw7⟩
  rw [hw7]
  clear hw7 w7'
  go_wp2_with fail
  refine (HLd.out _ acc_w7.out).mono ?_
  rintro e w8 ⟨rfl, hb8⟩
  have bk0_w8 := (hb8.cell bkL_w7).trans bk0_w7
  have bk1_w8 := (hb8.cell bkL_w7).trans bk1_w7
  have bk2_w8 := (hb8.cell bkL_w7).trans bk2_w7
  have bkF_w8 : ∀ o, w8.frozen? ⟨w.heap.size, o, none⟩ = false := fun o => (hb8.frozen bkL_w7).trans (bkF_w7 o)
  have bkL_w8 : w.heap.size < w8.heap.size := Nat.lt_of_lt_of_le bkL_w7 hb8.size
  have at0_w8 := (hb8.cell atL_w7).trans at0_w7
  have at1_w8 := (hb8.cell atL_w7).trans at1_w7
  have at2_w8 := (hb8.cell atL_w7).trans at2_w7
  have atF_w8 : ∀ o, w8.frozen? ⟨w.heap.size + 1, o, none⟩ = false := fun o => (hb8.frozen atL_w7).trans (atF_w7 o)
  have atL_w8 : w.heap.size + 1 < w8.heap.size := Nat.lt_of_lt_of_le atL_w7 hb8.size
  have rs0_w8 := (hb8.cell rsL_w7).trans rs0_w7
  have rs1_w8 := (hb8.cell rsL_w7).trans rs1_w7
  have rs2_w8 := (hb8.cell rsL_w7).trans rs2_w7
  have rsF_w8 : ∀ o, w8.frozen? ⟨w.heap.size + 1 + 1, o, none⟩ = false := fun o => (hb8.frozen rsL_w7).trans (rsF_w7 o)
  have rsL_w8 : w.heap.size + 1 + 1 < w8.heap.size := Nat.lt_of_lt_of_le rsL_w7 hb8.size
  have ou0_w8 := (hb8.cell ouL_w7).trans ou0_w7
  have ou1_w8 := (hb8.cell ouL_w7).trans ou1_w7
  have ou2_w8 := (hb8.cell ouL_w7).trans ou2_w7
  have ouF_w8 : ∀ o, w8.frozen? ⟨w4.heap.size, o, none⟩ = false := fun o => (hb8.frozen ouL_w7).trans (ouF_w7 o)
  have ouL_w8 : w4.heap.size < w8.heap.size := Nat.lt_of_lt_of_le ouL_w7 hb8.size
  have oL_w8 := hidP (OwnG.later oL_w7.out hb8)
  have acc_w8 := hidP (acc_w7.out.trans (hb8.mono acc_w7.out.size))
  have sz_w8 : Hid (w7.heap.size ≤ w8.heap.size) := hidP hb8.size
  clear hb8 bk0_w7 bk1_w7 bk2_w7 bkF_w7 bkL_w7 at0_w7 at1_w7 at2_w7 atF_w7 atL_w7 rs0_w7 rs1_w7 rs2_w7 rsF_w7 rsL_w7 ou0_w7 ou1_w7 ou2_w7 ouF_w7 ouL_w7 oL_w7 acc_w7
  go_wp2_with fail
  have HSx : Hid (∀ x, Below w8.heap.size w8 x → (x.cell? ⟨w.heap.size, 2, none⟩ = some (.int .i64 N) ∧ Below w8.heap.size w8 x)) := hidP fun x h =>
    ⟨(h.cell bkL_w8).trans bk2_w8, h⟩
  refine wp_region_held_drew (S := (fun x => x.cell? ⟨w.heap.size, 2, none⟩ = some (.int .i64 N) ∧ Below w8.heap.size w8 x)) (by kernel_rfl) ?_ (fun hHeld => ?_)
  · try dsimp only
    exact HSx.out _ ((Below.refl _ _).drew)
  refine wpAnyH_take (i := 0) (oi := ⟨some 43, _, _, _, _, _⟩) (v := ?_) rfl (by kernel_rfl) (by kernel_rfl) (by kernel_rfl) (fun _ _ _ h => h) (Or.inl ⟨by rfl, ?_⟩) (by assumption) ?_
  rotate_left
  · intro w hSw
    try dsimp only at hSw
    go_simp
    try with_reducible rfl
  simp only [Act.put, List.setIfInBounds_toArray, List.set_cons_zero, List.set_cons_succ]
  refine wpAnyH_take (i := 1) (oi := ⟨some 44, _, _, _, _, _⟩) (v := ?_) rfl (by kernel_rfl) (by kernel_rfl) (by kernel_rfl) (fun _ _ _ h => h) (Or.inl ⟨by rfl, ?_⟩) (by assumption) ?_
  rotate_left
  · intro w hSw
    try dsimp only at hSw
    go_simp
    try with_reducible rfl
  simp only [Act.put, List.setIfInBounds_toArray, List.set_cons_zero, List.set_cons_succ]
  refine wpAnyH_take (i := 2) (oi := ⟨some 45, _, _, _, _, _⟩) (v := ?_) rfl (by kernel_rfl) (by kernel_rfl) (by kernel_rfl) (fun _ _ _ h => h) (Or.inl ⟨by rfl, ?_⟩) (by assumption) ?_
  rotate_left
  · intro w hSw
    try dsimp only at hSw
    go_simp
    try with_reducible rfl
  simp only [Act.put, List.setIfInBounds_toArray, List.set_cons_zero, List.set_cons_succ]
  refine wpAnyH_take (i := 3) (oi := ⟨some 46, _, _, _, _, _⟩) (v := undef) rfl (by kernel_rfl) (by kernel_rfl) (by kernel_rfl) (fun _ _ _ h => h) (Or.inr ⟨by rfl, rfl⟩) (by assumption) ?_
  simp only [Act.put, List.setIfInBounds_toArray, List.set_cons_zero, List.set_cons_succ]
  refine wpAnyH_take (i := 4) (oi := ⟨some 47, _, _, _, _, _⟩) (v := undef) rfl (by kernel_rfl) (by kernel_rfl) (by kernel_rfl) (fun _ _ _ h => h) (Or.inr ⟨by rfl, rfl⟩) (by assumption) ?_
  simp only [Act.put, List.setIfInBounds_toArray, List.set_cons_zero, List.set_cons_succ]
  refine wpAnyH_take (i := 5) (oi := ⟨some 48, _, _, _, _, _⟩) (v := undef) rfl (by kernel_rfl) (by kernel_rfl) (by kernel_rfl) (fun _ _ _ h => h) (Or.inr ⟨by rfl, rfl⟩) (by assumption) ?_
  simp only [Act.put, List.setIfInBounds_toArray, List.set_cons_zero, List.set_cons_succ]
  refine wpAnyH_take (i := 6) (oi := ⟨some 49, _, _, _, _, _⟩) (v := undef) rfl (by kernel_rfl) (by kernel_rfl) (by kernel_rfl) (fun _ _ _ h => h) (Or.inr ⟨by rfl, rfl⟩) (by assumption) ?_
  simp only [Act.put, List.setIfInBounds_toArray, List.set_cons_zero, List.set_cons_succ]
  refine wpAnyH_take (i := 7) (oi := ⟨some 50, _, _, _, _, _⟩) (v := undef) rfl (by kernel_rfl) (by kernel_rfl) (by kernel_rfl) (fun _ _ _ h => h) (Or.inr ⟨by rfl, rfl⟩) (by assumption) ?_
  simp only [Act.put, List.setIfInBounds_toArray, List.set_cons_zero, List.set_cons_succ]
  refine wpAnyH_take (i := 8) (oi := ⟨some 51, _, _, _, _, _⟩) (v := undef) rfl (by kernel_rfl) (by kernel_rfl) (by kernel_rfl) (fun _ _ _ h => h) (Or.inr ⟨by rfl, rfl⟩) (by assumption) ?_
  simp only [Act.put, List.setIfInBounds_toArray, List.set_cons_zero, List.set_cons_succ]
  refine wpAnyH_take (i := 9) (oi := ⟨some 52, _, _, _, _, _⟩) (v := undef) rfl (by kernel_rfl) (by kernel_rfl) (by kernel_rfl) (fun _ _ _ h => h) (Or.inr ⟨by rfl, rfl⟩) (by assumption) ?_
  simp only [Act.put, List.setIfInBounds_toArray, List.set_cons_zero, List.set_cons_succ]
  refine wpAnyH_take (i := 10) (oi := ⟨some 53, _, _, _, _, _⟩) (v := undef) rfl (by kernel_rfl) (by kernel_rfl) (by kernel_rfl) (fun _ _ _ h => h) (Or.inr ⟨by rfl, rfl⟩) (by assumption) ?_
  simp only [Act.put, List.setIfInBounds_toArray, List.set_cons_zero, List.set_cons_succ]
  refine wpAnyH_take (i := 11) (oi := ⟨some 54, _, _, _, _, _⟩) (v := undef) rfl (by kernel_rfl) (by kernel_rfl) (by kernel_rfl) (fun _ _ _ h => h) (Or.inr ⟨by rfl, rfl⟩) (by assumption) ?_
  simp only [Act.put, List.setIfInBounds_toArray, List.set_cons_zero, List.set_cons_succ]
  refine wpAnyH_take (i := 12) (oi := ⟨some 55, _, _, _, _, _⟩) (v := undef) rfl (by kernel_rfl) (by kernel_rfl) (by kernel_rfl) (fun _ _ _ h => h) (Or.inr ⟨by rfl, rfl⟩) (by assumption) ?_
  simp only [Act.put, List.setIfInBounds_toArray, List.set_cons_zero, List.set_cons_succ]
  refine wpAnyH_take (i := 13) (oi := ⟨some 56, _, _, _, _, _⟩) (v := undef) rfl (by kernel_rfl) (by kernel_rfl) (by kernel_rfl) (fun _ _ _ h => h) (Or.inr ⟨by rfl, rfl⟩) (by assumption) ?_
  simp only [Act.put, List.setIfInBounds_toArray, List.set_cons_zero, List.set_cons_succ]
  refine wpAnyH_take (i := 14) (oi := ⟨some 57, _, _, _, _, _⟩) (v := ?_) rfl (by kernel_rfl) (by kernel_rfl) (by kernel_rfl) (fun _ _ _ h => h) (Or.inl ⟨by rfl, ?_⟩) (by assumption) ?_
  rotate_left
  · intro w hSw
    try dsimp only at hSw
    go_simp
    try with_reducible rfl
  simp only [Act.put, List.setIfInBounds_toArray, List.set_cons_zero, List.set_cons_succ]
  have HE := hidP (hHeld.2)
  refine wpAnyH_done (by kernel_rfl) ?_ _
  clear hHeld
  clear HE HSx
  have hb9 : Below w8.heap.size w8 w8.drew := (Below.refl _ _).drew
  generalize w8.drew = w9 at *
  have bk0_w9 := (hb9.cell bkL_w8).trans bk0_w8
  have bk1_w9 := (hb9.cell bkL_w8).trans bk1_w8
  have bk2_w9 := (hb9.cell bkL_w8).trans bk2_w8
  have bkF_w9 : ∀ o, w9.frozen? ⟨w.heap.size, o, none⟩ = false := fun o => (hb9.frozen bkL_w8).trans (bkF_w8 o)
  have bkL_w9 : w.heap.size < w9.heap.size := Nat.lt_of_lt_of_le bkL_w8 hb9.size
  have at0_w9 := (hb9.cell atL_w8).trans at0_w8
  have at1_w9 := (hb9.cell atL_w8).trans at1_w8
  have at2_w9 := (hb9.cell atL_w8).trans at2_w8
  have atF_w9 : ∀ o, w9.frozen? ⟨w.heap.size + 1, o, none⟩ = false := fun o => (hb9.frozen atL_w8).trans (atF_w8 o)
  have atL_w9 : w.heap.size + 1 < w9.heap.size := Nat.lt_of_lt_of_le atL_w8 hb9.size
  have rs0_w9 := (hb9.cell rsL_w8).trans rs0_w8
  have rs1_w9 := (hb9.cell rsL_w8).trans rs1_w8
  have rs2_w9 := (hb9.cell rsL_w8).trans rs2_w8
  have rsF_w9 : ∀ o, w9.frozen? ⟨w.heap.size + 1 + 1, o, none⟩ = false := fun o => (hb9.frozen rsL_w8).trans (rsF_w8 o)
  have rsL_w9 : w.heap.size + 1 + 1 < w9.heap.size := Nat.lt_of_lt_of_le rsL_w8 hb9.size
  have ou0_w9 := (hb9.cell ouL_w8).trans ou0_w8
  have ou1_w9 := (hb9.cell ouL_w8).trans ou1_w8
  have ou2_w9 := (hb9.cell ouL_w8).trans ou2_w8
  have ouF_w9 : ∀ o, w9.frozen? ⟨w4.heap.size, o, none⟩ = false := fun o => (hb9.frozen ouL_w8).trans (ouF_w8 o)
  have ouL_w9 : w4.heap.size < w9.heap.size := Nat.lt_of_lt_of_le ouL_w8 hb9.size
  have oL_w9 := hidP (OwnG.later oL_w8.out hb9)
  have acc_w9 := hidP (acc_w8.out.trans (hb9.mono acc_w8.out.size))
  have sz_w9 : Hid (w8.heap.size ≤ w9.heap.size) := hidP hb9.size
  clear hb9 bk0_w8 bk1_w8 bk2_w8 bkF_w8 bkL_w8 at0_w8 at1_w8 at2_w8 atF_w8 atL_w8 rs0_w8 rs1_w8 rs2_w8 rsF_w8 rsL_w8 ou0_w8 ou1_w8 ou2_w8 ouF_w8 ouL_w8 oL_w8 acc_w8
  go_wp2_with fail
  refine bodyPost_ret (v := .tuple #[.agg #[.slice a3 n c3, .int .i64 T, .int .i64 N], .int .i64 x]) (by simp [results, Tryd.results7, go_sem, rs0_w9, rs1_w9, rs2_w9]) rfl ⟨_, _, rfl, ?_, ?_⟩
  · refine OwnG.mono (B := W3.heap.size) ?_ (by have := as_W1.out; have := sz_W1.out; have := as_W2.out; have := sz_W2.out; have := as_W3.out; have := sz_W3.out; have := sz_w4.out; have := as_W5.out; have := sz_W5.out; have := sz_w6.out; have := sz_w7.out; have := sz_w8.out; have := sz_w9.out; omega)
    iterate 3 (with_reducible refine OwnG.grown ?_ (grown_cellG _ _ _ _) ?_; rotate_left; (focus (exact OwnG.ne_of oL_w9.out (by have := as_W1.out; have := sz_W1.out; have := as_W2.out; have := sz_W2.out; have := as_W3.out; have := sz_W3.out; have := sz_w4.out; have := as_W5.out; have := sz_W5.out; have := sz_w6.out; have := sz_w7.out; have := sz_w8.out; have := sz_w9.out; omega))))
    with_reducible exact oL_w9.out
  · repeat (with_reducible refine Below.setCell ?_ ?_ _; rotate_left; (focus (first | (simp; done) | (simp; omega))))
    exact acc_w9.out

set_option maxRecDepth 10000 in
set_option maxHeartbeats 4000000 in
theorem sRen_yes (a : Option Addr) (n c : Nat) (T N : Int) (ls : List Ls) (ad : Ad) (tk : Int) (span : Int) (w : World) (hn : n = ls.length) (hB : RowG KLs w a ls) (hl : n ≤ 1048576) (hc : a = none → c = 0) (hst : ∀ q ∈ ls, q.t.size ≤ 9223372036854775807) (hr : rokB ls T N ad span = true) (I : Nat) (q : Ls) (hq : ls[I]? = some q) (HL : ∀ W, Below w.heap.size w W → Calls Tryd.prog 23 #[.agg #[.slice a n c, .int .i64 T, .int .i64 N], .agg #[.bool ad.s, .int .i64 ad.H.toInt, .int .i64 ad.L.toInt], .int .i64 tk] W fun e w' => e = .returned (.tuple #[.int .i64 I, .int .i64 0]) ∧ Below W.heap.size W w') :
    Calls Tryd.prog 7 #[.agg #[.slice a n c, .int .i64 T, .int .i64 N], .agg #[.bool ad.s, .int .i64 ad.H.toInt, .int .i64 ad.L.toInt], .int .i64 tk, .int .i64 span] w fun e w' => ∃ a' c', e = .returned (.tuple #[.agg #[.slice a' n c', .int .i64 T, .int .i64 N], .int .i64 0]) ∧ OwnG KLs 51 w' w.heap.size (.slice a' n c') (ls.set I (upd N span q)) ∧ Below w.heap.size w w' := by
  have HOw := hidP (fun W h => l6Copy_any (a) n c T N ls W hn (hB.later h) hc hl)
  have HSp := hidP (fun W h => sBookOk_any (a) n c T N ls W hn (hB.later h) hl hst)
  have HAd := hidP (sAddrOk_any ad.s ad.H.toInt ad.L.toInt)
  have HN := hidP hn
  have HR := hidP (fun W h => hB.later (w' := W) h)
  unfold rokB at hr
  rw [Bool.and_eq_true, Bool.and_eq_true] at hr
  obtain ⟨⟨hb, hok⟩, hsp⟩ := hr
  rw [Bool.and_eq_true] at hsp
  obtain ⟨h1, h2⟩ := hsp
  have hok' : okB ad.s ad.H.toInt ad.L.toInt = true := hok
  obtain ⟨hw1, hw2⟩ := sp_wrap (bk_now hb) h1
  have h3 : decide ((1000000000 : Int) < N + span) = false := by have := of_decide_eq_true h2; exact decide_eq_false (by omega)
  have HI := hidP (l1InO_any span 1 1000)
  rw [h1] at HI
  rw [hb] at HSp
  rw [hok'] at HAd
  have HLd := hidP HL
  clear HL hc hB hn hst hok' hok hb h1 h2
  have hI : I < n := by have := (List.getElem?_eq_some_iff.1 hq).1; have := HN.out; omega
  have i0 : (0 : Int) ≤ (I : Int) := by omega
  have i1 : (I : Int) < (n : Int) := by omega
  go_enter Tryd.func7, Tryd.ntmps7
  go_wp2_with fail
  obtain ⟨bk0_W1, bk1_W1, bk2_W1⟩ := box3B w 30 (.slice a n c) (.int .i64 T) (.int .i64 N)
  have bkF_W1 : ∀ o, (w.alloc (.cells #[.slice a n c, .int .i64 T, .int .i64 N] 30)).frozen? ⟨w.heap.size, o, none⟩ = false := fun o => by simp [go_sem]
  have bkL_W1 : w.heap.size < (w.alloc (.cells #[.slice a n c, .int .i64 T, .int .i64 N] 30)).heap.size := by simp
  have ab_W1 := alloc_below w (.cells #[.slice a n c, .int .i64 T, .int .i64 N] 30)
  have as_W1 : Hid ((w.alloc (.cells #[.slice a n c, .int .i64 T, .int .i64 N] 30)).heap.size = w.heap.size + 1) := hidP (by simp)
  generalize w.alloc (.cells #[.slice a n c, .int .i64 T, .int .i64 N] 30) = W1 at *
  have acc_W1 := hidP (ab_W1)
  have sz_W1 : Hid (w.heap.size ≤ W1.heap.size) := hidP ab_W1.size
  clear ab_W1 
  obtain ⟨at0_W2, at1_W2, at2_W2⟩ := box3B W1 34 (.bool ad.s) (.int .i64 ad.H.toInt) (.int .i64 ad.L.toInt)
  have atF_W2 : ∀ o, (W1.alloc (.cells #[.bool ad.s, .int .i64 ad.H.toInt, .int .i64 ad.L.toInt] 34)).frozen? ⟨W1.heap.size, o, none⟩ = false := fun o => by simp [go_sem]
  have atL_W2 : W1.heap.size < (W1.alloc (.cells #[.bool ad.s, .int .i64 ad.H.toInt, .int .i64 ad.L.toInt] 34)).heap.size := by simp
  have ab_W2 := alloc_below W1 (.cells #[.bool ad.s, .int .i64 ad.H.toInt, .int .i64 ad.L.toInt] 34)
  have as_W2 : Hid ((W1.alloc (.cells #[.bool ad.s, .int .i64 ad.H.toInt, .int .i64 ad.L.toInt] 34)).heap.size = W1.heap.size + 1) := hidP (by simp)
  generalize W1.alloc (.cells #[.bool ad.s, .int .i64 ad.H.toInt, .int .i64 ad.L.toInt] 34) = W2 at *
  have bk0_W2 := (ab_W2.cell bkL_W1).trans bk0_W1
  have bk1_W2 := (ab_W2.cell bkL_W1).trans bk1_W1
  have bk2_W2 := (ab_W2.cell bkL_W1).trans bk2_W1
  have bkF_W2 : ∀ o, W2.frozen? ⟨w.heap.size, o, none⟩ = false := fun o => (ab_W2.frozen bkL_W1).trans (bkF_W1 o)
  have bkL_W2 : w.heap.size < W2.heap.size := Nat.lt_of_lt_of_le bkL_W1 ab_W2.size
  have acc_W2 := hidP (acc_W1.out.trans (ab_W2.mono acc_W1.out.size))
  have sz_W2 : Hid (W1.heap.size ≤ W2.heap.size) := hidP ab_W2.size
  clear ab_W2 bk0_W1 bk1_W1 bk2_W1 bkF_W1 bkL_W1 acc_W1
  rw [as_W1.out] at at0_W2 at1_W2 at2_W2 atL_W2
  have atF_W2' : ∀ o, W2.frozen? ⟨w.heap.size + 1, o, none⟩ = false := fun o => by have := atF_W2 o; rw [as_W1.out] at this; exact this
  clear atF_W2
  have atF_W2 := atF_W2'
  clear atF_W2'
  obtain ⟨rs0_W3, rs1_W3, rs2_W3⟩ := box3B W2 30 (.slice none 0 0) (.int .i64 0) (.int .i64 0)
  have rsF_W3 : ∀ o, (W2.alloc (.cells #[.slice none 0 0, .int .i64 0, .int .i64 0] 30)).frozen? ⟨W2.heap.size, o, none⟩ = false := fun o => by simp [go_sem]
  have rsL_W3 : W2.heap.size < (W2.alloc (.cells #[.slice none 0 0, .int .i64 0, .int .i64 0] 30)).heap.size := by simp
  have ab_W3 := alloc_below W2 (.cells #[.slice none 0 0, .int .i64 0, .int .i64 0] 30)
  have as_W3 : Hid ((W2.alloc (.cells #[.slice none 0 0, .int .i64 0, .int .i64 0] 30)).heap.size = W2.heap.size + 1) := hidP (by simp)
  generalize W2.alloc (.cells #[.slice none 0 0, .int .i64 0, .int .i64 0] 30) = W3 at *
  have bk0_W3 := (ab_W3.cell bkL_W2).trans bk0_W2
  have bk1_W3 := (ab_W3.cell bkL_W2).trans bk1_W2
  have bk2_W3 := (ab_W3.cell bkL_W2).trans bk2_W2
  have bkF_W3 : ∀ o, W3.frozen? ⟨w.heap.size, o, none⟩ = false := fun o => (ab_W3.frozen bkL_W2).trans (bkF_W2 o)
  have bkL_W3 : w.heap.size < W3.heap.size := Nat.lt_of_lt_of_le bkL_W2 ab_W3.size
  have at0_W3 := (ab_W3.cell atL_W2).trans at0_W2
  have at1_W3 := (ab_W3.cell atL_W2).trans at1_W2
  have at2_W3 := (ab_W3.cell atL_W2).trans at2_W2
  have atF_W3 : ∀ o, W3.frozen? ⟨w.heap.size + 1, o, none⟩ = false := fun o => (ab_W3.frozen atL_W2).trans (atF_W2 o)
  have atL_W3 : w.heap.size + 1 < W3.heap.size := Nat.lt_of_lt_of_le atL_W2 ab_W3.size
  have acc_W3 := hidP (acc_W2.out.trans (ab_W3.mono acc_W2.out.size))
  have sz_W3 : Hid (W2.heap.size ≤ W3.heap.size) := hidP ab_W3.size
  clear ab_W3 bk0_W2 bk1_W2 bk2_W2 bkF_W2 bkL_W2 at0_W2 at1_W2 at2_W2 atF_W2 atL_W2 acc_W2
  rw [as_W2.out, as_W1.out] at rs0_W3 rs1_W3 rs2_W3 rsL_W3
  have rsF_W3' : ∀ o, W3.frozen? ⟨w.heap.size + 1 + 1, o, none⟩ = false := fun o => by have := rsF_W3 o; rw [as_W2.out, as_W1.out] at this; exact this
  clear rsF_W3
  have rsF_W3 := rsF_W3'
  clear rsF_W3'
  refine (HOw.out _ acc_W3.out).mono ?_
  rintro e w4 ⟨a3, c3, rfl, og3, hb4⟩
  have og3' := hidP og3
  clear og3
  have bk0_w4 := (hb4.cell bkL_W3).trans bk0_W3
  have bk1_w4 := (hb4.cell bkL_W3).trans bk1_W3
  have bk2_w4 := (hb4.cell bkL_W3).trans bk2_W3
  have bkF_w4 : ∀ o, w4.frozen? ⟨w.heap.size, o, none⟩ = false := fun o => (hb4.frozen bkL_W3).trans (bkF_W3 o)
  have bkL_w4 : w.heap.size < w4.heap.size := Nat.lt_of_lt_of_le bkL_W3 hb4.size
  have at0_w4 := (hb4.cell atL_W3).trans at0_W3
  have at1_w4 := (hb4.cell atL_W3).trans at1_W3
  have at2_w4 := (hb4.cell atL_W3).trans at2_W3
  have atF_w4 : ∀ o, w4.frozen? ⟨w.heap.size + 1, o, none⟩ = false := fun o => (hb4.frozen atL_W3).trans (atF_W3 o)
  have atL_w4 : w.heap.size + 1 < w4.heap.size := Nat.lt_of_lt_of_le atL_W3 hb4.size
  have rs0_w4 := (hb4.cell rsL_W3).trans rs0_W3
  have rs1_w4 := (hb4.cell rsL_W3).trans rs1_W3
  have rs2_w4 := (hb4.cell rsL_W3).trans rs2_W3
  have rsF_w4 : ∀ o, w4.frozen? ⟨w.heap.size + 1 + 1, o, none⟩ = false := fun o => (hb4.frozen rsL_W3).trans (rsF_W3 o)
  have rsL_w4 : w.heap.size + 1 + 1 < w4.heap.size := Nat.lt_of_lt_of_le rsL_W3 hb4.size
  have acc_w4 := hidP (acc_W3.out.trans (hb4.mono acc_W3.out.size))
  have sz_w4 : Hid (W3.heap.size ≤ w4.heap.size) := hidP hb4.size
  clear hb4 bk0_W3 bk1_W3 bk2_W3 bkF_W3 bkL_W3 at0_W3 at1_W3 at2_W3 atF_W3 atL_W3 rs0_W3 rs1_W3 rs2_W3 rsF_W3 rsL_W3 acc_W3
  have oL_w4 := hidP (og3'.out)
  have lhL : Hid (∀ k, (Value.slice a3 n c3).ownBlock = some k → W3.heap.size ≤ k ∧ k < w4.heap.size) := hidP (fun k hk => OwnG.lt oL_w4.out k hk)
  clear og3'
  go_wp2_with fail
  obtain ⟨ou0_W5, ou1_W5, ou2_W5⟩ := box3B w4 30 (.slice a3 n c3) (.int .i64 T) (.int .i64 N)
  have ouF_W5 : ∀ o, (w4.alloc (.cells #[.slice a3 n c3, .int .i64 T, .int .i64 N] 30)).frozen? ⟨w4.heap.size, o, none⟩ = false := fun o => by simp [go_sem]
  have ouL_W5 : w4.heap.size < (w4.alloc (.cells #[.slice a3 n c3, .int .i64 T, .int .i64 N] 30)).heap.size := by simp
  have ab_W5 := alloc_below w4 (.cells #[.slice a3 n c3, .int .i64 T, .int .i64 N] 30)
  have as_W5 : Hid ((w4.alloc (.cells #[.slice a3 n c3, .int .i64 T, .int .i64 N] 30)).heap.size = w4.heap.size + 1) := hidP (by simp)
  generalize w4.alloc (.cells #[.slice a3 n c3, .int .i64 T, .int .i64 N] 30) = W5 at *
  have bk0_W5 := (ab_W5.cell bkL_w4).trans bk0_w4
  have bk1_W5 := (ab_W5.cell bkL_w4).trans bk1_w4
  have bk2_W5 := (ab_W5.cell bkL_w4).trans bk2_w4
  have bkF_W5 : ∀ o, W5.frozen? ⟨w.heap.size, o, none⟩ = false := fun o => (ab_W5.frozen bkL_w4).trans (bkF_w4 o)
  have bkL_W5 : w.heap.size < W5.heap.size := Nat.lt_of_lt_of_le bkL_w4 ab_W5.size
  have at0_W5 := (ab_W5.cell atL_w4).trans at0_w4
  have at1_W5 := (ab_W5.cell atL_w4).trans at1_w4
  have at2_W5 := (ab_W5.cell atL_w4).trans at2_w4
  have atF_W5 : ∀ o, W5.frozen? ⟨w.heap.size + 1, o, none⟩ = false := fun o => (ab_W5.frozen atL_w4).trans (atF_w4 o)
  have atL_W5 : w.heap.size + 1 < W5.heap.size := Nat.lt_of_lt_of_le atL_w4 ab_W5.size
  have rs0_W5 := (ab_W5.cell rsL_w4).trans rs0_w4
  have rs1_W5 := (ab_W5.cell rsL_w4).trans rs1_w4
  have rs2_W5 := (ab_W5.cell rsL_w4).trans rs2_w4
  have rsF_W5 : ∀ o, W5.frozen? ⟨w.heap.size + 1 + 1, o, none⟩ = false := fun o => (ab_W5.frozen rsL_w4).trans (rsF_w4 o)
  have rsL_W5 : w.heap.size + 1 + 1 < W5.heap.size := Nat.lt_of_lt_of_le rsL_w4 ab_W5.size
  have oL_W5 := hidP (OwnG.later oL_w4.out ab_W5)
  have acc_W5 := hidP (acc_w4.out.trans (ab_W5.mono acc_w4.out.size))
  have sz_W5 : Hid (w4.heap.size ≤ W5.heap.size) := hidP ab_W5.size
  clear ab_W5 bk0_w4 bk1_w4 bk2_w4 bkF_w4 bkL_w4 at0_w4 at1_w4 at2_w4 atF_w4 atL_w4 rs0_w4 rs1_w4 rs2_w4 rsF_w4 rsL_w4 oL_w4 acc_w4
  refine (HSp.out _ acc_W5.out).mono ?_
  rintro e w6 ⟨rfl, hb6⟩
  have bk0_w6 := (hb6.cell bkL_W5).trans bk0_W5
  have bk1_w6 := (hb6.cell bkL_W5).trans bk1_W5
  have bk2_w6 := (hb6.cell bkL_W5).trans bk2_W5
  have bkF_w6 : ∀ o, w6.frozen? ⟨w.heap.size, o, none⟩ = false := fun o => (hb6.frozen bkL_W5).trans (bkF_W5 o)
  have bkL_w6 : w.heap.size < w6.heap.size := Nat.lt_of_lt_of_le bkL_W5 hb6.size
  have at0_w6 := (hb6.cell atL_W5).trans at0_W5
  have at1_w6 := (hb6.cell atL_W5).trans at1_W5
  have at2_w6 := (hb6.cell atL_W5).trans at2_W5
  have atF_w6 : ∀ o, w6.frozen? ⟨w.heap.size + 1, o, none⟩ = false := fun o => (hb6.frozen atL_W5).trans (atF_W5 o)
  have atL_w6 : w.heap.size + 1 < w6.heap.size := Nat.lt_of_lt_of_le atL_W5 hb6.size
  have rs0_w6 := (hb6.cell rsL_W5).trans rs0_W5
  have rs1_w6 := (hb6.cell rsL_W5).trans rs1_W5
  have rs2_w6 := (hb6.cell rsL_W5).trans rs2_W5
  have rsF_w6 : ∀ o, w6.frozen? ⟨w.heap.size + 1 + 1, o, none⟩ = false := fun o => (hb6.frozen rsL_W5).trans (rsF_W5 o)
  have rsL_w6 : w.heap.size + 1 + 1 < w6.heap.size := Nat.lt_of_lt_of_le rsL_W5 hb6.size
  have ou0_w6 := (hb6.cell ouL_W5).trans ou0_W5
  have ou1_w6 := (hb6.cell ouL_W5).trans ou1_W5
  have ou2_w6 := (hb6.cell ouL_W5).trans ou2_W5
  have ouF_w6 : ∀ o, w6.frozen? ⟨w4.heap.size, o, none⟩ = false := fun o => (hb6.frozen ouL_W5).trans (ouF_W5 o)
  have ouL_w6 : w4.heap.size < w6.heap.size := Nat.lt_of_lt_of_le ouL_W5 hb6.size
  have oL_w6 := hidP (OwnG.later oL_W5.out hb6)
  have acc_w6 := hidP (acc_W5.out.trans (hb6.mono acc_W5.out.size))
  have sz_w6 : Hid (W5.heap.size ≤ w6.heap.size) := hidP hb6.size
  clear hb6 bk0_W5 bk1_W5 bk2_W5 bkF_W5 bkL_W5 at0_W5 at1_W5 at2_W5 atF_W5 atL_W5 rs0_W5 rs1_W5 rs2_W5 rsF_W5 rsL_W5 ou0_W5 ou1_W5 ou2_W5 ouF_W5 ouL_W5 oL_W5 acc_W5
  go_wp2_with fail
  refine (HAd.out _).mono ?_
  rintro e w7 ⟨rfl, hb7⟩
  have bk0_w7 := (hb7.cell bkL_w6).trans bk0_w6
  have bk1_w7 := (hb7.cell bkL_w6).trans bk1_w6
  have bk2_w7 := (hb7.cell bkL_w6).trans bk2_w6
  have bkF_w7 : ∀ o, w7.frozen? ⟨w.heap.size, o, none⟩ = false := fun o => (hb7.frozen bkL_w6).trans (bkF_w6 o)
  have bkL_w7 : w.heap.size < w7.heap.size := Nat.lt_of_lt_of_le bkL_w6 hb7.size
  have at0_w7 := (hb7.cell atL_w6).trans at0_w6
  have at1_w7 := (hb7.cell atL_w6).trans at1_w6
  have at2_w7 := (hb7.cell atL_w6).trans at2_w6
  have atF_w7 : ∀ o, w7.frozen? ⟨w.heap.size + 1, o, none⟩ = false := fun o => (hb7.frozen atL_w6).trans (atF_w6 o)
  have atL_w7 : w.heap.size + 1 < w7.heap.size := Nat.lt_of_lt_of_le atL_w6 hb7.size
  have rs0_w7 := (hb7.cell rsL_w6).trans rs0_w6
  have rs1_w7 := (hb7.cell rsL_w6).trans rs1_w6
  have rs2_w7 := (hb7.cell rsL_w6).trans rs2_w6
  have rsF_w7 : ∀ o, w7.frozen? ⟨w.heap.size + 1 + 1, o, none⟩ = false := fun o => (hb7.frozen rsL_w6).trans (rsF_w6 o)
  have rsL_w7 : w.heap.size + 1 + 1 < w7.heap.size := Nat.lt_of_lt_of_le rsL_w6 hb7.size
  have ou0_w7 := (hb7.cell ouL_w6).trans ou0_w6
  have ou1_w7 := (hb7.cell ouL_w6).trans ou1_w6
  have ou2_w7 := (hb7.cell ouL_w6).trans ou2_w6
  have ouF_w7 : ∀ o, w7.frozen? ⟨w4.heap.size, o, none⟩ = false := fun o => (hb7.frozen ouL_w6).trans (ouF_w6 o)
  have ouL_w7 : w4.heap.size < w7.heap.size := Nat.lt_of_lt_of_le ouL_w6 hb7.size
  have oL_w7 := hidP (OwnG.later oL_w6.out hb7)
  have acc_w7 := hidP (acc_w6.out.trans (hb7.mono acc_w6.out.size))
  have sz_w7 : Hid (w6.heap.size ≤ w7.heap.size) := hidP hb7.size
  clear hb7 bk0_w6 bk1_w6 bk2_w6 bkF_w6 bkL_w6 at0_w6 at1_w6 at2_w6 atF_w6 atL_w6 rs0_w6 rs1_w6 rs2_w6 rsF_w6 rsL_w6 ou0_w6 ou1_w6 ou2_w6 ouF_w6 ouL_w6 oL_w6 acc_w6
  go_wp2_with fail
  refine (HI.out _).mono ?_
  rintro e w7' ⟨rfl, hw7⟩
  rw [hw7]
  clear hw7 w7'
  go_wp2_with fail
  refine (HLd.out _ acc_w7.out).mono ?_
  rintro e w8 ⟨rfl, hb8⟩
  have bk0_w8 := (hb8.cell bkL_w7).trans bk0_w7
  have bk1_w8 := (hb8.cell bkL_w7).trans bk1_w7
  have bk2_w8 := (hb8.cell bkL_w7).trans bk2_w7
  have bkF_w8 : ∀ o, w8.frozen? ⟨w.heap.size, o, none⟩ = false := fun o => (hb8.frozen bkL_w7).trans (bkF_w7 o)
  have bkL_w8 : w.heap.size < w8.heap.size := Nat.lt_of_lt_of_le bkL_w7 hb8.size
  have at0_w8 := (hb8.cell atL_w7).trans at0_w7
  have at1_w8 := (hb8.cell atL_w7).trans at1_w7
  have at2_w8 := (hb8.cell atL_w7).trans at2_w7
  have atF_w8 : ∀ o, w8.frozen? ⟨w.heap.size + 1, o, none⟩ = false := fun o => (hb8.frozen atL_w7).trans (atF_w7 o)
  have atL_w8 : w.heap.size + 1 < w8.heap.size := Nat.lt_of_lt_of_le atL_w7 hb8.size
  have rs0_w8 := (hb8.cell rsL_w7).trans rs0_w7
  have rs1_w8 := (hb8.cell rsL_w7).trans rs1_w7
  have rs2_w8 := (hb8.cell rsL_w7).trans rs2_w7
  have rsF_w8 : ∀ o, w8.frozen? ⟨w.heap.size + 1 + 1, o, none⟩ = false := fun o => (hb8.frozen rsL_w7).trans (rsF_w7 o)
  have rsL_w8 : w.heap.size + 1 + 1 < w8.heap.size := Nat.lt_of_lt_of_le rsL_w7 hb8.size
  have ou0_w8 := (hb8.cell ouL_w7).trans ou0_w7
  have ou1_w8 := (hb8.cell ouL_w7).trans ou1_w7
  have ou2_w8 := (hb8.cell ouL_w7).trans ou2_w7
  have ouF_w8 : ∀ o, w8.frozen? ⟨w4.heap.size, o, none⟩ = false := fun o => (hb8.frozen ouL_w7).trans (ouF_w7 o)
  have ouL_w8 : w4.heap.size < w8.heap.size := Nat.lt_of_lt_of_le ouL_w7 hb8.size
  have oL_w8 := hidP (OwnG.later oL_w7.out hb8)
  have acc_w8 := hidP (acc_w7.out.trans (hb8.mono acc_w7.out.size))
  have sz_w8 : Hid (w7.heap.size ≤ w8.heap.size) := hidP hb8.size
  clear hb8 bk0_w7 bk1_w7 bk2_w7 bkF_w7 bkL_w7 at0_w7 at1_w7 at2_w7 atF_w7 atL_w7 rs0_w7 rs1_w7 rs2_w7 rsF_w7 rsL_w7 ou0_w7 ou1_w7 ou2_w7 ouF_w7 ouL_w7 oL_w7 acc_w7
  go_wp2_with fail
  obtain ⟨g3, rfl⟩ := own_some oL_w8.out (by omega)
  obtain ⟨q', hgl, hq', c0, c1, c2, c3', c4, c5⟩ := rowLs0 oL_w8.out I (by have := HN.out; omega)
  rw [hq] at hq'
  cases hq'
  have fz := oL_w8.out.frozen (I * 6 + 5)
  cases hlt : decide (q.u < N + span)
  · have hupd : ls.set I (upd N span q) = ls := by
      have hq2 : upd N span q = q := by unfold upd; rw [if_neg (of_decide_eq_false hlt)]
      rw [hq2]
      apply List.ext_getElem?
      intro j
      rw [List.getElem?_set]
      by_cases hj : I = j
      · subst hj; rw [if_pos rfl, if_pos (List.getElem?_eq_some_iff.1 hq).1, hq]
      · rw [if_neg hj]
    have HUp := hidP hupd
    clear hupd
    have HSx : Hid (∀ x, Below w8.heap.size w8 x → (x.cell? ⟨w4.heap.size, 0, none⟩ = some (.slice (some ⟨g3, 0, none⟩) n c3) ∧ x.cell? ⟨g3, I * 6 + 5, none⟩ = some (.int .i64 q.u) ∧ x.cell? ⟨w.heap.size, 2, none⟩ = some (.int .i64 N) ∧ Below w8.heap.size w8 x)) := hidP fun x h =>
      ⟨(h.cell ouL_w8).trans ou0_w8, (h.cell hgl).trans c5, (h.cell bkL_w8).trans bk2_w8, h⟩
    refine wp_region_held_drew (S := (fun x => x.cell? ⟨w4.heap.size, 0, none⟩ = some (.slice (some ⟨g3, 0, none⟩) n c3) ∧ x.cell? ⟨g3, I * 6 + 5, none⟩ = some (.int .i64 q.u) ∧ x.cell? ⟨w.heap.size, 2, none⟩ = some (.int .i64 N) ∧ Below w8.heap.size w8 x)) (by kernel_rfl) ?_ (fun hHeld => ?_)
    · try dsimp only
      exact HSx.out _ ((Below.refl _ _).drew)
    refine wpAnyH_take (i := 0) (oi := ⟨some 43, _, _, _, _, _⟩) (v := ?_) rfl (by kernel_rfl) (by kernel_rfl) (by kernel_rfl) (fun _ _ _ h => h) (Or.inl ⟨by rfl, ?_⟩) (by assumption) ?_
    rotate_left
    · intro w hSw
      try dsimp only at hSw
      go_simp
      try with_reducible rfl
    simp only [Act.put, List.setIfInBounds_toArray, List.set_cons_zero, List.set_cons_succ]
    refine wpAnyH_take (i := 1) (oi := ⟨some 44, _, _, _, _, _⟩) (v := ?_) rfl (by kernel_rfl) (by kernel_rfl) (by kernel_rfl) (fun _ _ _ h => h) (Or.inl ⟨by rfl, ?_⟩) (by assumption) ?_
    rotate_left
    · intro w hSw
      try dsimp only at hSw
      go_simp
      try with_reducible rfl
    simp only [Act.put, List.setIfInBounds_toArray, List.set_cons_zero, List.set_cons_succ]
    refine wpAnyH_take (i := 2) (oi := ⟨some 45, _, _, _, _, _⟩) (v := ?_) rfl (by kernel_rfl) (by kernel_rfl) (by kernel_rfl) (fun _ _ _ h => h) (Or.inl ⟨by rfl, ?_⟩) (by assumption) ?_
    rotate_left
    · intro w hSw
      try dsimp only at hSw
      go_simp
      try with_reducible rfl
    simp only [Act.put, List.setIfInBounds_toArray, List.set_cons_zero, List.set_cons_succ]
    refine wpAnyH_take (i := 3) (oi := ⟨some 46, _, _, _, _, _⟩) (v := ?_) rfl (by kernel_rfl) (by kernel_rfl) (by kernel_rfl) (fun _ _ _ h => h) (Or.inl ⟨by rfl, ?_⟩) (by assumption) ?_
    rotate_left
    · intro w hSw
      try dsimp only at hSw
      go_simp
      try with_reducible rfl
    simp only [Act.put, List.setIfInBounds_toArray, List.set_cons_zero, List.set_cons_succ]
    refine wpAnyH_take (i := 4) (oi := ⟨some 47, _, _, _, _, _⟩) (v := ?_) rfl (by kernel_rfl) (by kernel_rfl) (by kernel_rfl) (fun _ _ _ h => h) (Or.inl ⟨by rfl, ?_⟩) (by assumption) ?_
    rotate_left
    · intro w hSw
      try dsimp only at hSw
      go_simp
      try with_reducible rfl
    simp only [Act.put, List.setIfInBounds_toArray, List.set_cons_zero, List.set_cons_succ]
    refine wpAnyH_take (i := 5) (oi := ⟨some 48, _, _, _, _, _⟩) (v := ?_) rfl (by kernel_rfl) (by kernel_rfl) (by kernel_rfl) (fun _ _ _ h => h) (Or.inl ⟨by rfl, ?_⟩) (by assumption) ?_
    rotate_left
    · intro w hSw
      try dsimp only at hSw
      go_simp
      try with_reducible rfl
    simp only [Act.put, List.setIfInBounds_toArray, List.set_cons_zero, List.set_cons_succ]
    refine wpAnyH_take (i := 6) (oi := ⟨some 49, _, _, _, _, _⟩) (v := ?_) rfl (by kernel_rfl) (by kernel_rfl) (by kernel_rfl) (fun _ _ _ h => h) (Or.inl ⟨by rfl, ?_⟩) (by assumption) ?_
    rotate_left
    · intro w hSw
      try dsimp only at hSw
      go_simp
      try with_reducible rfl
    simp only [Act.put, List.setIfInBounds_toArray, List.set_cons_zero, List.set_cons_succ]
    refine wpAnyH_take (i := 7) (oi := ⟨some 50, _, _, _, _, _⟩) (v := ?_) rfl (by kernel_rfl) (by kernel_rfl) (by kernel_rfl) (fun _ _ _ h => h) (Or.inl ⟨by rfl, ?_⟩) (by assumption) ?_
    rotate_left
    · intro w hSw
      try dsimp only at hSw
      go_simp
      try with_reducible rfl
    simp only [Act.put, List.setIfInBounds_toArray, List.set_cons_zero, List.set_cons_succ]
    refine wpAnyH_take (i := 8) (oi := ⟨some 51, _, _, _, _, _⟩) (v := ?_) rfl (by kernel_rfl) (by kernel_rfl) (by kernel_rfl) (fun _ _ _ h => h) (Or.inl ⟨by rfl, ?_⟩) (by assumption) ?_
    rotate_left
    · intro w hSw
      try dsimp only at hSw
      go_simp
      try with_reducible rfl
    simp only [Act.put, List.setIfInBounds_toArray, List.set_cons_zero, List.set_cons_succ]
    refine wpAnyH_take (i := 9) (oi := ⟨some 52, _, _, _, _, _⟩) (v := ?_) rfl (by kernel_rfl) (by kernel_rfl) (by kernel_rfl) (fun _ _ _ h => h) (Or.inl ⟨by rfl, ?_⟩) (by assumption) ?_
    rotate_left
    · intro w hSw
      try dsimp only at hSw
      go_simp
      try with_reducible rfl
    simp only [Act.put, List.setIfInBounds_toArray, List.set_cons_zero, List.set_cons_succ]
    refine wpAnyH_take (i := 10) (oi := ⟨some 53, _, _, _, _, _⟩) (v := ?_) rfl (by kernel_rfl) (by kernel_rfl) (by kernel_rfl) (fun _ _ _ h => h) (Or.inl ⟨by rfl, ?_⟩) (by assumption) ?_
    rotate_left
    · intro w hSw
      try dsimp only at hSw
      go_simp
      try with_reducible rfl
    simp only [Act.put, List.setIfInBounds_toArray, List.set_cons_zero, List.set_cons_succ]
    refine wpAnyH_take (i := 11) (oi := ⟨some 54, _, _, _, _, _⟩) (v := ?_) rfl (by kernel_rfl) (by kernel_rfl) (by kernel_rfl) (fun _ _ _ h => h) (Or.inl ⟨by rfl, ?_⟩) (by assumption) ?_
    rotate_left
    · intro w hSw
      try dsimp only at hSw
      go_simp
      try with_reducible rfl
    simp only [Act.put, List.setIfInBounds_toArray, List.set_cons_zero, List.set_cons_succ]
    refine wpAnyH_take (i := 12) (oi := ⟨some 55, _, _, _, _, _⟩) (v := ?_) rfl (by kernel_rfl) (by kernel_rfl) (by kernel_rfl) (fun _ _ _ h => h) (Or.inl ⟨by rfl, ?_⟩) (by assumption) ?_
    rotate_left
    · intro w hSw
      try dsimp only at hSw
      go_simp
      try with_reducible rfl
    simp only [Act.put, List.setIfInBounds_toArray, List.set_cons_zero, List.set_cons_succ]
    refine wpAnyH_take (i := 13) (oi := ⟨some 56, _, _, _, _, _⟩) (v := ?_) rfl (by kernel_rfl) (by kernel_rfl) (by kernel_rfl) (fun _ _ _ h => h) (Or.inl ⟨by rfl, ?_⟩) (by assumption) ?_
    rotate_left
    · intro w hSw
      try dsimp only at hSw
      go_simp
      try with_reducible rfl
    simp only [Act.put, List.setIfInBounds_toArray, List.set_cons_zero, List.set_cons_succ]
    refine wpAnyH_take (i := 14) (oi := ⟨some 57, _, _, _, _, _⟩) (v := ?_) rfl (by kernel_rfl) (by kernel_rfl) (by kernel_rfl) (fun _ _ _ h => h) (Or.inl ⟨by rfl, ?_⟩) (by assumption) ?_
    rotate_left
    · intro w hSw
      try dsimp only at hSw
      go_simp
      try with_reducible rfl
    simp only [Act.put, List.setIfInBounds_toArray, List.set_cons_zero, List.set_cons_succ]
    have HE := hidP (hHeld.2.2.2)
    refine wpAnyH_done (by kernel_rfl) ?_ _
    clear hHeld
    clear HE HSx c0 c1 c2 c3' c4 c5 fz hgl
    have hb9 : Below w8.heap.size w8 w8.drew := (Below.refl _ _).drew
    generalize w8.drew = w9 at *
    have bk0_w9 := (hb9.cell bkL_w8).trans bk0_w8
    have bk1_w9 := (hb9.cell bkL_w8).trans bk1_w8
    have bk2_w9 := (hb9.cell bkL_w8).trans bk2_w8
    have bkF_w9 : ∀ o, w9.frozen? ⟨w.heap.size, o, none⟩ = false := fun o => (hb9.frozen bkL_w8).trans (bkF_w8 o)
    have bkL_w9 : w.heap.size < w9.heap.size := Nat.lt_of_lt_of_le bkL_w8 hb9.size
    have at0_w9 := (hb9.cell atL_w8).trans at0_w8
    have at1_w9 := (hb9.cell atL_w8).trans at1_w8
    have at2_w9 := (hb9.cell atL_w8).trans at2_w8
    have atF_w9 : ∀ o, w9.frozen? ⟨w.heap.size + 1, o, none⟩ = false := fun o => (hb9.frozen atL_w8).trans (atF_w8 o)
    have atL_w9 : w.heap.size + 1 < w9.heap.size := Nat.lt_of_lt_of_le atL_w8 hb9.size
    have rs0_w9 := (hb9.cell rsL_w8).trans rs0_w8
    have rs1_w9 := (hb9.cell rsL_w8).trans rs1_w8
    have rs2_w9 := (hb9.cell rsL_w8).trans rs2_w8
    have rsF_w9 : ∀ o, w9.frozen? ⟨w.heap.size + 1 + 1, o, none⟩ = false := fun o => (hb9.frozen rsL_w8).trans (rsF_w8 o)
    have rsL_w9 : w.heap.size + 1 + 1 < w9.heap.size := Nat.lt_of_lt_of_le rsL_w8 hb9.size
    have ou0_w9 := (hb9.cell ouL_w8).trans ou0_w8
    have ou1_w9 := (hb9.cell ouL_w8).trans ou1_w8
    have ou2_w9 := (hb9.cell ouL_w8).trans ou2_w8
    have ouF_w9 : ∀ o, w9.frozen? ⟨w4.heap.size, o, none⟩ = false := fun o => (hb9.frozen ouL_w8).trans (ouF_w8 o)
    have ouL_w9 : w4.heap.size < w9.heap.size := Nat.lt_of_lt_of_le ouL_w8 hb9.size
    have oL_w9 := hidP (OwnG.later oL_w8.out hb9)
    have acc_w9 := hidP (acc_w8.out.trans (hb9.mono acc_w8.out.size))
    have sz_w9 : Hid (w8.heap.size ≤ w9.heap.size) := hidP hb9.size
    clear hb9 bk0_w8 bk1_w8 bk2_w8 bkF_w8 bkL_w8 at0_w8 at1_w8 at2_w8 atF_w8 atL_w8 rs0_w8 rs1_w8 rs2_w8 rsF_w8 rsL_w8 ou0_w8 ou1_w8 ou2_w8 ouF_w8 ouL_w8 oL_w8 acc_w8
    go_wp2_with fail
    refine bodyPost_ret (v := .tuple #[.agg #[.slice (some ⟨g3, 0, none⟩) n c3, .int .i64 T, .int .i64 N], .int .i64 0]) (by simp [results, Tryd.results7, go_sem, rs0_w9, rs1_w9, rs2_w9]) rfl ⟨_, _, rfl, ?_, ?_⟩
    · rw [HUp.out]; refine OwnG.mono (B := W3.heap.size) ?_ (by have := as_W1.out; have := sz_W1.out; have := as_W2.out; have := sz_W2.out; have := as_W3.out; have := sz_W3.out; have := sz_w4.out; have := as_W5.out; have := sz_W5.out; have := sz_w6.out; have := sz_w7.out; have := sz_w8.out; have := sz_w9.out; omega)
      iterate 3 (with_reducible refine OwnG.grown ?_ (grown_cellG _ _ _ _) ?_; rotate_left; (focus (exact OwnG.ne_of oL_w9.out (by have := as_W1.out; have := sz_W1.out; have := as_W2.out; have := sz_W2.out; have := as_W3.out; have := sz_W3.out; have := sz_w4.out; have := as_W5.out; have := sz_W5.out; have := sz_w6.out; have := sz_w7.out; have := sz_w8.out; have := sz_w9.out; omega))))
      with_reducible exact oL_w9.out
    · repeat (with_reducible refine Below.setCell ?_ ?_ _; rotate_left; (focus (first | (simp; done) | (simp; omega))))
      exact acc_w9.out
  · have HSx : Hid (∀ x, Below w8.heap.size w8 x → (x.cell? ⟨w4.heap.size, 0, none⟩ = some (.slice (some ⟨g3, 0, none⟩) n c3) ∧ x.cell? ⟨g3, I * 6 + 5, none⟩ = some (.int .i64 q.u) ∧ x.cell? ⟨w.heap.size, 2, none⟩ = some (.int .i64 N) ∧ Below w8.heap.size w8 x)) := hidP fun x h =>
      ⟨(h.cell ouL_w8).trans ou0_w8, (h.cell hgl).trans c5, (h.cell bkL_w8).trans bk2_w8, h⟩
    refine wp_region_held_drew (S := (fun x => x.cell? ⟨w4.heap.size, 0, none⟩ = some (.slice (some ⟨g3, 0, none⟩) n c3) ∧ x.cell? ⟨g3, I * 6 + 5, none⟩ = some (.int .i64 q.u) ∧ x.cell? ⟨w.heap.size, 2, none⟩ = some (.int .i64 N) ∧ Below w8.heap.size w8 x)) (by kernel_rfl) ?_ (fun hHeld => ?_)
    · try dsimp only
      exact HSx.out _ ((Below.refl _ _).drew)
    refine wpAnyH_take (i := 0) (oi := ⟨some 43, _, _, _, _, _⟩) (v := ?_) rfl (by kernel_rfl) (by kernel_rfl) (by kernel_rfl) (fun _ _ _ h => h) (Or.inl ⟨by rfl, ?_⟩) (by assumption) ?_
    rotate_left
    · intro w hSw
      try dsimp only at hSw
      go_simp
      try with_reducible rfl
    simp only [Act.put, List.setIfInBounds_toArray, List.set_cons_zero, List.set_cons_succ]
    refine wpAnyH_take (i := 1) (oi := ⟨some 44, _, _, _, _, _⟩) (v := ?_) rfl (by kernel_rfl) (by kernel_rfl) (by kernel_rfl) (fun _ _ _ h => h) (Or.inl ⟨by rfl, ?_⟩) (by assumption) ?_
    rotate_left
    · intro w hSw
      try dsimp only at hSw
      go_simp
      try with_reducible rfl
    simp only [Act.put, List.setIfInBounds_toArray, List.set_cons_zero, List.set_cons_succ]
    refine wpAnyH_take (i := 2) (oi := ⟨some 45, _, _, _, _, _⟩) (v := ?_) rfl (by kernel_rfl) (by kernel_rfl) (by kernel_rfl) (fun _ _ _ h => h) (Or.inl ⟨by rfl, ?_⟩) (by assumption) ?_
    rotate_left
    · intro w hSw
      try dsimp only at hSw
      go_simp
      try with_reducible rfl
    simp only [Act.put, List.setIfInBounds_toArray, List.set_cons_zero, List.set_cons_succ]
    refine wpAnyH_take (i := 3) (oi := ⟨some 46, _, _, _, _, _⟩) (v := ?_) rfl (by kernel_rfl) (by kernel_rfl) (by kernel_rfl) (fun _ _ _ h => h) (Or.inl ⟨by rfl, ?_⟩) (by assumption) ?_
    rotate_left
    · intro w hSw
      try dsimp only at hSw
      go_simp
      try with_reducible rfl
    simp only [Act.put, List.setIfInBounds_toArray, List.set_cons_zero, List.set_cons_succ]
    refine wpAnyH_take (i := 4) (oi := ⟨some 47, _, _, _, _, _⟩) (v := ?_) rfl (by kernel_rfl) (by kernel_rfl) (by kernel_rfl) (fun _ _ _ h => h) (Or.inl ⟨by rfl, ?_⟩) (by assumption) ?_
    rotate_left
    · intro w hSw
      try dsimp only at hSw
      go_simp
      try with_reducible rfl
    simp only [Act.put, List.setIfInBounds_toArray, List.set_cons_zero, List.set_cons_succ]
    refine wpAnyH_take (i := 5) (oi := ⟨some 48, _, _, _, _, _⟩) (v := ?_) rfl (by kernel_rfl) (by kernel_rfl) (by kernel_rfl) (fun _ _ _ h => h) (Or.inl ⟨by rfl, ?_⟩) (by assumption) ?_
    rotate_left
    · intro w hSw
      try dsimp only at hSw
      go_simp
      try with_reducible rfl
    simp only [Act.put, List.setIfInBounds_toArray, List.set_cons_zero, List.set_cons_succ]
    refine wpAnyH_take (i := 6) (oi := ⟨some 49, _, _, _, _, _⟩) (v := ?_) rfl (by kernel_rfl) (by kernel_rfl) (by kernel_rfl) (fun _ _ _ h => h) (Or.inl ⟨by rfl, ?_⟩) (by assumption) ?_
    rotate_left
    · intro w hSw
      try dsimp only at hSw
      go_simp
      try with_reducible rfl
    simp only [Act.put, List.setIfInBounds_toArray, List.set_cons_zero, List.set_cons_succ]
    refine wpAnyH_take (i := 7) (oi := ⟨some 50, _, _, _, _, _⟩) (v := ?_) rfl (by kernel_rfl) (by kernel_rfl) (by kernel_rfl) (fun _ _ _ h => h) (Or.inl ⟨by rfl, ?_⟩) (by assumption) ?_
    rotate_left
    · intro w hSw
      try dsimp only at hSw
      go_simp
      try with_reducible rfl
    simp only [Act.put, List.setIfInBounds_toArray, List.set_cons_zero, List.set_cons_succ]
    refine wpAnyH_take (i := 8) (oi := ⟨some 51, _, _, _, _, _⟩) (v := ?_) rfl (by kernel_rfl) (by kernel_rfl) (by kernel_rfl) (fun _ _ _ h => h) (Or.inl ⟨by rfl, ?_⟩) (by assumption) ?_
    rotate_left
    · intro w hSw
      try dsimp only at hSw
      go_simp
      try with_reducible rfl
    simp only [Act.put, List.setIfInBounds_toArray, List.set_cons_zero, List.set_cons_succ]
    refine wpAnyH_take (i := 9) (oi := ⟨some 52, _, _, _, _, _⟩) (v := ?_) rfl (by kernel_rfl) (by kernel_rfl) (by kernel_rfl) (fun _ _ _ h => h) (Or.inl ⟨by rfl, ?_⟩) (by assumption) ?_
    rotate_left
    · intro w hSw
      try dsimp only at hSw
      go_simp
      try with_reducible rfl
    simp only [Act.put, List.setIfInBounds_toArray, List.set_cons_zero, List.set_cons_succ]
    refine wpAnyH_take (i := 10) (oi := ⟨some 53, _, _, _, _, _⟩) (v := ?_) rfl (by kernel_rfl) (by kernel_rfl) (by kernel_rfl) (fun _ _ _ h => h) (Or.inl ⟨by rfl, ?_⟩) (by assumption) ?_
    rotate_left
    · intro w hSw
      try dsimp only at hSw
      go_simp
      try with_reducible rfl
    simp only [Act.put, List.setIfInBounds_toArray, List.set_cons_zero, List.set_cons_succ]
    refine wpAnyH_take (i := 11) (oi := ⟨some 54, _, _, _, _, _⟩) (v := ?_) rfl (by kernel_rfl) (by kernel_rfl) (by kernel_rfl) (fun _ _ _ h => h) (Or.inl ⟨by rfl, ?_⟩) (by assumption) ?_
    rotate_left
    · intro w hSw
      try dsimp only at hSw
      go_simp
      try with_reducible rfl
    simp only [Act.put, List.setIfInBounds_toArray, List.set_cons_zero, List.set_cons_succ]
    refine wpAnyH_take (i := 12) (oi := ⟨some 55, _, _, _, _, _⟩) (v := ?_) rfl (by kernel_rfl) (by kernel_rfl) (by kernel_rfl) (fun _ _ _ h => h) (Or.inl ⟨by rfl, ?_⟩) (by assumption) ?_
    rotate_left
    · intro w hSw
      try dsimp only at hSw
      go_simp
      try with_reducible rfl
    simp only [Act.put, List.setIfInBounds_toArray, List.set_cons_zero, List.set_cons_succ]
    refine wpAnyH_take (i := 13) (oi := ⟨some 56, _, _, _, _, _⟩) (v := ?_) rfl (by kernel_rfl) (by kernel_rfl) (by kernel_rfl) (fun _ _ _ h => h) (Or.inl ⟨by rfl, ?_⟩) (by assumption) ?_
    rotate_left
    · intro w hSw
      try dsimp only at hSw
      go_simp
      try with_reducible rfl
    simp only [Act.put, List.setIfInBounds_toArray, List.set_cons_zero, List.set_cons_succ]
    refine wpAnyH_take (i := 14) (oi := ⟨some 57, _, _, _, _, _⟩) (v := ?_) rfl (by kernel_rfl) (by kernel_rfl) (by kernel_rfl) (fun _ _ _ h => h) (Or.inl ⟨by rfl, ?_⟩) (by assumption) ?_
    rotate_left
    · intro w hSw
      try dsimp only at hSw
      go_simp
      try with_reducible rfl
    simp only [Act.put, List.setIfInBounds_toArray, List.set_cons_zero, List.set_cons_succ]
    have HE := hidP (hHeld.2.2.2)
    refine wpAnyH_done (by kernel_rfl) ?_ _
    clear hHeld
    have hb9 : Below w8.heap.size w8 w8.drew := (Below.refl _ _).drew
    have c5' := (hb9.cell hgl).trans c5
    have fz' := (hb9.frozen hgl).trans fz
    have HPU := hidP (OwnG.putU (OwnG.later oL_w8.out hb9) HN.out hq (N + span))
    generalize w8.drew = w9 at *
    clear HE HSx c0 c1 c2 c3' c4 c5 fz hgl
    have bk0_w9 := (hb9.cell bkL_w8).trans bk0_w8
    have bk1_w9 := (hb9.cell bkL_w8).trans bk1_w8
    have bk2_w9 := (hb9.cell bkL_w8).trans bk2_w8
    have bkF_w9 : ∀ o, w9.frozen? ⟨w.heap.size, o, none⟩ = false := fun o => (hb9.frozen bkL_w8).trans (bkF_w8 o)
    have bkL_w9 : w.heap.size < w9.heap.size := Nat.lt_of_lt_of_le bkL_w8 hb9.size
    have at0_w9 := (hb9.cell atL_w8).trans at0_w8
    have at1_w9 := (hb9.cell atL_w8).trans at1_w8
    have at2_w9 := (hb9.cell atL_w8).trans at2_w8
    have atF_w9 : ∀ o, w9.frozen? ⟨w.heap.size + 1, o, none⟩ = false := fun o => (hb9.frozen atL_w8).trans (atF_w8 o)
    have atL_w9 : w.heap.size + 1 < w9.heap.size := Nat.lt_of_lt_of_le atL_w8 hb9.size
    have rs0_w9 := (hb9.cell rsL_w8).trans rs0_w8
    have rs1_w9 := (hb9.cell rsL_w8).trans rs1_w8
    have rs2_w9 := (hb9.cell rsL_w8).trans rs2_w8
    have rsF_w9 : ∀ o, w9.frozen? ⟨w.heap.size + 1 + 1, o, none⟩ = false := fun o => (hb9.frozen rsL_w8).trans (rsF_w8 o)
    have rsL_w9 : w.heap.size + 1 + 1 < w9.heap.size := Nat.lt_of_lt_of_le rsL_w8 hb9.size
    have ou0_w9 := (hb9.cell ouL_w8).trans ou0_w8
    have ou1_w9 := (hb9.cell ouL_w8).trans ou1_w8
    have ou2_w9 := (hb9.cell ouL_w8).trans ou2_w8
    have ouF_w9 : ∀ o, w9.frozen? ⟨w4.heap.size, o, none⟩ = false := fun o => (hb9.frozen ouL_w8).trans (ouF_w8 o)
    have ouL_w9 : w4.heap.size < w9.heap.size := Nat.lt_of_lt_of_le ouL_w8 hb9.size
    have oL_w9 := hidP (OwnG.later oL_w8.out hb9)
    have acc_w9 := hidP (acc_w8.out.trans (hb9.mono acc_w8.out.size))
    have sz_w9 : Hid (w8.heap.size ≤ w9.heap.size) := hidP hb9.size
    clear hb9 bk0_w8 bk1_w8 bk2_w8 bkF_w8 bkL_w8 at0_w8 at1_w8 at2_w8 atF_w8 atL_w8 rs0_w8 rs1_w8 rs2_w8 rsF_w8 rsL_w8 ou0_w8 ou1_w8 ou2_w8 ouF_w8 ouL_w8 oL_w8 acc_w8
    go_wp2_with fail
    have hup : (⟨q.a, q.t, q.k, N + span⟩ : Ls) = upd N span q := by unfold upd; rw [if_pos (of_decide_eq_true hlt)]
    have hg10 : w9.grownBy (w9.setCell ⟨g3, I * 6 + 5, none⟩ (.int .i64 (N + span))) (Value.slice (some ⟨g3, 0, none⟩) n c3).ownBlock := grown_cellG w9 g3 (I * 6 + 5) _
    have OM : Hid (OwnG KLs 51 (w9.setCell ⟨g3, I * 6 + 5, none⟩ (.int .i64 (N + span))) W3.heap.size (.slice (some ⟨g3, 0, none⟩) n c3) (ls.set I (upd N span q))) := hidP (by rw [← hup]; exact HPU.out)
    generalize (w9.setCell ⟨g3, I * 6 + 5, none⟩ (.int .i64 (N + span))) = w10 at *
    clear HPU c5' fz' hup
    have nebk : ∀ k, (Value.slice (some ⟨g3, 0, none⟩) n c3).ownBlock = some k → k ≠ w.heap.size := fun k hk => by have h5 := lhL.out k hk; have := as_W1.out; have := sz_W1.out; have := as_W2.out; have := sz_W2.out; have := as_W3.out; have := sz_W3.out; have := sz_w4.out; have := as_W5.out; have := sz_W5.out; have := sz_w6.out; have := sz_w7.out; have := sz_w8.out; have := sz_w9.out; omega
    have bk0_w10 := cell_grown hg10 bk0_w9 nebk
    have bk1_w10 := cell_grown hg10 bk1_w9 nebk
    have bk2_w10 := cell_grown hg10 bk2_w9 nebk
    have bkF_w10 : ∀ o, w10.frozen? ⟨w.heap.size, o, none⟩ = false := fun o => frz_grown hg10 bkL_w9 (bkF_w9 o) nebk
    have bkL_w10 : w.heap.size < w10.heap.size := Nat.lt_of_lt_of_le bkL_w9 hg10.size
    have neat : ∀ k, (Value.slice (some ⟨g3, 0, none⟩) n c3).ownBlock = some k → k ≠ w.heap.size + 1 := fun k hk => by have h5 := lhL.out k hk; have := as_W1.out; have := sz_W1.out; have := as_W2.out; have := sz_W2.out; have := as_W3.out; have := sz_W3.out; have := sz_w4.out; have := as_W5.out; have := sz_W5.out; have := sz_w6.out; have := sz_w7.out; have := sz_w8.out; have := sz_w9.out; omega
    have at0_w10 := cell_grown hg10 at0_w9 neat
    have at1_w10 := cell_grown hg10 at1_w9 neat
    have at2_w10 := cell_grown hg10 at2_w9 neat
    have atF_w10 : ∀ o, w10.frozen? ⟨w.heap.size + 1, o, none⟩ = false := fun o => frz_grown hg10 atL_w9 (atF_w9 o) neat
    have atL_w10 : w.heap.size + 1 < w10.heap.size := Nat.lt_of_lt_of_le atL_w9 hg10.size
    have ners : ∀ k, (Value.slice (some ⟨g3, 0, none⟩) n c3).ownBlock = some k → k ≠ w.heap.size + 1 + 1 := fun k hk => by have h5 := lhL.out k hk; have := as_W1.out; have := sz_W1.out; have := as_W2.out; have := sz_W2.out; have := as_W3.out; have := sz_W3.out; have := sz_w4.out; have := as_W5.out; have := sz_W5.out; have := sz_w6.out; have := sz_w7.out; have := sz_w8.out; have := sz_w9.out; omega
    have rs0_w10 := cell_grown hg10 rs0_w9 ners
    have rs1_w10 := cell_grown hg10 rs1_w9 ners
    have rs2_w10 := cell_grown hg10 rs2_w9 ners
    have rsF_w10 : ∀ o, w10.frozen? ⟨w.heap.size + 1 + 1, o, none⟩ = false := fun o => frz_grown hg10 rsL_w9 (rsF_w9 o) ners
    have rsL_w10 : w.heap.size + 1 + 1 < w10.heap.size := Nat.lt_of_lt_of_le rsL_w9 hg10.size
    have neou : ∀ k, (Value.slice (some ⟨g3, 0, none⟩) n c3).ownBlock = some k → k ≠ w4.heap.size := fun k hk => by have h5 := lhL.out k hk; have := as_W1.out; have := sz_W1.out; have := as_W2.out; have := sz_W2.out; have := as_W3.out; have := sz_W3.out; have := sz_w4.out; have := as_W5.out; have := sz_W5.out; have := sz_w6.out; have := sz_w7.out; have := sz_w8.out; have := sz_w9.out; omega
    have ou0_w10 := cell_grown hg10 ou0_w9 neou
    have ou1_w10 := cell_grown hg10 ou1_w9 neou
    have ou2_w10 := cell_grown hg10 ou2_w9 neou
    have ouF_w10 : ∀ o, w10.frozen? ⟨w4.heap.size, o, none⟩ = false := fun o => frz_grown hg10 ouL_w9 (ouF_w9 o) neou
    have ouL_w10 : w4.heap.size < w10.heap.size := Nat.lt_of_lt_of_le ouL_w9 hg10.size
    have oL_w10 := hidP (OM.out)
    have acc_w10 := hidP (Below.grown acc_w9.out hg10 acc_w9.out.size (fun k hk => by have h5 := lhL.out k hk; have := as_W1.out; have := sz_W1.out; have := as_W2.out; have := sz_W2.out; have := as_W3.out; have := sz_W3.out; have := sz_w4.out; have := as_W5.out; have := sz_W5.out; have := sz_w6.out; have := sz_w7.out; have := sz_w8.out; have := sz_w9.out; omega))
    have sz_w10 : Hid (w9.heap.size ≤ w10.heap.size) := hidP hg10.size
    clear hg10 bk0_w9 bk1_w9 bk2_w9 bkF_w9 bkL_w9 nebk at0_w9 at1_w9 at2_w9 atF_w9 atL_w9 neat rs0_w9 rs1_w9 rs2_w9 rsF_w9 rsL_w9 ners ou0_w9 ou1_w9 ou2_w9 ouF_w9 ouL_w9 neou oL_w9 acc_w9
    clear OM
    refine bodyPost_ret (v := .tuple #[.agg #[.slice (some ⟨g3, 0, none⟩) n c3, .int .i64 T, .int .i64 N], .int .i64 0]) (by simp [results, Tryd.results7, go_sem, rs0_w10, rs1_w10, rs2_w10]) rfl ⟨_, _, rfl, ?_, ?_⟩
    · refine OwnG.mono (B := W3.heap.size) ?_ (by have := as_W1.out; have := sz_W1.out; have := as_W2.out; have := sz_W2.out; have := as_W3.out; have := sz_W3.out; have := sz_w4.out; have := as_W5.out; have := sz_W5.out; have := sz_w6.out; have := sz_w7.out; have := sz_w8.out; have := sz_w9.out; have := sz_w10.out; omega)
      iterate 3 (with_reducible refine OwnG.grown ?_ (grown_cellG _ _ _ _) ?_; rotate_left; (focus (exact OwnG.ne_of oL_w10.out (by have := as_W1.out; have := sz_W1.out; have := as_W2.out; have := sz_W2.out; have := as_W3.out; have := sz_W3.out; have := sz_w4.out; have := as_W5.out; have := sz_W5.out; have := sz_w6.out; have := sz_w7.out; have := sz_w8.out; have := sz_w9.out; have := sz_w10.out; omega))))
      with_reducible exact oL_w10.out
    · repeat (with_reducible refine Below.setCell ?_ ?_ _; rotate_left; (focus (first | (simp; done) | (simp; omega))))
      exact acc_w10.out

end Go.Proofs.YtgackacnlnagmaaDoor
