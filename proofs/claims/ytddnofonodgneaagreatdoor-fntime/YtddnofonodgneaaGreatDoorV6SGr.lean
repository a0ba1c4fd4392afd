/-
  The specification's Grant where it refuses.
-/
import Derived.Test.YtddnofonodgneaaGreatDoorV6PtD
import Derived.Test.YtddnofonodgneaaGreatDoorV6SRl
namespace Go.Proofs.YtddnofonodgneaaGreatDoor
open Go.RowKit

set_option maxRecDepth 10000 in
set_option maxHeartbeats 4000000 in
theorem sGr_form (a : Option Addr) (n c : Nat) (T N : Int) (ls : List Ls) (ad : Ad) (own : ByteArray) (span : Int) (w : World) (hn : n = ls.length) (hB : RowG KLs w a ls) (hl : n ≤ 1048576) (hc : a = none → c = 0) (hst : ∀ q ∈ ls, q.t.size ≤ 9223372036854775807) (hos : own.size ≤ 9223372036854775807) (hr : gokB ls T N ad own span = false) :
    Calls Tryz.prog 8 #[.agg #[.slice a n c, .int .i64 T, .int .i64 N], .agg #[.bool ad.s, .int .i64 ad.H.toInt, .int .i64 ad.L.toInt], .string own, .int .i64 span] w fun e w' => ∃ a' c', e = .returned (.tuple #[.agg #[.slice a' n c', .int .i64 T, .int .i64 N], .int .i64 0, .int .i64 10]) ∧ OwnG KLs 35 w' w.heap.size (.slice a' n c') (ls) ∧ Below w.heap.size w w' := by
  have HOn := hidP (fun W => sOwnerOk_any own W hos)
  have HI := hidP (l1InO_any span 1 1000)
  have HFi := hidP (fun W h => l6Find_any a n c T N ls ad W hn (hB.later h) hl)
  have HOw := hidP (fun W h => l6Copy_any (a) n c T N ls W hn (hB.later h) hc hl)
  have HSp := hidP (fun W h => sBookOk_any (a) n c T N ls W hn (hB.later h) hl hst)
  have HAd := hidP (sAddrOk_any ad.s ad.H.toInt ad.L.toInt)
  have HN := hidP hn
  have HR := hidP (fun W h => hB.later (w' := W) h)
  have hok : ad.ok = okB ad.s ad.H.toInt ad.L.toInt := rfl
  unfold gokB at hr
  rw [hok] at hr
  clear hB hn hst hok hos hc HFi HR HN
  cases hb : bkB ls T N
  · rw [hb] at HSp
    clear hr
    go_enter Tryz.func8, Tryz.ntmps8
    go_wp2_with fail
    obtain ⟨bk0_W1, bk1_W1, bk2_W1⟩ := box3B w 26 (.slice a n c) (.int .i64 T) (.int .i64 N)
    have bkF_W1 : ∀ o, (w.alloc (.cells #[.slice a n c, .int .i64 T, .int .i64 N] 26)).frozen? ⟨w.heap.size, o, none⟩ = false := fun o => by simp [go_sem]
    have bkL_W1 : w.heap.size < (w.alloc (.cells #[.slice a n c, .int .i64 T, .int .i64 N] 26)).heap.size := by simp
    have ab_W1 := alloc_below w (.cells #[.slice a n c, .int .i64 T, .int .i64 N] 26)
    have as_W1 : Hid ((w.alloc (.cells #[.slice a n c, .int .i64 T, .int .i64 N] 26)).heap.size = w.heap.size + 1) := hidP (by simp)
    generalize w.alloc (.cells #[.slice a n c, .int .i64 T, .int .i64 N] 26) = W1 at *
    have acc_W1 := hidP (ab_W1)
    have sz_W1 : Hid (w.heap.size ≤ W1.heap.size) := hidP ab_W1.size
    clear ab_W1 
    obtain ⟨at0_W2, at1_W2, at2_W2⟩ := box3B W1 28 (.bool ad.s) (.int .i64 ad.H.toInt) (.int .i64 ad.L.toInt)
    have atF_W2 : ∀ o, (W1.alloc (.cells #[.bool ad.s, .int .i64 ad.H.toInt, .int .i64 ad.L.toInt] 28)).frozen? ⟨W1.heap.size, o, none⟩ = false := fun o => by simp [go_sem]
    have atL_W2 : W1.heap.size < (W1.alloc (.cells #[.bool ad.s, .int .i64 ad.H.toInt, .int .i64 ad.L.toInt] 28)).heap.size := by simp
    have ab_W2 := alloc_below W1 (.cells #[.bool ad.s, .int .i64 ad.H.toInt, .int .i64 ad.L.toInt] 28)
    have as_W2 : Hid ((W1.alloc (.cells #[.bool ad.s, .int .i64 ad.H.toInt, .int .i64 ad.L.toInt] 28)).heap.size = W1.heap.size + 1) := hidP (by simp)
    generalize W1.alloc (.cells #[.bool ad.s, .int .i64 ad.H.toInt, .int .i64 ad.L.toInt] 28) = W2 at *
    have bk0_W2 := (ab_W2.cell bkL_W1).trans bk0_W1
    have bk1_W2 := (ab_W2.cell bkL_W1).trans bk1_W1
    have bk2_W2 := (ab_W2.cell bkL_W1).trans bk2_W1
    have bkF_W2 : ∀ o, W2.frozen? ⟨w.heap.size, o, none⟩ = false := fun o => (ab_W2.frozen bkL_W1).trans (bkF_W1 o)
    have bkL_W2 : w.heap.size < W2.heap.size := Nat.lt_of_lt_of_le bkL_W1 ab_W2.size
    have acc_W2 := hidP (acc_W1.out.trans (ab_W2.mono acc_W1.out.size))
    have sz_W2 : Hid (W1.heap.size ≤ W2.heap.size) := hidP ab_W2.size
    clear ab_W2 bk0_W1 bk1_W1 bk2_W1 bkF_W1 bkL_W1 acc_W1
    rw [as_W1.out] at at0_W2 at1_W2 at2_W2 atL_W2
    have atF_W2' : ∀ o, W2.frozen? ⟨w.heap.size + 1, o, none⟩ = false := fun o => by have := atF_W2 o; rw [as_W1.out] at this; exact this
    clear atF_W2
    have atF_W2 := atF_W2'
    clear atF_W2'
    obtain ⟨rs0_W3, rs1_W3, rs2_W3⟩ := box3B W2 26 (.slice none 0 0) (.int .i64 0) (.int .i64 0)
    have rsF_W3 : ∀ o, (W2.alloc (.cells #[.slice none 0 0, .int .i64 0, .int .i64 0] 26)).frozen? ⟨W2.heap.size, o, none⟩ = false := fun o => by simp [go_sem]
    have rsL_W3 : W2.heap.size < (W2.alloc (.cells #[.slice none 0 0, .int .i64 0, .int .i64 0] 26)).heap.size := by simp
    have ab_W3 := alloc_below W2 (.cells #[.slice none 0 0, .int .i64 0, .int .i64 0] 26)
    have as_W3 : Hid ((W2.alloc (.cells #[.slice none 0 0, .int .i64 0, .int .i64 0] 26)).heap.size = W2.heap.size + 1) := hidP (by simp)
    generalize W2.alloc (.cells #[.slice none 0 0, .int .i64 0, .int .i64 0] 26) = W3 at *
    have bk0_W3 := (ab_W3.cell bkL_W2).trans bk0_W2
    have bk1_W3 := (ab_W3.cell bkL_W2).trans bk1_W2
    have bk2_W3 := (ab_W3.cell bkL_W2).trans bk2_W2
    have bkF_W3 : ∀ o, W3.frozen? ⟨w.heap.size, o, none⟩ = false := fun o => (ab_W3.frozen bkL_W2).trans (bkF_W2 o)
    have bkL_W3 : w.heap.size < W3.heap.size := Nat.lt_of_lt_of_le bkL_W2 ab_W3.size
    have at0_W3 := (ab_W3.cell atL_W2).trans at0_W2
    have at1_W3 := (ab_W3.cell atL_W2).trans at1_W2
    have at2_W3 := (ab_W3.cell atL_W2).trans at2_W2
    have atF_W3 : ∀ o, W3.frozen? ⟨w.heap.size + 1, o, none⟩ = false := fun o => (ab_W3.frozen atL_W2).trans (atF_W2 o)
    have atL_W3 : w.heap.size + 1 < W3.heap.size := Nat.lt_of_lt_of_le atL_W2 ab_W3.size
    have acc_W3 := hidP (acc_W2.out.trans (ab_W3.mono acc_W2.out.size))
    have sz_W3 : Hid (W2.heap.size ≤ W3.heap.size) := hidP ab_W3.size
    clear ab_W3 bk0_W2 bk1_W2 bk2_W2 bkF_W2 bkL_W2 at0_W2 at1_W2 at2_W2 atF_W2 atL_W2 acc_W2
    rw [as_W2.out, as_W1.out] at rs0_W3 rs1_W3 rs2_W3 rsL_W3
    have rsF_W3' : ∀ o, W3.frozen? ⟨w.heap.size + 1 + 1, o, none⟩ = false := fun o => by have := rsF_W3 o; rw [as_W2.out, as_W1.out] at this; exact this
    clear rsF_W3
    have rsF_W3 := rsF_W3'
    clear rsF_W3'
    refine (HOw.out _ acc_W3.out).mono ?_
    rintro e w4 ⟨a3, c3, rfl, og3, hb4⟩
    have og3' := hidP og3
    clear og3
    have bk0_w4 := (hb4.cell bkL_W3).trans bk0_W3
    have bk1_w4 := (hb4.cell bkL_W3).trans bk1_W3
    have bk2_w4 := (hb4.cell bkL_W3).trans bk2_W3
    have bkF_w4 : ∀ o, w4.frozen? ⟨w.heap.size, o, none⟩ = false := fun o => (hb4.frozen bkL_W3).trans (bkF_W3 o)
    have bkL_w4 : w.heap.size < w4.heap.size := Nat.lt_of_lt_of_le bkL_W3 hb4.size
    have at0_w4 := (hb4.cell atL_W3).trans at0_W3
    have at1_w4 := (hb4.cell atL_W3).trans at1_W3
    have at2_w4 := (hb4.cell atL_W3).trans at2_W3
    have atF_w4 : ∀ o, w4.frozen? ⟨w.heap.size + 1, o, none⟩ = false := fun o => (hb4.frozen atL_W3).trans (atF_W3 o)
    have atL_w4 : w.heap.size + 1 < w4.heap.size := Nat.lt_of_lt_of_le atL_W3 hb4.size
    have rs0_w4 := (hb4.cell rsL_W3).trans rs0_W3
    have rs1_w4 := (hb4.cell rsL_W3).trans rs1_W3
    have rs2_w4 := (hb4.cell rsL_W3).trans rs2_W3
    have rsF_w4 : ∀ o, w4.frozen? ⟨w.heap.size + 1 + 1, o, none⟩ = false := fun o => (hb4.frozen rsL_W3).trans (rsF_W3 o)
    have rsL_w4 : w.heap.size + 1 + 1 < w4.heap.size := Nat.lt_of_lt_of_le rsL_W3 hb4.size
    have acc_w4 := hidP (acc_W3.out.trans (hb4.mono acc_W3.out.size))
    have sz_w4 : Hid (W3.heap.size ≤ w4.heap.size) := hidP hb4.size
    clear hb4 bk0_W3 bk1_W3 bk2_W3 bkF_W3 bkL_W3 at0_W3 at1_W3 at2_W3 atF_W3 atL_W3 rs0_W3 rs1_W3 rs2_W3 rsF_W3 rsL_W3 acc_W3
    have oL_w4 := hidP (og3'.out)
    have lhL : Hid (∀ k, (Value.slice a3 n c3).ownBlock = some k → W3.heap.size ≤ k ∧ k < w4.heap.size) := hidP (fun k hk => OwnG.lt oL_w4.out k hk)
    clear og3'
    go_wp2_with fail
    obtain ⟨ou0_W5, ou1_W5, ou2_W5⟩ := box3B w4 26 (.slice a3 n c3) (.int .i64 T) (.int .i64 N)
    have ouF_W5 : ∀ o, (w4.alloc (.cells #[.slice a3 n c3, .int .i64 T, .int .i64 N] 26)).frozen? ⟨w4.heap.size, o, none⟩ = false := fun o => by simp [go_sem]
    have ouL_W5 : w4.heap.size < (w4.alloc (.cells #[.slice a3 n c3, .int .i64 T, .int .i64 N] 26)).heap.size := by simp
    have ab_W5 := alloc_below w4 (.cells #[.slice a3 n c3, .int .i64 T, .int .i64 N] 26)
    have as_W5 : Hid ((w4.alloc (.cells #[.slice a3 n c3, .int .i64 T, .int .i64 N] 26)).heap.size = w4.heap.size + 1) := hidP (by simp)
    generalize w4.alloc (.cells #[.slice a3 n c3, .int .i64 T, .int .i64 N] 26) = W5 at *
    have bk0_W5 := (ab_W5.cell bkL_w4).trans bk0_w4
    have bk1_W5 := (ab_W5.cell bkL_w4).trans bk1_w4
    have bk2_W5 := (ab_W5.cell bkL_w4).trans bk2_w4
    have bkF_W5 : ∀ o, W5.frozen? ⟨w.heap.size, o, none⟩ = false := fun o => (ab_W5.frozen bkL_w4).trans (bkF_w4 o)
    have bkL_W5 : w.heap.size < W5.heap.size := Nat.lt_of_lt_of_le bkL_w4 ab_W5.size
    have at0_W5 := (ab_W5.cell atL_w4).trans at0_w4
    have at1_W5 := (ab_W5.cell atL_w4).trans at1_w4
    have at2_W5 := (ab_W5.cell atL_w4).trans at2_w4
    have atF_W5 : ∀ o, W5.frozen? ⟨w.heap.size + 1, o, none⟩ = false := fun o => (ab_W5.frozen atL_w4).trans (atF_w4 o)
    have atL_W5 : w.heap.size + 1 < W5.heap.size := Nat.lt_of_lt_of_le atL_w4 ab_W5.size
    have rs0_W5 := (ab_W5.cell rsL_w4).trans rs0_w4
    have rs1_W5 := (ab_W5.cell rsL_w4).trans rs1_w4
    have rs2_W5 := (ab_W5.cell rsL_w4).trans rs2_w4
    have rsF_W5 : ∀ o, W5.frozen? ⟨w.heap.size + 1 + 1, o, none⟩ = false := fun o => (ab_W5.frozen rsL_w4).trans (rsF_w4 o)
    have rsL_W5 : w.heap.size + 1 + 1 < W5.heap.size := Nat.lt_of_lt_of_le rsL_w4 ab_W5.size
    have oL_W5 := hidP (OwnG.later oL_w4.out ab_W5)
    have acc_W5 := hidP (acc_w4.out.trans (ab_W5.mono acc_w4.out.size))
    have sz_W5 : Hid (w4.heap.size ≤ W5.heap.size) := hidP ab_W5.size
    clear ab_W5 bk0_w4 bk1_w4 bk2_w4 bkF_w4 bkL_w4 at0_w4 at1_w4 at2_w4 atF_w4 atL_w4 rs0_w4 rs1_w4 rs2_w4 rsF_w4 rsL_w4 oL_w4 acc_w4
    refine (HSp.out _ acc_W5.out).mono ?_
    rintro e w6 ⟨rfl, hb6⟩
    have bk0_w6 := (hb6.cell bkL_W5).trans bk0_W5
    have bk1_w6 := (hb6.cell bkL_W5).trans bk1_W5
    have bk2_w6 := (hb6.cell bkL_W5).trans bk2_W5
    have bkF_w6 : ∀ o, w6.frozen? ⟨w.heap.size, o, none⟩ = false := fun o => (hb6.frozen bkL_W5).trans (bkF_W5 o)
    have bkL_w6 : w.heap.size < w6.heap.size := Nat.lt_of_lt_of_le bkL_W5 hb6.size
    have at0_w6 := (hb6.cell atL_W5).trans at0_W5
    have at1_w6 := (hb6.cell atL_W5).trans at1_W5
    have at2_w6 := (hb6.cell atL_W5).trans at2_W5
    have atF_w6 : ∀ o, w6.frozen? ⟨w.heap.size + 1, o, none⟩ = false := fun o => (hb6.frozen atL_W5).trans (atF_W5 o)
    have atL_w6 : w.heap.size + 1 < w6.heap.size := Nat.lt_of_lt_of_le atL_W5 hb6.size
    have rs0_w6 := (hb6.cell rsL_W5).trans rs0_W5
    have rs1_w6 := (hb6.cell rsL_W5).trans rs1_W5
    have rs2_w6 := (hb6.cell rsL_W5).trans rs2_W5
    have rsF_w6 : ∀ o, w6.frozen? ⟨w.heap.size + 1 + 1, o, none⟩ = false := fun o => (hb6.frozen rsL_W5).trans (rsF_W5 o)
    have rsL_w6 : w.heap.size + 1 + 1 < w6.heap.size := Nat.lt_of_lt_of_le rsL_W5 hb6.size
    have ou0_w6 := (hb6.cell ouL_W5).trans ou0_W5
    have ou1_w6 := (hb6.cell ouL_W5).trans ou1_W5
    have ou2_w6 := (hb6.cell ouL_W5).trans ou2_W5
    have ouF_w6 : ∀ o, w6.frozen? ⟨w4.heap.size, o, none⟩ = false := fun o => (hb6.frozen ouL_W5).trans (ouF_W5 o)
    have ouL_w6 : w4.heap.size < w6.heap.size := Nat.lt_of_lt_of_le ouL_W5 hb6.size
    have oL_w6 := hidP (OwnG.later oL_W5.out hb6)
    have acc_w6 := hidP (acc_W5.out.trans (hb6.mono acc_W5.out.size))
    have sz_w6 : Hid (W5.heap.size ≤ w6.heap.size) := hidP hb6.size
    clear hb6 bk0_W5 bk1_W5 bk2_W5 bkF_W5 bkL_W5 at0_W5 at1_W5 at2_W5 atF_W5 atL_W5 rs0_W5 rs1_W5 rs2_W5 rsF_W5 rsL_W5 ou0_W5 ou1_W5 ou2_W5 ouF_W5 ouL_W5 oL_W5 acc_W5
    go_wp2_with fail
    refine bodyPost_ret (v := .tuple #[.agg #[.slice a3 n c3, .int .i64 T, .int .i64 N], .int .i64 0, .int .i64 10]) (by simp [results, Tryz.results8, go_sem, rs0_w6, rs1_w6, rs2_w6]) rfl ⟨_, _, rfl, ?_, ?_⟩
    · refine OwnG.mono (B := W3.heap.size) ?_ (by have := as_W1.out; have := sz_W1.out; have := as_W2.out; have := sz_W2.out; have := as_W3.out; have := sz_W3.out; have := sz_w4.out; have := as_W5.out; have := sz_W5.out; have := sz_w6.out; omega)
      iterate 3 (with_reducible refine OwnG.grown ?_ (grown_cellG _ _ _ _) ?_; rotate_left; (focus (exact OwnG.ne_of oL_w6.out (by have := as_W1.out; have := sz_W1.out; have := as_W2.out; have := sz_W2.out; have := as_W3.out; have := sz_W3.out; have := sz_w4.out; have := as_W5.out; have := sz_W5.out; have := sz_w6.out; omega))))
      with_reducible exact oL_w6.out
    · repeat (with_reducible refine Below.setCell ?_ ?_ _; rotate_left; (focus (first | (simp; done) | (simp; omega))))
      exact acc_w6.out
  · have hnow := bk_now hb
    rw [hb] at HSp hr
    rw [Bool.true_and] at hr
    clear hb
    cases ho : okB ad.s ad.H.toInt ad.L.toInt
    · rw [ho] at HAd
      clear hr
      go_enter Tryz.func8, Tryz.ntmps8
      go_wp2_with fail
      obtain ⟨bk0_W1, bk1_W1, bk2_W1⟩ := box3B w 26 (.slice a n c) (.int .i64 T) (.int .i64 N)
      have bkF_W1 : ∀ o, (w.alloc (.cells #[.slice a n c, .int .i64 T, .int .i64 N] 26)).frozen? ⟨w.heap.size, o, none⟩ = false := fun o => by simp [go_sem]
      have bkL_W1 : w.heap.size < (w.alloc (.cells #[.slice a n c, .int .i64 T, .int .i64 N] 26)).heap.size := by simp
      have ab_W1 := alloc_below w (.cells #[.slice a n c, .int .i64 T, .int .i64 N] 26)
      have as_W1 : Hid ((w.alloc (.cells #[.slice a n c, .int .i64 T, .int .i64 N] 26)).heap.size = w.heap.size + 1) := hidP (by simp)
      generalize w.alloc (.cells #[.slice a n c, .int .i64 T, .int .i64 N] 26) = W1 at *
      have acc_W1 := hidP (ab_W1)
      have sz_W1 : Hid (w.heap.size ≤ W1.heap.size) := hidP ab_W1.size
      clear ab_W1 
      obtain ⟨at0_W2, at1_W2, at2_W2⟩ := box3B W1 28 (.bool ad.s) (.int .i64 ad.H.toInt) (.int .i64 ad.L.toInt)
      have atF_W2 : ∀ o, (W1.alloc (.cells #[.bool ad.s, .int .i64 ad.H.toInt, .int .i64 ad.L.toInt] 28)).frozen? ⟨W1.heap.size, o, none⟩ = false := fun o => by simp [go_sem]
      have atL_W2 : W1.heap.size < (W1.alloc (.cells #[.bool ad.s, .int .i64 ad.H.toInt, .int .i64 ad.L.toInt] 28)).heap.size := by simp
      have ab_W2 := alloc_below W1 (.cells #[.bool ad.s, .int .i64 ad.H.toInt, .int .i64 ad.L.toInt] 28)
      have as_W2 : Hid ((W1.alloc (.cells #[.bool ad.s, .int .i64 ad.H.toInt, .int .i64 ad.L.toInt] 28)).heap.size = W1.heap.size + 1) := hidP (by simp)
      generalize W1.alloc (.cells #[.bool ad.s, .int .i64 ad.H.toInt, .int .i64 ad.L.toInt] 28) = W2 at *
      have bk0_W2 := (ab_W2.cell bkL_W1).trans bk0_W1
      have bk1_W2 := (ab_W2.cell bkL_W1).trans bk1_W1
      have bk2_W2 := (ab_W2.cell bkL_W1).trans bk2_W1
      have bkF_W2 : ∀ o, W2.frozen? ⟨w.heap.size, o, none⟩ = false := fun o => (ab_W2.frozen bkL_W1).trans (bkF_W1 o)
      have bkL_W2 : w.heap.size < W2.heap.size := Nat.lt_of_lt_of_le bkL_W1 ab_W2.size
      have acc_W2 := hidP (acc_W1.out.trans (ab_W2.mono acc_W1.out.size))
      have sz_W2 : Hid (W1.heap.size ≤ W2.heap.size) := hidP ab_W2.size
      clear ab_W2 bk0_W1 bk1_W1 bk2_W1 bkF_W1 bkL_W1 acc_W1
      rw [as_W1.out] at at0_W2 at1_W2 at2_W2 atL_W2
      have atF_W2' : ∀ o, W2.frozen? ⟨w.heap.size + 1, o, none⟩ = false := fun o => by have := atF_W2 o; rw [as_W1.out] at this; exact this
      clear atF_W2
      have atF_W2 := atF_W2'
      clear atF_W2'
      obtain ⟨rs0_W3, rs1_W3, rs2_W3⟩ := box3B W2 26 (.slice none 0 0) (.int .i64 0) (.int .i64 0)
      have rsF_W3 : ∀ o, (W2.alloc (.cells #[.slice none 0 0, .int .i64 0, .int .i64 0] 26)).frozen? ⟨W2.heap.size, o, none⟩ = false := fun o => by simp [go_sem]
      have rsL_W3 : W2.heap.size < (W2.alloc (.cells #[.slice none 0 0, .int .i64 0, .int .i64 0] 26)).heap.size := by simp
      have ab_W3 := alloc_below W2 (.cells #[.slice none 0 0, .int .i64 0, .int .i64 0] 26)
      have as_W3 : Hid ((W2.alloc (.cells #[.slice none 0 0, .int .i64 0, .int .i64 0] 26)).heap.size = W2.heap.size + 1) := hidP (by simp)
      generalize W2.alloc (.cells #[.slice none 0 0, .int .i64 0, .int .i64 0] 26) = W3 at *
      have bk0_W3 := (ab_W3.cell bkL_W2).trans bk0_W2
      have bk1_W3 := (ab_W3.cell bkL_W2).trans bk1_W2
      have bk2_W3 := (ab_W3.cell bkL_W2).trans bk2_W2
      have bkF_W3 : ∀ o, W3.frozen? ⟨w.heap.size, o, none⟩ = false := fun o => (ab_W3.frozen bkL_W2).trans (bkF_W2 o)
      have bkL_W3 : w.heap.size < W3.heap.size := Nat.lt_of_lt_of_le bkL_W2 ab_W3.size
      have at0_W3 := (ab_W3.cell atL_W2).trans at0_W2
      have at1_W3 := (ab_W3.cell atL_W2).trans at1_W2
      have at2_W3 := (ab_W3.cell atL_W2).trans at2_W2
      have atF_W3 : ∀ o, W3.frozen? ⟨w.heap.size + 1, o, none⟩ = false := fun o => (ab_W3.frozen atL_W2).trans (atF_W2 o)
      have atL_W3 : w.heap.size + 1 < W3.heap.size := Nat.lt_of_lt_of_le atL_W2 ab_W3.size
      have acc_W3 := hidP (acc_W2.out.trans (ab_W3.mono acc_W2.out.size))
      have sz_W3 : Hid (W2.heap.size ≤ W3.heap.size) := hidP ab_W3.size
      clear ab_W3 bk0_W2 bk1_W2 bk2_W2 bkF_W2 bkL_W2 at0_W2 at1_W2 at2_W2 atF_W2 atL_W2 acc_W2
      rw [as_W2.out, as_W1.out] at rs0_W3 rs1_W3 rs2_W3 rsL_W3
      have rsF_W3' : ∀ o, W3.frozen? ⟨w.heap.size + 1 + 1, o, none⟩ = false := fun o => by have := rsF_W3 o; rw [as_W2.out, as_W1.out] at this; exact this
      clear rsF_W3
      have rsF_W3 := rsF_W3'
      clear rsF_W3'
      refine (HOw.out _ acc_W3.out).mono ?_
      rintro e w4 ⟨a3, c3, rfl, og3, hb4⟩
      have og3' := hidP og3
      clear og3
      have bk0_w4 := (hb4.cell bkL_W3).trans bk0_W3
      have bk1_w4 := (hb4.cell bkL_W3).trans bk1_W3
      have bk2_w4 := (hb4.cell bkL_W3).trans bk2_W3
      have bkF_w4 : ∀ o, w4.frozen? ⟨w.heap.size, o, none⟩ = false := fun o => (hb4.frozen bkL_W3).trans (bkF_W3 o)
      have bkL_w4 : w.heap.size < w4.heap.size := Nat.lt_of_lt_of_le bkL_W3 hb4.size
      have at0_w4 := (hb4.cell atL_W3).trans at0_W3
      have at1_w4 := (hb4.cell atL_W3).trans at1_W3
      have at2_w4 := (hb4.cell atL_W3).trans at2_W3
      have atF_w4 : ∀ o, w4.frozen? ⟨w.heap.size + 1, o, none⟩ = false := fun o => (hb4.frozen atL_W3).trans (atF_W3 o)
      have atL_w4 : w.heap.size + 1 < w4.heap.size := Nat.lt_of_lt_of_le atL_W3 hb4.size
      have rs0_w4 := (hb4.cell rsL_W3).trans rs0_W3
      have rs1_w4 := (hb4.cell rsL_W3).trans rs1_W3
      have rs2_w4 := (hb4.cell rsL_W3).trans rs2_W3
      have rsF_w4 : ∀ o, w4.frozen? ⟨w.heap.size + 1 + 1, o, none⟩ = false := fun o => (hb4.frozen rsL_W3).trans (rsF_W3 o)
      have rsL_w4 : w.heap.size + 1 + 1 < w4.heap.size := Nat.lt_of_lt_of_le rsL_W3 hb4.size
      have acc_w4 := hidP (acc_W3.out.trans (hb4.mono acc_W3.out.size))
      have sz_w4 : Hid (W3.heap.size ≤ w4.heap.size) := hidP hb4.size
      clear hb4 bk0_W3 bk1_W3 bk2_W3 bkF_W3 bkL_W3 at0_W3 at1_W3 at2_W3 atF_W3 atL_W3 rs0_W3 rs1_W3 rs2_W3 rsF_W3 rsL_W3 acc_W3
      have oL_w4 := hidP (og3'.out)
      have lhL : Hid (∀ k, (Value.slice a3 n c3).ownBlock = some k → W3.heap.size ≤ k ∧ k < w4.heap.size) := hidP (fun k hk => OwnG.lt oL_w4.out k hk)
      clear og3'
      go_wp2_with fail
      obtain ⟨ou0_W5, ou1_W5, ou2_W5⟩ := box3B w4 26 (.slice a3 n c3) (.int .i64 T) (.int .i64 N)
      have ouF_W5 : ∀ o, (w4.alloc (.cells #[.slice a3 n c3, .int .i64 T, .int .i64 N] 26)).frozen? ⟨w4.heap.size, o, none⟩ = false := fun o => by simp [go_sem]
      have ouL_W5 : w4.heap.size < (w4.alloc (.cells #[.slice a3 n c3, .int .i64 T, .int .i64 N] 26)).heap.size := by simp
      have ab_W5 := alloc_below w4 (.cells #[.slice a3 n c3, .int .i64 T, .int .i64 N] 26)
      have as_W5 : Hid ((w4.alloc (.cells #[.slice a3 n c3, .int .i64 T, .int .i64 N] 26)).heap.size = w4.heap.size + 1) := hidP (by simp)
      generalize w4.alloc (.cells #[.slice a3 n c3, .int .i64 T, .int .i64 N] 26) = W5 at *
      have bk0_W5 := (ab_W5.cell bkL_w4).trans bk0_w4
      have bk1_W5 := (ab_W5.cell bkL_w4).trans bk1_w4
      have bk2_W5 := (ab_W5.cell bkL_w4).trans bk2_w4
      have bkF_W5 : ∀ o, W5.frozen? ⟨w.heap.size, o, none⟩ = false := fun o => (ab_W5.frozen bkL_w4).trans (bkF_w4 o)
      have bkL_W5 : w.heap.size < W5.heap.size := Nat.lt_of_lt_of_le bkL_w4 ab_W5.size
      have at0_W5 := (ab_W5.cell atL_w4).trans at0_w4
      have at1_W5 := (ab_W5.cell atL_w4).trans at1_w4
      have at2_W5 := (ab_W5.cell atL_w4).trans at2_w4
      have atF_W5 : ∀ o, W5.frozen? ⟨w.heap.size + 1, o, none⟩ = false := fun o => (ab_W5.frozen atL_w4).trans (atF_w4 o)
      have atL_W5 : w.heap.size + 1 < W5.heap.size := Nat.lt_of_lt_of_le atL_w4 ab_W5.size
      have rs0_W5 := (ab_W5.cell rsL_w4).trans rs0_w4
      have rs1_W5 := (ab_W5.cell rsL_w4).trans rs1_w4
      have rs2_W5 := (ab_W5.cell rsL_w4).trans rs2_w4
      have rsF_W5 : ∀ o, W5.frozen? ⟨w.heap.size + 1 + 1, o, none⟩ = false := fun o => (ab_W5.frozen rsL_w4).trans (rsF_w4 o)
      have rsL_W5 : w.heap.size + 1 + 1 < W5.heap.size := Nat.lt_of_lt_of_le rsL_w4 ab_W5.size
      have oL_W5 := hidP (OwnG.later oL_w4.out ab_W5)
      have acc_W5 := hidP (acc_w4.out.trans (ab_W5.mono acc_w4.out.size))
      have sz_W5 : Hid (w4.heap.size ≤ W5.heap.size) := hidP ab_W5.size
      clear ab_W5 bk0_w4 bk1_w4 bk2_w4 bkF_w4 bkL_w4 at0_w4 at1_w4 at2_w4 atF_w4 atL_w4 rs0_w4 rs1_w4 rs2_w4 rsF_w4 rsL_w4 oL_w4 acc_w4
      refine (HSp.out _ acc_W5.out).mono ?_
      rintro e w6 ⟨rfl, hb6⟩
      have bk0_w6 := (hb6.cell bkL_W5).trans bk0_W5
      have bk1_w6 := (hb6.cell bkL_W5).trans bk1_W5
      have bk2_w6 := (hb6.cell bkL_W5).trans bk2_W5
      have bkF_w6 : ∀ o, w6.frozen? ⟨w.heap.size, o, none⟩ = false := fun o => (hb6.frozen bkL_W5).trans (bkF_W5 o)
      have bkL_w6 : w.heap.size < w6.heap.size := Nat.lt_of_lt_of_le bkL_W5 hb6.size
      have at0_w6 := (hb6.cell atL_W5).trans at0_W5
      have at1_w6 := (hb6.cell atL_W5).trans at1_W5
      have at2_w6 := (hb6.cell atL_W5).trans at2_W5
      have atF_w6 : ∀ o, w6.frozen? ⟨w.heap.size + 1, o, none⟩ = false := fun o => (hb6.frozen atL_W5).trans (atF_W5 o)
      have atL_w6 : w.heap.size + 1 < w6.heap.size := Nat.lt_of_lt_of_le atL_W5 hb6.size
      have rs0_w6 := (hb6.cell rsL_W5).trans rs0_W5
      have rs1_w6 := (hb6.cell rsL_W5).trans rs1_W5
      have rs2_w6 := (hb6.cell rsL_W5).trans rs2_W5
      have rsF_w6 : ∀ o, w6.frozen? ⟨w.heap.size + 1 + 1, o, none⟩ = false := fun o => (hb6.frozen rsL_W5).trans (rsF_W5 o)
      have rsL_w6 : w.heap.size + 1 + 1 < w6.heap.size := Nat.lt_of_lt_of_le rsL_W5 hb6.size
      have ou0_w6 := (hb6.cell ouL_W5).trans ou0_W5
      have ou1_w6 := (hb6.cell ouL_W5).trans ou1_W5
      have ou2_w6 := (hb6.cell ouL_W5).trans ou2_W5
      have ouF_w6 : ∀ o, w6.frozen? ⟨w4.heap.size, o, none⟩ = false := fun o => (hb6.frozen ouL_W5).trans (ouF_W5 o)
      have ouL_w6 : w4.heap.size < w6.heap.size := Nat.lt_of_lt_of_le ouL_W5 hb6.size
      have oL_w6 := hidP (OwnG.later oL_W5.out hb6)
      have acc_w6 := hidP (acc_W5.out.trans (hb6.mono acc_W5.out.size))
      have sz_w6 : Hid (W5.heap.size ≤ w6.heap.size) := hidP hb6.size
      clear hb6 bk0_W5 bk1_W5 bk2_W5 bkF_W5 bkL_W5 at0_W5 at1_W5 at2_W5 atF_W5 atL_W5 rs0_W5 rs1_W5 rs2_W5 rsF_W5 rsL_W5 ou0_W5 ou1_W5 ou2_W5 ouF_W5 ouL_W5 oL_W5 acc_W5
      go_wp2_with fail
      refine (HAd.out _).mono ?_
      rintro e w7 ⟨rfl, hb7⟩
      have bk0_w7 := (hb7.cell bkL_w6).trans bk0_w6
      have bk1_w7 := (hb7.cell bkL_w6).trans bk1_w6
      have bk2_w7 := (hb7.cell bkL_w6).trans bk2_w6
      have bkF_w7 : ∀ o, w7.frozen? ⟨w.heap.size, o, none⟩ = false := fun o => (hb7.frozen bkL_w6).trans (bkF_w6 o)
      have bkL_w7 : w.heap.size < w7.heap.size := Nat.lt_of_lt_of_le bkL_w6 hb7.size
      have at0_w7 := (hb7.cell atL_w6).trans at0_w6
      have at1_w7 := (hb7.cell atL_w6).trans at1_w6
      have at2_w7 := (hb7.cell atL_w6).trans at2_w6
      have atF_w7 : ∀ o, w7.frozen? ⟨w.heap.size + 1, o, none⟩ = false := fun o => (hb7.frozen atL_w6).trans (atF_w6 o)
      have atL_w7 : w.heap.size + 1 < w7.heap.size := Nat.lt_of_lt_of_le atL_w6 hb7.size
      have rs0_w7 := (hb7.cell rsL_w6).trans rs0_w6
      have rs1_w7 := (hb7.cell rsL_w6).trans rs1_w6
      have rs2_w7 := (hb7.cell rsL_w6).trans rs2_w6
      have rsF_w7 : ∀ o, w7.frozen? ⟨w.heap.size + 1 + 1, o, none⟩ = false := fun o => (hb7.frozen rsL_w6).trans (rsF_w6 o)
      have rsL_w7 : w.heap.size + 1 + 1 < w7.heap.size := Nat.lt_of_lt_of_le rsL_w6 hb7.size
      have ou0_w7 := (hb7.cell ouL_w6).trans ou0_w6
      have ou1_w7 := (hb7.cell ouL_w6).trans ou1_w6
      have ou2_w7 := (hb7.cell ouL_w6).trans ou2_w6
      have ouF_w7 : ∀ o, w7.frozen? ⟨w4.heap.size, o, none⟩ = false := fun o => (hb7.frozen ouL_w6).trans (ouF_w6 o)
      have ouL_w7 : w4.heap.size < w7.heap.size := Nat.lt_of_lt_of_le ouL_w6 hb7.size
      have oL_w7 := hidP (OwnG.later oL_w6.out hb7)
      have acc_w7 := hidP (acc_w6.out.trans (hb7.mono acc_w6.out.size))
      have sz_w7 : Hid (w6.heap.size ≤ w7.heap.size) := hidP hb7.size
      clear hb7 bk0_w6 bk1_w6 bk2_w6 bkF_w6 bkL_w6 at0_w6 at1_w6 at2_w6 atF_w6 atL_w6 rs0_w6 rs1_w6 rs2_w6 rsF_w6 rsL_w6 ou0_w6 ou1_w6 ou2_w6 ouF_w6 ouL_w6 oL_w6 acc_w6
      go_wp2_with fail
      refine bodyPost_ret (v := .tuple #[.agg #[.slice a3 n c3, .int .i64 T, .int .i64 N], .int .i64 0, .int .i64 10]) (by simp [results, Tryz.results8, go_sem, rs0_w7, rs1_w7, rs2_w7]) rfl ⟨_, _, rfl, ?_, ?_⟩
      · refine OwnG.mono (B := W3.heap.size) ?_ (by have := as_W1.out; have := sz_W1.out; have := as_W2.out; have := sz_W2.out; have := as_W3.out; have := sz_W3.out; have := sz_w4.out; have := as_W5.out; have := sz_W5.out; have := sz_w6.out; have := sz_w7.out; omega)
        iterate 3 (with_reducible refine OwnG.grown ?_ (grown_cellG _ _ _ _) ?_; rotate_left; (focus (exact OwnG.ne_of oL_w7.out (by have := as_W1.out; have := sz_W1.out; have := as_W2.out; have := sz_W2.out; have := as_W3.out; have := sz_W3.out; have := sz_w4.out; have := as_W5.out; have := sz_W5.out; have := sz_w6.out; have := sz_w7.out; omega))))
        with_reducible exact oL_w7.out
      · repeat (with_reducible refine Below.setCell ?_ ?_ _; rotate_left; (focus (first | (simp; done) | (simp; omega))))
        exact acc_w7.out
    · rw [ho] at HAd hr
      rw [Bool.true_and] at hr
      clear ho
      cases hw : ownB own
      · rw [hw] at HOn
        clear hr
        go_enter Tryz.func8, Tryz.ntmps8
        go_wp2_with fail
        obtain ⟨bk0_W1, bk1_W1, bk2_W1⟩ := box3B w 26 (.slice a n c) (.int .i64 T) (.int .i64 N)
        have bkF_W1 : ∀ o, (w.alloc (.cells #[.slice a n c, .int .i64 T, .int .i64 N] 26)).frozen? ⟨w.heap.size, o, none⟩ = false := fun o => by simp [go_sem]
        have bkL_W1 : w.heap.size < (w.alloc (.cells #[.slice a n c, .int .i64 T, .int .i64 N] 26)).heap.size := by simp
        have ab_W1 := alloc_below w (.cells #[.slice a n c, .int .i64 T, .int .i64 N] 26)
        have as_W1 : Hid ((w.alloc (.cells #[.slice a n c, .int .i64 T, .int .i64 N] 26)).heap.size = w.heap.size + 1) := hidP (by simp)
        generalize w.alloc (.cells #[.slice a n c, .int .i64 T, .int .i64 N] 26) = W1 at *
        have acc_W1 := hidP (ab_W1)
        have sz_W1 : Hid (w.heap.size ≤ W1.heap.size) := hidP ab_W1.size
        clear ab_W1 
        obtain ⟨at0_W2, at1_W2, at2_W2⟩ := box3B W1 28 (.bool ad.s) (.int .i64 ad.H.toInt) (.int .i64 ad.L.toInt)
        have atF_W2 : ∀ o, (W1.alloc (.cells #[.bool ad.s, .int .i64 ad.H.toInt, .int .i64 ad.L.toInt] 28)).frozen? ⟨W1.heap.size, o, none⟩ = false := fun o => by simp [go_sem]
        have atL_W2 : W1.heap.size < (W1.alloc (.cells #[.bool ad.s, .int .i64 ad.H.toInt, .int .i64 ad.L.toInt] 28)).heap.size := by simp
        have ab_W2 := alloc_below W1 (.cells #[.bool ad.s, .int .i64 ad.H.toInt, .int .i64 ad.L.toInt] 28)
        have as_W2 : Hid ((W1.alloc (.cells #[.bool ad.s, .int .i64 ad.H.toInt, .int .i64 ad.L.toInt] 28)).heap.size = W1.heap.size + 1) := hidP (by simp)
        generalize W1.alloc (.cells #[.bool ad.s, .int .i64 ad.H.toInt, .int .i64 ad.L.toInt] 28) = W2 at *
        have bk0_W2 := (ab_W2.cell bkL_W1).trans bk0_W1
        have bk1_W2 := (ab_W2.cell bkL_W1).trans bk1_W1
        have bk2_W2 := (ab_W2.cell bkL_W1).trans bk2_W1
        have bkF_W2 : ∀ o, W2.frozen? ⟨w.heap.size, o, none⟩ = false := fun o => (ab_W2.frozen bkL_W1).trans (bkF_W1 o)
        have bkL_W2 : w.heap.size < W2.heap.size := Nat.lt_of_lt_of_le bkL_W1 ab_W2.size
        have acc_W2 := hidP (acc_W1.out.trans (ab_W2.mono acc_W1.out.size))
        have sz_W2 : Hid (W1.heap.size ≤ W2.heap.size) := hidP ab_W2.size
        clear ab_W2 bk0_W1 bk1_W1 bk2_W1 bkF_W1 bkL_W1 acc_W1
        rw [as_W1.out] at at0_W2 at1_W2 at2_W2 atL_W2
        have atF_W2' : ∀ o, W2.frozen? ⟨w.heap.size + 1, o, none⟩ = false := fun o => by have := atF_W2 o; rw [as_W1.out] at this; exact this
        clear atF_W2
        have atF_W2 := atF_W2'
        clear atF_W2'
        obtain ⟨rs0_W3, rs1_W3, rs2_W3⟩ := box3B W2 26 (.slice none 0 0) (.int .i64 0) (.int .i64 0)
        have rsF_W3 : ∀ o, (W2.alloc (.cells #[.slice none 0 0, .int .i64 0, .int .i64 0] 26)).frozen? ⟨W2.heap.size, o, none⟩ = false := fun o => by simp [go_sem]
        have rsL_W3 : W2.heap.size < (W2.alloc (.cells #[.slice none 0 0, .int .i64 0, .int .i64 0] 26)).heap.size := by simp
        have ab_W3 := alloc_below W2 (.cells #[.slice none 0 0, .int .i64 0, .int .i64 0] 26)
        have as_W3 : Hid ((W2.alloc (.cells #[.slice none 0 0, .int .i64 0, .int .i64 0] 26)).heap.size = W2.heap.size + 1) := hidP (by simp)
        generalize W2.alloc (.cells #[.slice none 0 0, .int .i64 0, .int .i64 0] 26) = W3 at *
        have bk0_W3 := (ab_W3.cell bkL_W2).trans bk0_W2
        have bk1_W3 := (ab_W3.cell bkL_W2).trans bk1_W2
        have bk2_W3 := (ab_W3.cell bkL_W2).trans bk2_W2
        have bkF_W3 : ∀ o, W3.frozen? ⟨w.heap.size, o, none⟩ = false := fun o => (ab_W3.frozen bkL_W2).trans (bkF_W2 o)
        have bkL_W3 : w.heap.size < W3.heap.size := Nat.lt_of_lt_of_le bkL_W2 ab_W3.size
        have at0_W3 := (ab_W3.cell atL_W2).trans at0_W2
        have at1_W3 := (ab_W3.cell atL_W2).trans at1_W2
        have at2_W3 := (ab_W3.cell atL_W2).trans at2_W2
        have atF_W3 : ∀ o, W3.frozen? ⟨w.heap.size + 1, o, none⟩ = false := fun o => (ab_W3.frozen atL_W2).trans (atF_W2 o)
        have atL_W3 : w.heap.size + 1 < W3.heap.size := Nat.lt_of_lt_of_le atL_W2 ab_W3.size
        have acc_W3 := hidP (acc_W2.out.trans (ab_W3.mono acc_W2.out.size))
        have sz_W3 : Hid (W2.heap.size ≤ W3.heap.size) := hidP ab_W3.size
        clear ab_W3 bk0_W2 bk1_W2 bk2_W2 bkF_W2 bkL_W2 at0_W2 at1_W2 at2_W2 atF_W2 atL_W2 acc_W2
        rw [as_W2.out, as_W1.out] at rs0_W3 rs1_W3 rs2_W3 rsL_W3
        have rsF_W3' : ∀ o, W3.frozen? ⟨w.heap.size + 1 + 1, o, none⟩ = false := fun o => by have := rsF_W3 o; rw [as_W2.out, as_W1.out] at this; exact this
        clear rsF_W3
        have rsF_W3 := rsF_W3'
        clear rsF_W3'
        refine (HOw.out _ acc_W3.out).mono ?_
        rintro e w4 ⟨a3, c3, rfl, og3, hb4⟩
        have og3' := hidP og3
        clear og3
        have bk0_w4 := (hb4.cell bkL_W3).trans bk0_W3
        have bk1_w4 := (hb4.cell bkL_W3).trans bk1_W3
        have bk2_w4 := (hb4.cell bkL_W3).trans bk2_W3
        have bkF_w4 : ∀ o, w4.frozen? ⟨w.heap.size, o, none⟩ = false := fun o => (hb4.frozen bkL_W3).trans (bkF_W3 o)
        have bkL_w4 : w.heap.size < w4.heap.size := Nat.lt_of_lt_of_le bkL_W3 hb4.size
        have at0_w4 := (hb4.cell atL_W3).trans at0_W3
        have at1_w4 := (hb4.cell atL_W3).trans at1_W3
        have at2_w4 := (hb4.cell atL_W3).trans at2_W3
        have atF_w4 : ∀ o, w4.frozen? ⟨w.heap.size + 1, o, none⟩ = false := fun o => (hb4.frozen atL_W3).trans (atF_W3 o)
        have atL_w4 : w.heap.size + 1 < w4.heap.size := Nat.lt_of_lt_of_le atL_W3 hb4.size
        have rs0_w4 := (hb4.cell rsL_W3).trans rs0_W3
        have rs1_w4 := (hb4.cell rsL_W3).trans rs1_W3
        have rs2_w4 := (hb4.cell rsL_W3).trans rs2_W3
        have rsF_w4 : ∀ o, w4.frozen? ⟨w.heap.size + 1 + 1, o, none⟩ = false := fun o => (hb4.frozen rsL_W3).trans (rsF_W3 o)
        have rsL_w4 : w.heap.size + 1 + 1 < w4.heap.size := Nat.lt_of_lt_of_le rsL_W3 hb4.size
        have acc_w4 := hidP (acc_W3.out.trans (hb4.mono acc_W3.out.size))
        have sz_w4 : Hid (W3.heap.size ≤ w4.heap.size) := hidP hb4.size
        clear hb4 bk0_W3 bk1_W3 bk2_W3 bkF_W3 bkL_W3 at0_W3 at1_W3 at2_W3 atF_W3 atL_W3 rs0_W3 rs1_W3 rs2_W3 rsF_W3 rsL_W3 acc_W3
        have oL_w4 := hidP (og3'.out)
        have lhL : Hid (∀ k, (Value.slice a3 n c3).ownBlock = some k → W3.heap.size ≤ k ∧ k < w4.heap.size) := hidP (fun k hk => OwnG.lt oL_w4.out k hk)
        clear og3'
        go_wp2_with fail
        obtain ⟨ou0_W5, ou1_W5, ou2_W5⟩ := box3B w4 26 (.slice a3 n c3) (.int .i64 T) (.int .i64 N)
        have ouF_W5 : ∀ o, (w4.alloc (.cells #[.slice a3 n c3, .int .i64 T, .int .i64 N] 26)).frozen? ⟨w4.heap.size, o, none⟩ = false := fun o => by simp [go_sem]
        have ouL_W5 : w4.heap.size < (w4.alloc (.cells #[.slice a3 n c3, .int .i64 T, .int .i64 N] 26)).heap.size := by simp
        have ab_W5 := alloc_below w4 (.cells #[.slice a3 n c3, .int .i64 T, .int .i64 N] 26)
        have as_W5 : Hid ((w4.alloc (.cells #[.slice a3 n c3, .int .i64 T, .int .i64 N] 26)).heap.size = w4.heap.size + 1) := hidP (by simp)
        generalize w4.alloc (.cells #[.slice a3 n c3, .int .i64 T, .int .i64 N] 26) = W5 at *
        have bk0_W5 := (ab_W5.cell bkL_w4).trans bk0_w4
        have bk1_W5 := (ab_W5.cell bkL_w4).trans bk1_w4
        have bk2_W5 := (ab_W5.cell bkL_w4).trans bk2_w4
        have bkF_W5 : ∀ o, W5.frozen? ⟨w.heap.size, o, none⟩ = false := fun o => (ab_W5.frozen bkL_w4).trans (bkF_w4 o)
        have bkL_W5 : w.heap.size < W5.heap.size := Nat.lt_of_lt_of_le bkL_w4 ab_W5.size
        have at0_W5 := (ab_W5.cell atL_w4).trans at0_w4
        have at1_W5 := (ab_W5.cell atL_w4).trans at1_w4
        have at2_W5 := (ab_W5.cell atL_w4).trans at2_w4
        have atF_W5 : ∀ o, W5.frozen? ⟨w.heap.size + 1, o, none⟩ = false := fun o => (ab_W5.frozen atL_w4).trans (atF_w4 o)
        have atL_W5 : w.heap.size + 1 < W5.heap.size := Nat.lt_of_lt_of_le atL_w4 ab_W5.size
        have rs0_W5 := (ab_W5.cell rsL_w4).trans rs0_w4
        have rs1_W5 := (ab_W5.cell rsL_w4).trans rs1_w4
        have rs2_W5 := (ab_W5.cell rsL_w4).trans rs2_w4
        have rsF_W5 : ∀ o, W5.frozen? ⟨w.heap.size + 1 + 1, o, none⟩ = false := fun o => (ab_W5.frozen rsL_w4).trans (rsF_w4 o)
        have rsL_W5 : w.heap.size + 1 + 1 < W5.heap.size := Nat.lt_of_lt_of_le rsL_w4 ab_W5.size
        have oL_W5 := hidP (OwnG.later oL_w4.out ab_W5)
        have acc_W5 := hidP (acc_w4.out.trans (ab_W5.mono acc_w4.out.size))
        have sz_W5 : Hid (w4.heap.size ≤ W5.heap.size) := hidP ab_W5.size
        clear ab_W5 bk0_w4 bk1_w4 bk2_w4 bkF_w4 bkL_w4 at0_w4 at1_w4 at2_w4 atF_w4 atL_w4 rs0_w4 rs1_w4 rs2_w4 rsF_w4 rsL_w4 oL_w4 acc_w4
        refine (HSp.out _ acc_W5.out).mono ?_
        rintro e w6 ⟨rfl, hb6⟩
        have bk0_w6 := (hb6.cell bkL_W5).trans bk0_W5
        have bk1_w6 := (hb6.cell bkL_W5).trans bk1_W5
        have bk2_w6 := (hb6.cell bkL_W5).trans bk2_W5
        have bkF_w6 : ∀ o, w6.frozen? ⟨w.heap.size, o, none⟩ = false := fun o => (hb6.frozen bkL_W5).trans (bkF_W5 o)
        have bkL_w6 : w.heap.size < w6.heap.size := Nat.lt_of_lt_of_le bkL_W5 hb6.size
        have at0_w6 := (hb6.cell atL_W5).trans at0_W5
        have at1_w6 := (hb6.cell atL_W5).trans at1_W5
        have at2_w6 := (hb6.cell atL_W5).trans at2_W5
        have atF_w6 : ∀ o, w6.frozen? ⟨w.heap.size + 1, o, none⟩ = false := fun o => (hb6.frozen atL_W5).trans (atF_W5 o)
        have atL_w6 : w.heap.size + 1 < w6.heap.size := Nat.lt_of_lt_of_le atL_W5 hb6.size
        have rs0_w6 := (hb6.cell rsL_W5).trans rs0_W5
        have rs1_w6 := (hb6.cell rsL_W5).trans rs1_W5
        have rs2_w6 := (hb6.cell rsL_W5).trans rs2_W5
        have rsF_w6 : ∀ o, w6.frozen? ⟨w.heap.size + 1 + 1, o, none⟩ = false := fun o => (hb6.frozen rsL_W5).trans (rsF_W5 o)
        have rsL_w6 : w.heap.size + 1 + 1 < w6.heap.size := Nat.lt_of_lt_of_le rsL_W5 hb6.size
        have ou0_w6 := (hb6.cell ouL_W5).trans ou0_W5
        have ou1_w6 := (hb6.cell ouL_W5).trans ou1_W5
        have ou2_w6 := (hb6.cell ouL_W5).trans ou2_W5
        have ouF_w6 : ∀ o, w6.frozen? ⟨w4.heap.size, o, none⟩ = false := fun o => (hb6.frozen ouL_W5).trans (ouF_W5 o)
        have ouL_w6 : w4.heap.size < w6.heap.size := Nat.lt_of_lt_of_le ouL_W5 hb6.size
        have oL_w6 := hidP (OwnG.later oL_W5.out hb6)
        have acc_w6 := hidP (acc_W5.out.trans (hb6.mono acc_W5.out.size))
        have sz_w6 : Hid (W5.heap.size ≤ w6.heap.size) := hidP hb6.size
        clear hb6 bk0_W5 bk1_W5 bk2_W5 bkF_W5 bkL_W5 at0_W5 at1_W5 at2_W5 atF_W5 atL_W5 rs0_W5 rs1_W5 rs2_W5 rsF_W5 rsL_W5 ou0_W5 ou1_W5 ou2_W5 ouF_W5 ouL_W5 oL_W5 acc_W5
        go_wp2_with fail
        refine (HAd.out _).mono ?_
        rintro e w7 ⟨rfl, hb7⟩
        have bk0_w7 := (hb7.cell bkL_w6).trans bk0_w6
        have bk1_w7 := (hb7.cell bkL_w6).trans bk1_w6
        have bk2_w7 := (hb7.cell bkL_w6).trans bk2_w6
        have bkF_w7 : ∀ o, w7.frozen? ⟨w.heap.size, o, none⟩ = false := fun o => (hb7.frozen bkL_w6).trans (bkF_w6 o)
        have bkL_w7 : w.heap.size < w7.heap.size := Nat.lt_of_lt_of_le bkL_w6 hb7.size
        have at0_w7 := (hb7.cell atL_w6).trans at0_w6
        have at1_w7 := (hb7.cell atL_w6).trans at1_w6
        have at2_w7 := (hb7.cell atL_w6).trans at2_w6
        have atF_w7 : ∀ o, w7.frozen? ⟨w.heap.size + 1, o, none⟩ = false := fun o => (hb7.frozen atL_w6).trans (atF_w6 o)
        have atL_w7 : w.heap.size + 1 < w7.heap.size := Nat.lt_of_lt_of_le atL_w6 hb7.size
        have rs0_w7 := (hb7.cell rsL_w6).trans rs0_w6
        have rs1_w7 := (hb7.cell rsL_w6).trans rs1_w6
        have rs2_w7 := (hb7.cell rsL_w6).trans rs2_w6
        have rsF_w7 : ∀ o, w7.frozen? ⟨w.heap.size + 1 + 1, o, none⟩ = false := fun o => (hb7.frozen rsL_w6).trans (rsF_w6 o)
        have rsL_w7 : w.heap.size + 1 + 1 < w7.heap.size := Nat.lt_of_lt_of_le rsL_w6 hb7.size
        have ou0_w7 := (hb7.cell ouL_w6).trans ou0_w6
        have ou1_w7 := (hb7.cell ouL_w6).trans ou1_w6
        have ou2_w7 := (hb7.cell ouL_w6).trans ou2_w6
        have ouF_w7 : ∀ o, w7.frozen? ⟨w4.heap.size, o, none⟩ = false := fun o => (hb7.frozen ouL_w6).trans (ouF_w6 o)
        have ouL_w7 : w4.heap.size < w7.heap.size := Nat.lt_of_lt_of_le ouL_w6 hb7.size
        have oL_w7 := hidP (OwnG.later oL_w6.out hb7)
        have acc_w7 := hidP (acc_w6.out.trans (hb7.mono acc_w6.out.size))
        have sz_w7 : Hid (w6.heap.size ≤ w7.heap.size) := hidP hb7.size
        clear hb7 bk0_w6 bk1_w6 bk2_w6 bkF_w6 bkL_w6 at0_w6 at1_w6 at2_w6 atF_w6 atL_w6 rs0_w6 rs1_w6 rs2_w6 rsF_w6 rsL_w6 ou0_w6 ou1_w6 ou2_w6 ouF_w6 ouL_w6 oL_w6 acc_w6
        go_wp2_with fail
        refine (HOn.out _).mono ?_
        rintro e w8' ⟨rfl, hw8'⟩
        rw [hw8']
        clear hw8' w8'
        go_wp2_with fail
        refine bodyPost_ret (v := .tuple #[.agg #[.slice a3 n c3, .int .i64 T, .int .i64 N], .int .i64 0, .int .i64 10]) (by simp [results, Tryz.results8, go_sem, rs0_w7, rs1_w7, rs2_w7]) rfl ⟨_, _, rfl, ?_, ?_⟩
        · refine OwnG.mono (B := W3.heap.size) ?_ (by have := as_W1.out; have := sz_W1.out; have := as_W2.out; have := sz_W2.out; have := as_W3.out; have := sz_W3.out; have := sz_w4.out; have := as_W5.out; have := sz_W5.out; have := sz_w6.out; have := sz_w7.out; omega)
          iterate 3 (with_reducible refine OwnG.grown ?_ (grown_cellG _ _ _ _) ?_; rotate_left; (focus (exact OwnG.ne_of oL_w7.out (by have := as_W1.out; have := sz_W1.out; have := as_W2.out; have := sz_W2.out; have := as_W3.out; have := sz_W3.out; have := sz_w4.out; have := as_W5.out; have := sz_W5.out; have := sz_w6.out; have := sz_w7.out; omega))))
          with_reducible exact oL_w7.out
        · repeat (with_reducible refine Below.setCell ?_ ?_ _; rotate_left; (focus (first | (simp; done) | (simp; omega))))
          exact acc_w7.out
      · rw [hw] at HOn hr
        rw [Bool.true_and] at hr
        clear hw
        cases h1 : (decide (1 ≤ span) && decide (span ≤ 1000))
        · rw [h1] at HI
          clear hr
          go_enter Tryz.func8, Tryz.ntmps8
          go_wp2_with fail
          obtain ⟨bk0_W1, bk1_W1, bk2_W1⟩ := box3B w 26 (.slice a n c) (.int .i64 T) (.int .i64 N)
          have bkF_W1 : ∀ o, (w.alloc (.cells #[.slice a n c, .int .i64 T, .int .i64 N] 26)).frozen? ⟨w.heap.size, o, none⟩ = false := fun o => by simp [go_sem]
          have bkL_W1 : w.heap.size < (w.alloc (.cells #[.slice a n c, .int .i64 T, .int .i64 N] 26)).heap.size := by simp
          have ab_W1 := alloc_below w (.cells #[.slice a n c, .int .i64 T, .int .i64 N] 26)
          have as_W1 : Hid ((w.alloc (.cells #[.slice a n c, .int .i64 T, .int .i64 N] 26)).heap.size = w.heap.size + 1) := hidP (by simp)
          generalize w.alloc (.cells #[.slice a n c, .int .i64 T, .int .i64 N] 26) = W1 at *
          have acc_W1 := hidP (ab_W1)
          have sz_W1 : Hid (w.heap.size ≤ W1.heap.size) := hidP ab_W1.size
          clear ab_W1 
          obtain ⟨at0_W2, at1_W2, at2_W2⟩ := box3B W1 28 (.bool ad.s) (.int .i64 ad.H.toInt) (.int .i64 ad.L.toInt)
          have atF_W2 : ∀ o, (W1.alloc (.cells #[.bool ad.s, .int .i64 ad.H.toInt, .int .i64 ad.L.toInt] 28)).frozen? ⟨W1.heap.size, o, none⟩ = false := fun o => by simp [go_sem]
          have atL_W2 : W1.heap.size < (W1.alloc (.cells #[.bool ad.s, .int .i64 ad.H.toInt, .int .i64 ad.L.toInt] 28)).heap.size := by simp
          have ab_W2 := alloc_below W1 (.cells #[.bool ad.s, .int .i64 ad.H.toInt, .int .i64 ad.L.toInt] 28)
          have as_W2 : Hid ((W1.alloc (.cells #[.bool ad.s, .int .i64 ad.H.toInt, .int .i64 ad.L.toInt] 28)).heap.size = W1.heap.size + 1) := hidP (by simp)
          generalize W1.alloc (.cells #[.bool ad.s, .int .i64 ad.H.toInt, .int .i64 ad.L.toInt] 28) = W2 at *
          have bk0_W2 := (ab_W2.cell bkL_W1).trans bk0_W1
          have bk1_W2 := (ab_W2.cell bkL_W1).trans bk1_W1
          have bk2_W2 := (ab_W2.cell bkL_W1).trans bk2_W1
          have bkF_W2 : ∀ o, W2.frozen? ⟨w.heap.size, o, none⟩ = false := fun o => (ab_W2.frozen bkL_W1).trans (bkF_W1 o)
          have bkL_W2 : w.heap.size < W2.heap.size := Nat.lt_of_lt_of_le bkL_W1 ab_W2.size
          have acc_W2 := hidP (acc_W1.out.trans (ab_W2.mono acc_W1.out.size))
          have sz_W2 : Hid (W1.heap.size ≤ W2.heap.size) := hidP ab_W2.size
          clear ab_W2 bk0_W1 bk1_W1 bk2_W1 bkF_W1 bkL_W1 acc_W1
          rw [as_W1.out] at at0_W2 at1_W2 at2_W2 atL_W2
          have atF_W2' : ∀ o, W2.frozen? ⟨w.heap.size + 1, o, none⟩ = false := fun o => by have := atF_W2 o; rw [as_W1.out] at this; exact this
          clear atF_W2
          have atF_W2 := atF_W2'
          clear atF_W2'
          obtain ⟨rs0_W3, rs1_W3, rs2_W3⟩ := box3B W2 26 (.slice none 0 0) (.int .i64 0) (.int .i64 0)
          have rsF_W3 : ∀ o, (W2.alloc (.cells #[.slice none 0 0, .int .i64 0, .int .i64 0] 26)).frozen? ⟨W2.heap.size, o, none⟩ = false := fun o => by simp [go_sem]
          have rsL_W3 : W2.heap.size < (W2.alloc (.cells #[.slice none 0 0, .int .i64 0, .int .i64 0] 26)).heap.size := by simp
          have ab_W3 := alloc_below W2 (.cells #[.slice none 0 0, .int .i64 0, .int .i64 0] 26)
          have as_W3 : Hid ((W2.alloc (.cells #[.slice none 0 0, .int .i64 0, .int .i64 0] 26)).heap.size = W2.heap.size + 1) := hidP (by simp)
          generalize W2.alloc (.cells #[.slice none 0 0, .int .i64 0, .int .i64 0] 26) = W3 at *
          have bk0_W3 := (ab_W3.cell bkL_W2).trans bk0_W2
          have bk1_W3 := (ab_W3.cell bkL_W2).trans bk1_W2
          have bk2_W3 := (ab_W3.cell bkL_W2).trans bk2_W2
          have bkF_W3 : ∀ o, W3.frozen? ⟨w.heap.size, o, none⟩ = false := fun o => (ab_W3.frozen bkL_W2).trans (bkF_W2 o)
          have bkL_W3 : w.heap.size < W3.heap.size := Nat.lt_of_lt_of_le bkL_W2 ab_W3.size
          have at0_W3 := (ab_W3.cell atL_W2).trans at0_W2
          have at1_W3 := (ab_W3.cell atL_W2).trans at1_W2
          have at2_W3 := (ab_W3.cell atL_W2).trans at2_W2
          have atF_W3 : ∀ o, W3.frozen? ⟨w.heap.size + 1, o, none⟩ = false := fun o => (ab_W3.frozen atL_W2).trans (atF_W2 o)
          have atL_W3 : w.heap.size + 1 < W3.heap.size := Nat.lt_of_lt_of_le atL_W2 ab_W3.size
          have acc_W3 := hidP (acc_W2.out.trans (ab_W3.mono acc_W2.out.size))
          have sz_W3 : Hid (W2.heap.size ≤ W3.heap.size) := hidP ab_W3.size
          clear ab_W3 bk0_W2 bk1_W2 bk2_W2 bkF_W2 bkL_W2 at0_W2 at1_W2 at2_W2 atF_W2 atL_W2 acc_W2
          rw [as_W2.out, as_W1.out] at rs0_W3 rs1_W3 rs2_W3 rsL_W3
          have rsF_W3' : ∀ o, W3.frozen? ⟨w.heap.size + 1 + 1, o, none⟩ = false := fun o => by have := rsF_W3 o; rw [as_W2.out, as_W1.out] at this; exact this
          clear rsF_W3
          have rsF_W3 := rsF_W3'
          clear rsF_W3'
          refine (HOw.out _ acc_W3.out).mono ?_
          rintro e w4 ⟨a3, c3, rfl, og3, hb4⟩
          have og3' := hidP og3
          clear og3
          have bk0_w4 := (hb4.cell bkL_W3).trans bk0_W3
          have bk1_w4 := (hb4.cell bkL_W3).trans bk1_W3
          have bk2_w4 := (hb4.cell bkL_W3).trans bk2_W3
          have bkF_w4 : ∀ o, w4.frozen? ⟨w.heap.size, o, none⟩ = false := fun o => (hb4.frozen bkL_W3).trans (bkF_W3 o)
          have bkL_w4 : w.heap.size < w4.heap.size := Nat.lt_of_lt_of_le bkL_W3 hb4.size
          have at0_w4 := (hb4.cell atL_W3).trans at0_W3
          have at1_w4 := (hb4.cell atL_W3).trans at1_W3
          have at2_w4 := (hb4.cell atL_W3).trans at2_W3
          have atF_w4 : ∀ o, w4.frozen? ⟨w.heap.size + 1, o, none⟩ = false := fun o => (hb4.frozen atL_W3).trans (atF_W3 o)
          have atL_w4 : w.heap.size + 1 < w4.heap.size := Nat.lt_of_lt_of_le atL_W3 hb4.size
          have rs0_w4 := (hb4.cell rsL_W3).trans rs0_W3
          have rs1_w4 := (hb4.cell rsL_W3).trans rs1_W3
          have rs2_w4 := (hb4.cell rsL_W3).trans rs2_W3
          have rsF_w4 : ∀ o, w4.frozen? ⟨w.heap.size + 1 + 1, o, none⟩ = false := fun o => (hb4.frozen rsL_W3).trans (rsF_W3 o)
          have rsL_w4 : w.heap.size + 1 + 1 < w4.heap.size := Nat.lt_of_lt_of_le rsL_W3 hb4.size
          have acc_w4 := hidP (acc_W3.out.trans (hb4.mono acc_W3.out.size))
          have sz_w4 : Hid (W3.heap.size ≤ w4.heap.size) := hidP hb4.size
          clear hb4 bk0_W3 bk1_W3 bk2_W3 bkF_W3 bkL_W3 at0_W3 at1_W3 at2_W3 atF_W3 atL_W3 rs0_W3 rs1_W3 rs2_W3 rsF_W3 rsL_W3 acc_W3
          have oL_w4 := hidP (og3'.out)
          have lhL : Hid (∀ k, (Value.slice a3 n c3).ownBlock = some k → W3.heap.size ≤ k ∧ k < w4.heap.size) := hidP (fun k hk => OwnG.lt oL_w4.out k hk)
          clear og3'
          go_wp2_with fail
          obtain ⟨ou0_W5, ou1_W5, ou2_W5⟩ := box3B w4 26 (.slice a3 n c3) (.int .i64 T) (.int .i64 N)
          have ouF_W5 : ∀ o, (w4.alloc (.cells #[.slice a3 n c3, .int .i64 T, .int .i64 N] 26)).frozen? ⟨w4.heap.size, o, none⟩ = false := fun o => by simp [go_sem]
          have ouL_W5 : w4.heap.size < (w4.alloc (.cells #[.slice a3 n c3, .int .i64 T, .int .i64 N] 26)).heap.size := by simp
          have ab_W5 := alloc_below w4 (.cells #[.slice a3 n c3, .int .i64 T, .int .i64 N] 26)
          have as_W5 : Hid ((w4.alloc (.cells #[.slice a3 n c3, .int .i64 T, .int .i64 N] 26)).heap.size = w4.heap.size + 1) := hidP (by simp)
          generalize w4.alloc (.cells #[.slice a3 n c3, .int .i64 T, .int .i64 N] 26) = W5 at *
          have bk0_W5 := (ab_W5.cell bkL_w4).trans bk0_w4
          have bk1_W5 := (ab_W5.cell bkL_w4).trans bk1_w4
          have bk2_W5 := (ab_W5.cell bkL_w4).trans bk2_w4
          have bkF_W5 : ∀ o, W5.frozen? ⟨w.heap.size, o, none⟩ = false := fun o => (ab_W5.frozen bkL_w4).trans (bkF_w4 o)
          have bkL_W5 : w.heap.size < W5.heap.size := Nat.lt_of_lt_of_le bkL_w4 ab_W5.size
          have at0_W5 := (ab_W5.cell atL_w4).trans at0_w4
          have at1_W5 := (ab_W5.cell atL_w4).trans at1_w4
          have at2_W5 := (ab_W5.cell atL_w4).trans at2_w4
          have atF_W5 : ∀ o, W5.frozen? ⟨w.heap.size + 1, o, none⟩ = false := fun o => (ab_W5.frozen atL_w4).trans (atF_w4 o)
          have atL_W5 : w.heap.size + 1 < W5.heap.size := Nat.lt_of_lt_of_le atL_w4 ab_W5.size
          have rs0_W5 := (ab_W5.cell rsL_w4).trans rs0_w4
          have rs1_W5 := (ab_W5.cell rsL_w4).trans rs1_w4
          have rs2_W5 := (ab_W5.cell rsL_w4).trans rs2_w4
          have rsF_W5 : ∀ o, W5.frozen? ⟨w.heap.size + 1 + 1, o, none⟩ = false := fun o => (ab_W5.frozen rsL_w4).trans (rsF_w4 o)
          have rsL_W5 : w.heap.size + 1 + 1 < W5.heap.size := Nat.lt_of_lt_of_le rsL_w4 ab_W5.size
          have oL_W5 := hidP (OwnG.later oL_w4.out ab_W5)
          have acc_W5 := hidP (acc_w4.out.trans (ab_W5.mono acc_w4.out.size))
          have sz_W5 : Hid (w4.heap.size ≤ W5.heap.size) := hidP ab_W5.size
          clear ab_W5 bk0_w4 bk1_w4 bk2_w4 bkF_w4 bkL_w4 at0_w4 at1_w4 at2_w4 atF_w4 atL_w4 rs0_w4 rs1_w4 rs2_w4 rsF_w4 rsL_w4 oL_w4 acc_w4
          refine (HSp.out _ acc_W5.out).mono ?_
          rintro e w6 ⟨rfl, hb6⟩
          have bk0_w6 := (hb6.cell bkL_W5).trans bk0_W5
          have bk1_w6 := (hb6.cell bkL_W5).trans bk1_W5
          have bk2_w6 := (hb6.cell bkL_W5).trans bk2_W5
          have bkF_w6 : ∀ o, w6.frozen? ⟨w.heap.size, o, none⟩ = false := fun o => (hb6.frozen bkL_W5).trans (bkF_W5 o)
          have bkL_w6 : w.heap.size < w6.heap.size := Nat.lt_of_lt_of_le bkL_W5 hb6.size
          have at0_w6 := (hb6.cell atL_W5).trans at0_W5
          have at1_w6 := (hb6.cell atL_W5).trans at1_W5
          have at2_w6 := (hb6.cell atL_W5).trans at2_W5
          have atF_w6 : ∀ o, w6.frozen? ⟨w.heap.size + 1, o, none⟩ = false := fun o => (hb6.frozen atL_W5).trans (atF_W5 o)
          have atL_w6 : w.heap.size + 1 < w6.heap.size := Nat.lt_of_lt_of_le atL_W5 hb6.size
          have rs0_w6 := (hb6.cell rsL_W5).trans rs0_W5
          have rs1_w6 := (hb6.cell rsL_W5).trans rs1_W5
          have rs2_w6 := (hb6.cell rsL_W5).trans rs2_W5
          have rsF_w6 : ∀ o, w6.frozen? ⟨w.heap.size + 1 + 1, o, none⟩ = false := fun o => (hb6.frozen rsL_W5).trans (rsF_W5 o)
          have rsL_w6 : w.heap.size + 1 + 1 < w6.heap.size := Nat.lt_of_lt_of_le rsL_W5 hb6.size
          have ou0_w6 := (hb6.cell ouL_W5).trans ou0_W5
          have ou1_w6 := (hb6.cell ouL_W5).trans ou1_W5
          have ou2_w6 := (hb6.cell ouL_W5).trans ou2_W5
          have ouF_w6 : ∀ o, w6.frozen? ⟨w4.heap.size, o, none⟩ = false := fun o => (hb6.frozen ouL_W5).trans (ouF_W5 o)
          have ouL_w6 : w4.heap.size < w6.heap.size := Nat.lt_of_lt_of_le ouL_W5 hb6.size
          have oL_w6 := hidP (OwnG.later oL_W5.out hb6)
          have acc_w6 := hidP (acc_W5.out.trans (hb6.mono acc_W5.out.size))
          have sz_w6 : Hid (W5.heap.size ≤ w6.heap.size) := hidP hb6.size
          clear hb6 bk0_W5 bk1_W5 bk2_W5 bkF_W5 bkL_W5 at0_W5 at1_W5 at2_W5 atF_W5 atL_W5 rs0_W5 rs1_W5 rs2_W5 rsF_W5 rsL_W5 ou0_W5 ou1_W5 ou2_W5 ouF_W5 ouL_W5 oL_W5 acc_W5
          go_wp2_with fail
          refine (HAd.out _).mono ?_
          rintro e w7 ⟨rfl, hb7⟩
          have bk0_w7 := (hb7.cell bkL_w6).trans bk0_w6
          have bk1_w7 := (hb7.cell bkL_w6).trans bk1_w6
          have bk2_w7 := (hb7.cell bkL_w6).trans bk2_w6
          have bkF_w7 : ∀ o, w7.frozen? ⟨w.heap.size, o, none⟩ = false := fun o => (hb7.frozen bkL_w6).trans (bkF_w6 o)
          have bkL_w7 : w.heap.size < w7.heap.size := Nat.lt_of_lt_of_le bkL_w6 hb7.size
          have at0_w7 := (hb7.cell atL_w6).trans at0_w6
          have at1_w7 := (hb7.cell atL_w6).trans at1_w6
          have at2_w7 := (hb7.cell atL_w6).trans at2_w6
          have atF_w7 : ∀ o, w7.frozen? ⟨w.heap.size + 1, o, none⟩ = false := fun o => (hb7.frozen atL_w6).trans (atF_w6 o)
          have atL_w7 : w.heap.size + 1 < w7.heap.size := Nat.lt_of_lt_of_le atL_w6 hb7.size
          have rs0_w7 := (hb7.cell rsL_w6).trans rs0_w6
          have rs1_w7 := (hb7.cell rsL_w6).trans rs1_w6
          have rs2_w7 := (hb7.cell rsL_w6).trans rs2_w6
          have rsF_w7 : ∀ o, w7.frozen? ⟨w.heap.size + 1 + 1, o, none⟩ = false := fun o => (hb7.frozen rsL_w6).trans (rsF_w6 o)
          have rsL_w7 : w.heap.size + 1 + 1 < w7.heap.size := Nat.lt_of_lt_of_le rsL_w6 hb7.size
          have ou0_w7 := (hb7.cell ouL_w6).trans ou0_w6
          have ou1_w7 := (hb7.cell ouL_w6).trans ou1_w6
          have ou2_w7 := (hb7.cell ouL_w6).trans ou2_w6
          have ouF_w7 : ∀ o, w7.frozen? ⟨w4.heap.size, o, none⟩ = false := fun o => (hb7.frozen ouL_w6).trans (ouF_w6 o)
          have ouL_w7 : w4.heap.size < w7.heap.size := Nat.lt_of_lt_of_le ouL_w6 hb7.size
          have oL_w7 := hidP (OwnG.later oL_w6.out hb7)
          have acc_w7 := hidP (acc_w6.out.trans (hb7.mono acc_w6.out.size))
          have sz_w7 : Hid (w6.heap.size ≤ w7.heap.size) := hidP hb7.size
          clear hb7 bk0_w6 bk1_w6 bk2_w6 bkF_w6 bkL_w6 at0_w6 at1_w6 at2_w6 atF_w6 atL_w6 rs0_w6 rs1_w6 rs2_w6 rsF_w6 rsL_w6 ou0_w6 ou1_w6 ou2_w6 ouF_w6 ouL_w6 oL_w6 acc_w6
          go_wp2_with fail
          refine (HOn.out _).mono ?_
          rintro e w8' ⟨rfl, hw8'⟩
          rw [hw8']
          clear hw8' w8'
          go_wp2_with fail
          refine (HI.out _).mono ?_
          rintro e w9' ⟨rfl, hw9'⟩
          rw [hw9']
          clear hw9' w9'
          go_wp2_with fail
          refine bodyPost_ret (v := .tuple #[.agg #[.slice a3 n c3, .int .i64 T, .int .i64 N], .int .i64 0, .int .i64 10]) (by simp [results, Tryz.results8, go_sem, rs0_w7, rs1_w7, rs2_w7]) rfl ⟨_, _, rfl, ?_, ?_⟩
          · refine OwnG.mono (B := W3.heap.size) ?_ (by have := as_W1.out; have := sz_W1.out; have := as_W2.out; have := sz_W2.out; have := as_W3.out; have := sz_W3.out; have := sz_w4.out; have := as_W5.out; have := sz_W5.out; have := sz_w6.out; have := sz_w7.out; omega)
            iterate 3 (with_reducible refine OwnG.grown ?_ (grown_cellG _ _ _ _) ?_; rotate_left; (focus (exact OwnG.ne_of oL_w7.out (by have := as_W1.out; have := sz_W1.out; have := as_W2.out; have := sz_W2.out; have := as_W3.out; have := sz_W3.out; have := sz_w4.out; have := as_W5.out; have := sz_W5.out; have := sz_w6.out; have := sz_w7.out; omega))))
            with_reducible exact oL_w7.out
          · repeat (with_reducible refine Below.setCell ?_ ?_ _; rotate_left; (focus (first | (simp; done) | (simp; omega))))
            exact acc_w7.out
        · obtain ⟨hw1, hw2⟩ := sp_wrap hnow h1
          rw [h1] at HI hr
          rw [Bool.true_and] at hr
          clear h1
          cases h2 : decide (N + span ≤ 1000000000)
          · have h3 : decide ((1000000000 : Int) < N + span) = true := by have := of_decide_eq_false h2; exact decide_eq_true (by omega)
            clear hr h2
            go_enter Tryz.func8, Tryz.ntmps8
            go_wp2_with fail
            obtain ⟨bk0_W1, bk1_W1, bk2_W1⟩ := box3B w 26 (.slice a n c) (.int .i64 T) (.int .i64 N)
            have bkF_W1 : ∀ o, (w.alloc (.cells #[.slice a n c, .int .i64 T, .int .i64 N] 26)).frozen? ⟨w.heap.size, o, none⟩ = false := fun o => by simp [go_sem]
            have bkL_W1 : w.heap.size < (w.alloc (.cells #[.slice a n c, .int .i64 T, .int .i64 N] 26)).heap.size := by simp
            have ab_W1 := alloc_below w (.cells #[.slice a n c, .int .i64 T, .int .i64 N] 26)
            have as_W1 : Hid ((w.alloc (.cells #[.slice a n c, .int .i64 T, .int .i64 N] 26)).heap.size = w.heap.size + 1) := hidP (by simp)
            generalize w.alloc (.cells #[.slice a n c, .int .i64 T, .int .i64 N] 26) = W1 at *
            have acc_W1 := hidP (ab_W1)
            have sz_W1 : Hid (w.heap.size ≤ W1.heap.size) := hidP ab_W1.size
            clear ab_W1 
            obtain ⟨at0_W2, at1_W2, at2_W2⟩ := box3B W1 28 (.bool ad.s) (.int .i64 ad.H.toInt) (.int .i64 ad.L.toInt)
            have atF_W2 : ∀ o, (W1.alloc (.cells #[.bool ad.s, .int .i64 ad.H.toInt, .int .i64 ad.L.toInt] 28)).frozen? ⟨W1.heap.size, o, none⟩ = false := fun o => by simp [go_sem]
            have atL_W2 : W1.heap.size < (W1.alloc (.cells #[.bool ad.s, .int .i64 ad.H.toInt, .int .i64 ad.L.toInt] 28)).heap.size := by simp
            have ab_W2 := alloc_below W1 (.cells #[.bool ad.s, .int .i64 ad.H.toInt, .int .i64 ad.L.toInt] 28)
            have as_W2 : Hid ((W1.alloc (.cells #[.bool ad.s, .int .i64 ad.H.toInt, .int .i64 ad.L.toInt] 28)).heap.size = W1.heap.size + 1) := hidP (by simp)
            generalize W1.alloc (.cells #[.bool ad.s, .int .i64 ad.H.toInt, .int .i64 ad.L.toInt] 28) = W2 at *
            have bk0_W2 := (ab_W2.cell bkL_W1).trans bk0_W1
            have bk1_W2 := (ab_W2.cell bkL_W1).trans bk1_W1
            have bk2_W2 := (ab_W2.cell bkL_W1).trans bk2_W1
            have bkF_W2 : ∀ o, W2.frozen? ⟨w.heap.size, o, none⟩ = false := fun o => (ab_W2.frozen bkL_W1).trans (bkF_W1 o)
            have bkL_W2 : w.heap.size < W2.heap.size := Nat.lt_of_lt_of_le bkL_W1 ab_W2.size
            have acc_W2 := hidP (acc_W1.out.trans (ab_W2.mono acc_W1.out.size))
            have sz_W2 : Hid (W1.heap.size ≤ W2.heap.size) := hidP ab_W2.size
            clear ab_W2 bk0_W1 bk1_W1 bk2_W1 bkF_W1 bkL_W1 acc_W1
            rw [as_W1.out] at at0_W2 at1_W2 at2_W2 atL_W2
            have atF_W2' : ∀ o, W2.frozen? ⟨w.heap.size + 1, o, none⟩ = false := fun o => by have := atF_W2 o; rw [as_W1.out] at this; exact this
            clear atF_W2
            have atF_W2 := atF_W2'
            clear atF_W2'
            obtain ⟨rs0_W3, rs1_W3, rs2_W3⟩ := box3B W2 26 (.slice none 0 0) (.int .i64 0) (.int .i64 0)
            have rsF_W3 : ∀ o, (W2.alloc (.cells #[.slice none 0 0, .int .i64 0, .int .i64 0] 26)).frozen? ⟨W2.heap.size, o, none⟩ = false := fun o => by simp [go_sem]
            have rsL_W3 : W2.heap.size < (W2.alloc (.cells #[.slice none 0 0, .int .i64 0, .int .i64 0] 26)).heap.size := by simp
            have ab_W3 := alloc_below W2 (.cells #[.slice none 0 0, .int .i64 0, .int .i64 0] 26)
            have as_W3 : Hid ((W2.alloc (.cells #[.slice none 0 0, .int .i64 0, .int .i64 0] 26)).heap.size = W2.heap.size + 1) := hidP (by simp)
            generalize W2.alloc (.cells #[.slice none 0 0, .int .i64 0, .int .i64 0] 26) = W3 at *
            have bk0_W3 := (ab_W3.cell bkL_W2).trans bk0_W2
            have bk1_W3 := (ab_W3.cell bkL_W2).trans bk1_W2
            have bk2_W3 := (ab_W3.cell bkL_W2).trans bk2_W2
            have bkF_W3 : ∀ o, W3.frozen? ⟨w.heap.size, o, none⟩ = false := fun o => (ab_W3.frozen bkL_W2).trans (bkF_W2 o)
            have bkL_W3 : w.heap.size < W3.heap.size := Nat.lt_of_lt_of_le bkL_W2 ab_W3.size
            have at0_W3 := (ab_W3.cell atL_W2).trans at0_W2
            have at1_W3 := (ab_W3.cell atL_W2).trans at1_W2
            have at2_W3 := (ab_W3.cell atL_W2).trans at2_W2
            have atF_W3 : ∀ o, W3.frozen? ⟨w.heap.size + 1, o, none⟩ = false := fun o => (ab_W3.frozen atL_W2).trans (atF_W2 o)
            have atL_W3 : w.heap.size + 1 < W3.heap.size := Nat.lt_of_lt_of_le atL_W2 ab_W3.size
            have acc_W3 := hidP (acc_W2.out.trans (ab_W3.mono acc_W2.out.size))
            have sz_W3 : Hid (W2.heap.size ≤ W3.heap.size) := hidP ab_W3.size
            clear ab_W3 bk0_W2 bk1_W2 bk2_W2 bkF_W2 bkL_W2 at0_W2 at1_W2 at2_W2 atF_W2 atL_W2 acc_W2
            rw [as_W2.out, as_W1.out] at rs0_W3 rs1_W3 rs2_W3 rsL_W3
            have rsF_W3' : ∀ o, W3.frozen? ⟨w.heap.size + 1 + 1, o, none⟩ = false := fun o => by have := rsF_W3 o; rw [as_W2.out, as_W1.out] at this; exact this
            clear rsF_W3
            have rsF_W3 := rsF_W3'
            clear rsF_W3'
            refine (HOw.out _ acc_W3.out).mono ?_
            rintro e w4 ⟨a3, c3, rfl, og3, hb4⟩
            have og3' := hidP og3
            clear og3
            have bk0_w4 := (hb4.cell bkL_W3).trans bk0_W3
            have bk1_w4 := (hb4.cell bkL_W3).trans bk1_W3
            have bk2_w4 := (hb4.cell bkL_W3).trans bk2_W3
            have bkF_w4 : ∀ o, w4.frozen? ⟨w.heap.size, o, none⟩ = false := fun o => (hb4.frozen bkL_W3).trans (bkF_W3 o)
            have bkL_w4 : w.heap.size < w4.heap.size := Nat.lt_of_lt_of_le bkL_W3 hb4.size
            have at0_w4 := (hb4.cell atL_W3).trans at0_W3
            have at1_w4 := (hb4.cell atL_W3).trans at1_W3
            have at2_w4 := (hb4.cell atL_W3).trans at2_W3
            have atF_w4 : ∀ o, w4.frozen? ⟨w.heap.size + 1, o, none⟩ = false := fun o => (hb4.frozen atL_W3).trans (atF_W3 o)
            have atL_w4 : w.heap.size + 1 < w4.heap.size := Nat.lt_of_lt_of_le atL_W3 hb4.size
            have rs0_w4 := (hb4.cell rsL_W3).trans rs0_W3
            have rs1_w4 := (hb4.cell rsL_W3).trans rs1_W3
            have rs2_w4 := (hb4.cell rsL_W3).trans rs2_W3
            have rsF_w4 : ∀ o, w4.frozen? ⟨w.heap.size + 1 + 1, o, none⟩ = false := fun o => (hb4.frozen rsL_W3).trans (rsF_W3 o)
            have rsL_w4 : w.heap.size + 1 + 1 < w4.heap.size := Nat.lt_of_lt_of_le rsL_W3 hb4.size
            have acc_w4 := hidP (acc_W3.out.trans (hb4.mono acc_W3.out.size))
            have sz_w4 : Hid (W3.heap.size ≤ w4.heap.size) := hidP hb4.size
            clear hb4 bk0_W3 bk1_W3 bk2_W3 bkF_W3 bkL_W3 at0_W3 at1_W3 at2_W3 atF_W3 atL_W3 rs0_W3 rs1_W3 rs2_W3 rsF_W3 rsL_W3 acc_W3
            have oL_w4 := hidP (og3'.out)
            have lhL : Hid (∀ k, (Value.slice a3 n c3).ownBlock = some k → W3.heap.size ≤ k ∧ k < w4.heap.size) := hidP (fun k hk => OwnG.lt oL_w4.out k hk)
            clear og3'
            go_wp2_with fail
            obtain ⟨ou0_W5, ou1_W5, ou2_W5⟩ := box3B w4 26 (.slice a3 n c3) (.int .i64 T) (.int .i64 N)
            have ouF_W5 : ∀ o, (w4.alloc (.cells #[.slice a3 n c3, .int .i64 T, .int .i64 N] 26)).frozen? ⟨w4.heap.size, o, none⟩ = false := fun o => by simp [go_sem]
            have ouL_W5 : w4.heap.size < (w4.alloc (.cells #[.slice a3 n c3, .int .i64 T, .int .i64 N] 26)).heap.size := by simp
            have ab_W5 := alloc_below w4 (.cells #[.slice a3 n c3, .int .i64 T, .int .i64 N] 26)
            have as_W5 : Hid ((w4.alloc (.cells #[.slice a3 n c3, .int .i64 T, .int .i64 N] 26)).heap.size = w4.heap.size + 1) := hidP (by simp)
            generalize w4.alloc (.cells #[.slice a3 n c3, .int .i64 T, .int .i64 N] 26) = W5 at *
            have bk0_W5 := (ab_W5.cell bkL_w4).trans bk0_w4
            have bk1_W5 := (ab_W5.cell bkL_w4).trans bk1_w4
            have bk2_W5 := (ab_W5.cell bkL_w4).trans bk2_w4
            have bkF_W5 : ∀ o, W5.frozen? ⟨w.heap.size, o, none⟩ = false := fun o => (ab_W5.frozen bkL_w4).trans (bkF_w4 o)
            have bkL_W5 : w.heap.size < W5.heap.size := Nat.lt_of_lt_of_le bkL_w4 ab_W5.size
            have at0_W5 := (ab_W5.cell atL_w4).trans at0_w4
            have at1_W5 := (ab_W5.cell atL_w4).trans at1_w4
            have at2_W5 := (ab_W5.cell atL_w4).trans at2_w4
            have atF_W5 : ∀ o, W5.frozen? ⟨w.heap.size + 1, o, none⟩ = false := fun o => (ab_W5.frozen atL_w4).trans (atF_w4 o)
            have atL_W5 : w.heap.size + 1 < W5.heap.size := Nat.lt_of_lt_of_le atL_w4 ab_W5.size
            have rs0_W5 := (ab_W5.cell rsL_w4).trans rs0_w4
            have rs1_W5 := (ab_W5.cell rsL_w4).trans rs1_w4
            have rs2_W5 := (ab_W5.cell rsL_w4).trans rs2_w4
            have rsF_W5 : ∀ o, W5.frozen? ⟨w.heap.size + 1 + 1, o, none⟩ = false := fun o => (ab_W5.frozen rsL_w4).trans (rsF_w4 o)
            have rsL_W5 : w.heap.size + 1 + 1 < W5.heap.size := Nat.lt_of_lt_of_le rsL_w4 ab_W5.size
            have oL_W5 := hidP (OwnG.later oL_w4.out ab_W5)
            have acc_W5 := hidP (acc_w4.out.trans (ab_W5.mono acc_w4.out.size))
            have sz_W5 : Hid (w4.heap.size ≤ W5.heap.size) := hidP ab_W5.size
            clear ab_W5 bk0_w4 bk1_w4 bk2_w4 bkF_w4 bkL_w4 at0_w4 at1_w4 at2_w4 atF_w4 atL_w4 rs0_w4 rs1_w4 rs2_w4 rsF_w4 rsL_w4 oL_w4 acc_w4
            refine (HSp.out _ acc_W5.out).mono ?_
            rintro e w6 ⟨rfl, hb6⟩
            have bk0_w6 := (hb6.cell bkL_W5).trans bk0_W5
            have bk1_w6 := (hb6.cell bkL_W5).trans bk1_W5
            have bk2_w6 := (hb6.cell bkL_W5).trans bk2_W5
            have bkF_w6 : ∀ o, w6.frozen? ⟨w.heap.size, o, none⟩ = false := fun o => (hb6.frozen bkL_W5).trans (bkF_W5 o)
            have bkL_w6 : w.heap.size < w6.heap.size := Nat.lt_of_lt_of_le bkL_W5 hb6.size
            have at0_w6 := (hb6.cell atL_W5).trans at0_W5
            have at1_w6 := (hb6.cell atL_W5).trans at1_W5
            have at2_w6 := (hb6.cell atL_W5).trans at2_W5
            have atF_w6 : ∀ o, w6.frozen? ⟨w.heap.size + 1, o, none⟩ = false := fun o => (hb6.frozen atL_W5).trans (atF_W5 o)
            have atL_w6 : w.heap.size + 1 < w6.heap.size := Nat.lt_of_lt_of_le atL_W5 hb6.size
            have rs0_w6 := (hb6.cell rsL_W5).trans rs0_W5
            have rs1_w6 := (hb6.cell rsL_W5).trans rs1_W5
            have rs2_w6 := (hb6.cell rsL_W5).trans rs2_W5
            have rsF_w6 : ∀ o, w6.frozen? ⟨w.heap.size + 1 + 1, o, none⟩ = false := fun o => (hb6.frozen rsL_W5).trans (rsF_W5 o)
            have rsL_w6 : w.heap.size + 1 + 1 < w6.heap.size := Nat.lt_of_lt_of_le rsL_W5 hb6.size
            have ou0_w6 := (hb6.cell ouL_W5).trans ou0_W5
            have ou1_w6 := (hb6.cell ouL_W5).trans ou1_W5
            have ou2_w6 := (hb6.cell ouL_W5).trans ou2_W5
            have ouF_w6 : ∀ o, w6.frozen? ⟨w4.heap.size, o, none⟩ = false := fun o => (hb6.frozen ouL_W5).trans (ouF_W5 o)
            have ouL_w6 : w4.heap.size < w6.heap.size := Nat.lt_of_lt_of_le ouL_W5 hb6.size
            have oL_w6 := hidP (OwnG.later oL_W5.out hb6)
            have acc_w6 := hidP (acc_W5.out.trans (hb6.mono acc_W5.out.size))
            have sz_w6 : Hid (W5.heap.size ≤ w6.heap.size) := hidP hb6.size
            clear hb6 bk0_W5 bk1_W5 bk2_W5 bkF_W5 bkL_W5 at0_W5 at1_W5 at2_W5 atF_W5 atL_W5 rs0_W5 rs1_W5 rs2_W5 rsF_W5 rsL_W5 ou0_W5 ou1_W5 ou2_W5 ouF_W5 ouL_W5 oL_W5 acc_W5
            go_wp2_with fail
            refine (HAd.out _).mono ?_
            rintro e w7 ⟨rfl, hb7⟩
            have bk0_w7 := (hb7.cell bkL_w6).trans bk0_w6
            have bk1_w7 := (hb7.cell bkL_w6).trans bk1_w6
            have bk2_w7 := (hb7.cell bkL_w6).trans bk2_w6
            have bkF_w7 : ∀ o, w7.frozen? ⟨w.heap.size, o, none⟩ = false := fun o => (hb7.frozen bkL_w6).trans (bkF_w6 o)
            have bkL_w7 : w.heap.size < w7.heap.size := Nat.lt_of_lt_of_le bkL_w6 hb7.size
            have at0_w7 := (hb7.cell atL_w6).trans at0_w6
            have at1_w7 := (hb7.cell atL_w6).trans at1_w6
            have at2_w7 := (hb7.cell atL_w6).trans at2_w6
            have atF_w7 : ∀ o, w7.frozen? ⟨w.heap.size + 1, o, none⟩ = false := fun o => (hb7.frozen atL_w6).trans (atF_w6 o)
            have atL_w7 : w.heap.size + 1 < w7.heap.size := Nat.lt_of_lt_of_le atL_w6 hb7.size
            have rs0_w7 := (hb7.cell rsL_w6).trans rs0_w6
            have rs1_w7 := (hb7.cell rsL_w6).trans rs1_w6
            have rs2_w7 := (hb7.cell rsL_w6).trans rs2_w6
            have rsF_w7 : ∀ o, w7.frozen? ⟨w.heap.size + 1 + 1, o, none⟩ = false := fun o => (hb7.frozen rsL_w6).trans (rsF_w6 o)
            have rsL_w7 : w.heap.size + 1 + 1 < w7.heap.size := Nat.lt_of_lt_of_le rsL_w6 hb7.size
            have ou0_w7 := (hb7.cell ouL_w6).trans ou0_w6
            have ou1_w7 := (hb7.cell ouL_w6).trans ou1_w6
            have ou2_w7 := (hb7.cell ouL_w6).trans ou2_w6
            have ouF_w7 : ∀ o, w7.frozen? ⟨w4.heap.size, o, none⟩ = false := fun o => (hb7.frozen ouL_w6).trans (ouF_w6 o)
            have ouL_w7 : w4.heap.size < w7.heap.size := Nat.lt_of_lt_of_le ouL_w6 hb7.size
            have oL_w7 := hidP (OwnG.later oL_w6.out hb7)
            have acc_w7 := hidP (acc_w6.out.trans (hb7.mono acc_w6.out.size))
            have sz_w7 : Hid (w6.heap.size ≤ w7.heap.size) := hidP hb7.size
            clear hb7 bk0_w6 bk1_w6 bk2_w6 bkF_w6 bkL_w6 at0_w6 at1_w6 at2_w6 atF_w6 atL_w6 rs0_w6 rs1_w6 rs2_w6 rsF_w6 rsL_w6 ou0_w6 ou1_w6 ou2_w6 ouF_w6 ouL_w6 oL_w6 acc_w6
            go_wp2_with fail
            refine (HOn.out _).mono ?_
            rintro e w8' ⟨rfl, hw8'⟩
            rw [hw8']
            clear hw8' w8'
            go_wp2_with fail
            refine (HI.out _).mono ?_
            rintro e w9' ⟨rfl, hw9'⟩
            rw [hw9']
            clear hw9' w9'
            go_wp2_with fail
            refine bodyPost_ret (v := .tuple #[.agg #[.slice a3 n c3, .int .i64 T, .int .i64 N], .int .i64 0, .int .i64 10]) (by simp [results, Tryz.results8, go_sem, rs0_w7, rs1_w7, rs2_w7]) rfl ⟨_, _, rfl, ?_, ?_⟩
            · refine OwnG.mono (B := W3.heap.size) ?_ (by have := as_W1.out; have := sz_W1.out; have := as_W2.out; have := sz_W2.out; have := as_W3.out; have := sz_W3.out; have := sz_w4.out; have := as_W5.out; have := sz_W5.out; have := sz_w6.out; have := sz_w7.out; omega)
              iterate 3 (with_reducible refine OwnG.grown ?_ (grown_cellG _ _ _ _) ?_; rotate_left; (focus (exact OwnG.ne_of oL_w7.out (by have := as_W1.out; have := sz_W1.out; have := as_W2.out; have := sz_W2.out; have := as_W3.out; have := sz_W3.out; have := sz_w4.out; have := as_W5.out; have := sz_W5.out; have := sz_w6.out; have := sz_w7.out; omega))))
              with_reducible exact oL_w7.out
            · repeat (with_reducible refine Below.setCell ?_ ?_ _; rotate_left; (focus (first | (simp; done) | (simp; omega))))
              exact acc_w7.out
          · have h3 : decide ((1000000000 : Int) < N + span) = false := by have := of_decide_eq_true h2; exact decide_eq_false (by omega)
            rw [h2] at hr
            have hT : (T == 1000000000) = true := by simpa using hr
            clear hr h2
            go_enter Tryz.func8, Tryz.ntmps8
            go_wp2_with fail
            obtain ⟨bk0_W1, bk1_W1, bk2_W1⟩ := box3B w 26 (.slice a n c) (.int .i64 T) (.int .i64 N)
            have bkF_W1 : ∀ o, (w.alloc (.cells #[.slice a n c, .int .i64 T, .int .i64 N] 26)).frozen? ⟨w.heap.size, o, none⟩ = false := fun o => by simp [go_sem]
            have bkL_W1 : w.heap.size < (w.alloc (.cells #[.slice a n c, .int .i64 T, .int .i64 N] 26)).heap.size := by simp
            have ab_W1 := alloc_below w (.cells #[.slice a n c, .int .i64 T, .int .i64 N] 26)
            have as_W1 : Hid ((w.alloc (.cells #[.slice a n c, .int .i64 T, .int .i64 N] 26)).heap.size = w.heap.size + 1) := hidP (by simp)
            generalize w.alloc (.cells #[.slice a n c, .int .i64 T, .int .i64 N] 26) = W1 at *
            have acc_W1 := hidP (ab_W1)
            have sz_W1 : Hid (w.heap.size ≤ W1.heap.size) := hidP ab_W1.size
            clear ab_W1 
            obtain ⟨at0_W2, at1_W2, at2_W2⟩ := box3B W1 28 (.bool ad.s) (.int .i64 ad.H.toInt) (.int .i64 ad.L.toInt)
            have atF_W2 : ∀ o, (W1.alloc (.cells #[.bool ad.s, .int .i64 ad.H.toInt, .int .i64 ad.L.toInt] 28)).frozen? ⟨W1.heap.size, o, none⟩ = false := fun o => by simp [go_sem]
            have atL_W2 : W1.heap.size < (W1.alloc (.cells #[.bool ad.s, .int .i64 ad.H.toInt, .int .i64 ad.L.toInt] 28)).heap.size := by simp
            have ab_W2 := alloc_below W1 (.cells #[.bool ad.s, .int .i64 ad.H.toInt, .int .i64 ad.L.toInt] 28)
            have as_W2 : Hid ((W1.alloc (.cells #[.bool ad.s, .int .i64 ad.H.toInt, .int .i64 ad.L.toInt] 28)).heap.size = W1.heap.size + 1) := hidP (by simp)
            generalize W1.alloc (.cells #[.bool ad.s, .int .i64 ad.H.toInt, .int .i64 ad.L.toInt] 28) = W2 at *
            have bk0_W2 := (ab_W2.cell bkL_W1).trans bk0_W1
            have bk1_W2 := (ab_W2.cell bkL_W1).trans bk1_W1
            have bk2_W2 := (ab_W2.cell bkL_W1).trans bk2_W1
            have bkF_W2 : ∀ o, W2.frozen? ⟨w.heap.size, o, none⟩ = false := fun o => (ab_W2.frozen bkL_W1).trans (bkF_W1 o)
            have bkL_W2 : w.heap.size < W2.heap.size := Nat.lt_of_lt_of_le bkL_W1 ab_W2.size
            have acc_W2 := hidP (acc_W1.out.trans (ab_W2.mono acc_W1.out.size))
            have sz_W2 : Hid (W1.heap.size ≤ W2.heap.size) := hidP ab_W2.size
            clear ab_W2 bk0_W1 bk1_W1 bk2_W1 bkF_W1 bkL_W1 acc_W1
            rw [as_W1.out] at at0_W2 at1_W2 at2_W2 atL_W2
            have atF_W2' : ∀ o, W2.frozen? ⟨w.heap.size + 1, o, none⟩ = false := fun o => by have := atF_W2 o; rw [as_W1.out] at this; exact this
            clear atF_W2
            have atF_W2 := atF_W2'
            clear atF_W2'
            obtain ⟨rs0_W3, rs1_W3, rs2_W3⟩ := box3B W2 26 (.slice none 0 0) (.int .i64 0) (.int .i64 0)
            have rsF_W3 : ∀ o, (W2.alloc (.cells #[.slice none 0 0, .int .i64 0, .int .i64 0] 26)).frozen? ⟨W2.heap.size, o, none⟩ = false := fun o => by simp [go_sem]
            have rsL_W3 : W2.heap.size < (W2.alloc (.cells #[.slice none 0 0, .int .i64 0, .int .i64 0] 26)).heap.size := by simp
            have ab_W3 := alloc_below W2 (.cells #[.slice none 0 0, .int .i64 0, .int .i64 0] 26)
            have as_W3 : Hid ((W2.alloc (.cells #[.slice none 0 0, .int .i64 0, .int .i64 0] 26)).heap.size = W2.heap.size + 1) := hidP (by simp)
            generalize W2.alloc (.cells #[.slice none 0 0, .int .i64 0, .int .i64 0] 26) = W3 at *
            have bk0_W3 := (ab_W3.cell bkL_W2).trans bk0_W2
            have bk1_W3 := (ab_W3.cell bkL_W2).trans bk1_W2
            have bk2_W3 := (ab_W3.cell bkL_W2).trans bk2_W2
            have bkF_W3 : ∀ o, W3.frozen? ⟨w.heap.size, o, none⟩ = false := fun o => (ab_W3.frozen bkL_W2).trans (bkF_W2 o)
            have bkL_W3 : w.heap.size < W3.heap.size := Nat.lt_of_lt_of_le bkL_W2 ab_W3.size
            have at0_W3 := (ab_W3.cell atL_W2).trans at0_W2
            have at1_W3 := (ab_W3.cell atL_W2).trans at1_W2
            have at2_W3 := (ab_W3.cell atL_W2).trans at2_W2
            have atF_W3 : ∀ o, W3.frozen? ⟨w.heap.size + 1, o, none⟩ = false := fun o => (ab_W3.frozen atL_W2).trans (atF_W2 o)
            have atL_W3 : w.heap.size + 1 < W3.heap.size := Nat.lt_of_lt_of_le atL_W2 ab_W3.size
            have acc_W3 := hidP (acc_W2.out.trans (ab_W3.mono acc_W2.out.size))
            have sz_W3 : Hid (W2.heap.size ≤ W3.heap.size) := hidP ab_W3.size
            clear ab_W3 bk0_W2 bk1_W2 bk2_W2 bkF_W2 bkL_W2 at0_W2 at1_W2 at2_W2 atF_W2 atL_W2 acc_W2
            rw [as_W2.out, as_W1.out] at rs0_W3 rs1_W3 rs2_W3 rsL_W3
            have rsF_W3' : ∀ o, W3.frozen? ⟨w.heap.size + 1 + 1, o, none⟩ = false := fun o => by have := rsF_W3 o; rw [as_W2.out, as_W1.out] at this; exact this
            clear rsF_W3
            have rsF_W3 := rsF_W3'
            clear rsF_W3'
            refine (HOw.out _ acc_W3.out).mono ?_
            rintro e w4 ⟨a3, c3, rfl, og3, hb4⟩
            have og3' := hidP og3
            clear og3
            have bk0_w4 := (hb4.cell bkL_W3).trans bk0_W3
            have bk1_w4 := (hb4.cell bkL_W3).trans bk1_W3
            have bk2_w4 := (hb4.cell bkL_W3).trans bk2_W3
            have bkF_w4 : ∀ o, w4.frozen? ⟨w.heap.size, o, none⟩ = false := fun o => (hb4.frozen bkL_W3).trans (bkF_W3 o)
            have bkL_w4 : w.heap.size < w4.heap.size := Nat.lt_of_lt_of_le bkL_W3 hb4.size
            have at0_w4 := (hb4.cell atL_W3).trans at0_W3
            have at1_w4 := (hb4.cell atL_W3).trans at1_W3
            have at2_w4 := (hb4.cell atL_W3).trans at2_W3
            have atF_w4 : ∀ o, w4.frozen? ⟨w.heap.size + 1, o, none⟩ = false := fun o => (hb4.frozen atL_W3).trans (atF_W3 o)
            have atL_w4 : w.heap.size + 1 < w4.heap.size := Nat.lt_of_lt_of_le atL_W3 hb4.size
            have rs0_w4 := (hb4.cell rsL_W3).trans rs0_W3
            have rs1_w4 := (hb4.cell rsL_W3).trans rs1_W3
            have rs2_w4 := (hb4.cell rsL_W3).trans rs2_W3
            have rsF_w4 : ∀ o, w4.frozen? ⟨w.heap.size + 1 + 1, o, none⟩ = false := fun o => (hb4.frozen rsL_W3).trans (rsF_W3 o)
            have rsL_w4 : w.heap.size + 1 + 1 < w4.heap.size := Nat.lt_of_lt_of_le rsL_W3 hb4.size
            have acc_w4 := hidP (acc_W3.out.trans (hb4.mono acc_W3.out.size))
            have sz_w4 : Hid (W3.heap.size ≤ w4.heap.size) := hidP hb4.size
            clear hb4 bk0_W3 bk1_W3 bk2_W3 bkF_W3 bkL_W3 at0_W3 at1_W3 at2_W3 atF_W3 atL_W3 rs0_W3 rs1_W3 rs2_W3 rsF_W3 rsL_W3 acc_W3
            have oL_w4 := hidP (og3'.out)
            have lhL : Hid (∀ k, (Value.slice a3 n c3).ownBlock = some k → W3.heap.size ≤ k ∧ k < w4.heap.size) := hidP (fun k hk => OwnG.lt oL_w4.out k hk)
            clear og3'
            go_wp2_with fail
            obtain ⟨ou0_W5, ou1_W5, ou2_W5⟩ := box3B w4 26 (.slice a3 n c3) (.int .i64 T) (.int .i64 N)
            have ouF_W5 : ∀ o, (w4.alloc (.cells #[.slice a3 n c3, .int .i64 T, .int .i64 N] 26)).frozen? ⟨w4.heap.size, o, none⟩ = false := fun o => by simp [go_sem]
            have ouL_W5 : w4.heap.size < (w4.alloc (.cells #[.slice a3 n c3, .int .i64 T, .int .i64 N] 26)).heap.size := by simp
            have ab_W5 := alloc_below w4 (.cells #[.slice a3 n c3, .int .i64 T, .int .i64 N] 26)
            have as_W5 : Hid ((w4.alloc (.cells #[.slice a3 n c3, .int .i64 T, .int .i64 N] 26)).heap.size = w4.heap.size + 1) := hidP (by simp)
            generalize w4.alloc (.cells #[.slice a3 n c3, .int .i64 T, .int .i64 N] 26) = W5 at *
            have bk0_W5 := (ab_W5.cell bkL_w4).trans bk0_w4
            have bk1_W5 := (ab_W5.cell bkL_w4).trans bk1_w4
            have bk2_W5 := (ab_W5.cell bkL_w4).trans bk2_w4
            have bkF_W5 : ∀ o, W5.frozen? ⟨w.heap.size, o, none⟩ = false := fun o => (ab_W5.frozen bkL_w4).trans (bkF_w4 o)
            have bkL_W5 : w.heap.size < W5.heap.size := Nat.lt_of_lt_of_le bkL_w4 ab_W5.size
            have at0_W5 := (ab_W5.cell atL_w4).trans at0_w4
            have at1_W5 := (ab_W5.cell atL_w4).trans at1_w4
            have at2_W5 := (ab_W5.cell atL_w4).trans at2_w4
            have atF_W5 : ∀ o, W5.frozen? ⟨w.heap.size + 1, o, none⟩ = false := fun o => (ab_W5.frozen atL_w4).trans (atF_w4 o)
            have atL_W5 : w.heap.size + 1 < W5.heap.size := Nat.lt_of_lt_of_le atL_w4 ab_W5.size
            have rs0_W5 := (ab_W5.cell rsL_w4).trans rs0_w4
            have rs1_W5 := (ab_W5.cell rsL_w4).trans rs1_w4
            have rs2_W5 := (ab_W5.cell rsL_w4).trans rs2_w4
            have rsF_W5 : ∀ o, W5.frozen? ⟨w.heap.size + 1 + 1, o, none⟩ = false := fun o => (ab_W5.frozen rsL_w4).trans (rsF_w4 o)
            have rsL_W5 : w.heap.size + 1 + 1 < W5.heap.size := Nat.lt_of_lt_of_le rsL_w4 ab_W5.size
            have oL_W5 := hidP (OwnG.later oL_w4.out ab_W5)
            have acc_W5 := hidP (acc_w4.out.trans (ab_W5.mono acc_w4.out.size))
            have sz_W5 : Hid (w4.heap.size ≤ W5.heap.size) := hidP ab_W5.size
            clear ab_W5 bk0_w4 bk1_w4 bk2_w4 bkF_w4 bkL_w4 at0_w4 at1_w4 at2_w4 atF_w4 atL_w4 rs0_w4 rs1_w4 rs2_w4 rsF_w4 rsL_w4 oL_w4 acc_w4
            refine (HSp.out _ acc_W5.out).mono ?_
            rintro e w6 ⟨rfl, hb6⟩
            have bk0_w6 := (hb6.cell bkL_W5).trans bk0_W5
            have bk1_w6 := (hb6.cell bkL_W5).trans bk1_W5
            have bk2_w6 := (hb6.cell bkL_W5).trans bk2_W5
            have bkF_w6 : ∀ o, w6.frozen? ⟨w.heap.size, o, none⟩ = false := fun o => (hb6.frozen bkL_W5).trans (bkF_W5 o)
            have bkL_w6 : w.heap.size < w6.heap.size := Nat.lt_of_lt_of_le bkL_W5 hb6.size
            have at0_w6 := (hb6.cell atL_W5).trans at0_W5
            have at1_w6 := (hb6.cell atL_W5).trans at1_W5
            have at2_w6 := (hb6.cell atL_W5).trans at2_W5
            have atF_w6 : ∀ o, w6.frozen? ⟨w.heap.size + 1, o, none⟩ = false := fun o => (hb6.frozen atL_W5).trans (atF_W5 o)
            have atL_w6 : w.heap.size + 1 < w6.heap.size := Nat.lt_of_lt_of_le atL_W5 hb6.size
            have rs0_w6 := (hb6.cell rsL_W5).trans rs0_W5
            have rs1_w6 := (hb6.cell rsL_W5).trans rs1_W5
            have rs2_w6 := (hb6.cell rsL_W5).trans rs2_W5
            have rsF_w6 : ∀ o, w6.frozen? ⟨w.heap.size + 1 + 1, o, none⟩ = false := fun o => (hb6.frozen rsL_W5).trans (rsF_W5 o)
            have rsL_w6 : w.heap.size + 1 + 1 < w6.heap.size := Nat.lt_of_lt_of_le rsL_W5 hb6.size
            have ou0_w6 := (hb6.cell ouL_W5).trans ou0_W5
            have ou1_w6 := (hb6.cell ouL_W5).trans ou1_W5
            have ou2_w6 := (hb6.cell ouL_W5).trans ou2_W5
            have ouF_w6 : ∀ o, w6.frozen? ⟨w4.heap.size, o, none⟩ = false := fun o => (hb6.frozen ouL_W5).trans (ouF_W5 o)
            have ouL_w6 : w4.heap.size < w6.heap.size := Nat.lt_of_lt_of_le ouL_W5 hb6.size
            have oL_w6 := hidP (OwnG.later oL_W5.out hb6)
            have acc_w6 := hidP (acc_W5.out.trans (hb6.mono acc_W5.out.size))
            have sz_w6 : Hid (W5.heap.size ≤ w6.heap.size) := hidP hb6.size
            clear hb6 bk0_W5 bk1_W5 bk2_W5 bkF_W5 bkL_W5 at0_W5 at1_W5 at2_W5 atF_W5 atL_W5 rs0_W5 rs1_W5 rs2_W5 rsF_W5 rsL_W5 ou0_W5 ou1_W5 ou2_W5 ouF_W5 ouL_W5 oL_W5 acc_W5
            go_wp2_with fail
            refine (HAd.out _).mono ?_
            rintro e w7 ⟨rfl, hb7⟩
            have bk0_w7 := (hb7.cell bkL_w6).trans bk0_w6
            have bk1_w7 := (hb7.cell bkL_w6).trans bk1_w6
            have bk2_w7 := (hb7.cell bkL_w6).trans bk2_w6
            have bkF_w7 : ∀ o, w7.frozen? ⟨w.heap.size, o, none⟩ = false := fun o => (hb7.frozen bkL_w6).trans (bkF_w6 o)
            have bkL_w7 : w.heap.size < w7.heap.size := Nat.lt_of_lt_of_le bkL_w6 hb7.size
            have at0_w7 := (hb7.cell atL_w6).trans at0_w6
            have at1_w7 := (hb7.cell atL_w6).trans at1_w6
            have at2_w7 := (hb7.cell atL_w6).trans at2_w6
            have atF_w7 : ∀ o, w7.frozen? ⟨w.heap.size + 1, o, none⟩ = false := fun o => (hb7.frozen atL_w6).trans (atF_w6 o)
            have atL_w7 : w.heap.size + 1 < w7.heap.size := Nat.lt_of_lt_of_le atL_w6 hb7.size
            have rs0_w7 := (hb7.cell rsL_w6).trans rs0_w6
            have rs1_w7 := (hb7.cell rsL_w6).trans rs1_w6
            have rs2_w7 := (hb7.cell rsL_w6).trans rs2_w6
            have rsF_w7 : ∀ o, w7.frozen? ⟨w.heap.size + 1 + 1, o, none⟩ = false := fun o => (hb7.frozen rsL_w6).trans (rsF_w6 o)
            have rsL_w7 : w.heap.size + 1 + 1 < w7.heap.size := Nat.lt_of_lt_of_le rsL_w6 hb7.size
            have ou0_w7 := (hb7.cell ouL_w6).trans ou0_w6
            have ou1_w7 := (hb7.cell ouL_w6).trans ou1_w6
            have ou2_w7 := (hb7.cell ouL_w6).trans ou2_w6
            have ouF_w7 : ∀ o, w7.frozen? ⟨w4.heap.size, o, none⟩ = false := fun o => (hb7.frozen ouL_w6).trans (ouF_w6 o)
            have ouL_w7 : w4.heap.size < w7.heap.size := Nat.lt_of_lt_of_le ouL_w6 hb7.size
            have oL_w7 := hidP (OwnG.later oL_w6.out hb7)
            have acc_w7 := hidP (acc_w6.out.trans (hb7.mono acc_w6.out.size))
            have sz_w7 : Hid (w6.heap.size ≤ w7.heap.size) := hidP hb7.size
            clear hb7 bk0_w6 bk1_w6 bk2_w6 bkF_w6 bkL_w6 at0_w6 at1_w6 at2_w6 atF_w6 atL_w6 rs0_w6 rs1_w6 rs2_w6 rsF_w6 rsL_w6 ou0_w6 ou1_w6 ou2_w6 ouF_w6 ouL_w6 oL_w6 acc_w6
            go_wp2_with fail
            refine (HOn.out _).mono ?_
            rintro e w8' ⟨rfl, hw8'⟩
            rw [hw8']
            clear hw8' w8'
            go_wp2_with fail
            refine (HI.out _).mono ?_
            rintro e w9' ⟨rfl, hw9'⟩
            rw [hw9']
            clear hw9' w9'
            go_wp2_with fail
            refine bodyPost_ret (v := .tuple #[.agg #[.slice a3 n c3, .int .i64 T, .int .i64 N], .int .i64 0, .int .i64 10]) (by simp [results, Tryz.results8, go_sem, rs0_w7, rs1_w7, rs2_w7]) rfl ⟨_, _, rfl, ?_, ?_⟩
            · refine OwnG.mono (B := W3.heap.size) ?_ (by have := as_W1.out; have := sz_W1.out; have := as_W2.out; have := sz_W2.out; have := as_W3.out; have := sz_W3.out; have := sz_w4.out; have := as_W5.out; have := sz_W5.out; have := sz_w6.out; have := sz_w7.out; omega)
              iterate 3 (with_reducible refine OwnG.grown ?_ (grown_cellG _ _ _ _) ?_; rotate_left; (focus (exact OwnG.ne_of oL_w7.out (by have := as_W1.out; have := sz_W1.out; have := as_W2.out; have := sz_W2.out; have := as_W3.out; have := sz_W3.out; have := sz_w4.out; have := as_W5.out; have := sz_W5.out; have := sz_w6.out; have := sz_w7.out; omega))))
              with_reducible exact oL_w7.out
            · repeat (with_reducible refine Below.setCell ?_ ?_ _; rotate_left; (focus (first | (simp; done) | (simp; omega))))
              exact acc_w7.out

set_option maxRecDepth 10000 in
set_option maxHeartbeats 4000000 in
theorem sGr_held (a : Option Addr) (n c : Nat) (T N : Int) (ls : List Ls) (ad : Ad) (own : ByteArray) (span : Int) (w : World) (hn : n = ls.length) (hB : RowG KLs w a ls) (hl : n ≤ 1048576) (hc : a = none → c = 0) (hst : ∀ q ∈ ls, q.t.size ≤ 9223372036854775807) (hos : own.size ≤ 9223372036854775807) (hr : gokB ls T N ad own span = true) (I : Nat) (hx : fxL ls ad = some I) :
    Calls Tryz.prog 8 #[.agg #[.slice a n c, .int .i64 T, .int .i64 N], .agg #[.bool ad.s, .int .i64 ad.H.toInt, .int .i64 ad.L.toInt], .string own, .int .i64 span] w fun e w' => ∃ a' c', e = .returned (.tuple #[.agg #[.slice a' n c', .int .i64 T, .int .i64 N], .int .i64 0, .int .i64 11]) ∧ OwnG KLs 35 w' w.heap.size (.slice a' n c') (ls) ∧ Below w.heap.size w w' := by
  have HOn := hidP (fun W => sOwnerOk_any own W hos)
  have HI := hidP (l1InO_any span 1 1000)
  have HFi := hidP (fun W h => l6Find_any a n c T N ls ad W hn (hB.later h) hl)
  have HOw := hidP (fun W h => l6Copy_any (a) n c T N ls W hn (hB.later h) hc hl)
  have HSp := hidP (fun W h => sBookOk_any (a) n c T N ls W hn (hB.later h) hl hst)
  have HAd := hidP (sAddrOk_any ad.s ad.H.toInt ad.L.toInt)
  have HN := hidP hn
  have HR := hidP (fun W h => hB.later (w' := W) h)
  have hok : ad.ok = okB ad.s ad.H.toInt ad.L.toInt := rfl
  unfold gokB at hr
  simp only [Bool.and_eq_true] at hr
  obtain ⟨hb, ho, hw, ⟨⟨h1, h1b⟩, h2⟩, hT0⟩ := hr
  have h1c : (decide (1 ≤ span) && decide (span ≤ 1000)) = true := by rw [h1, h1b]; rfl
  obtain ⟨hw1, hw2⟩ := sp_wrap (bk_now hb) h1c
  have h3 : decide ((1000000000 : Int) < N + span) = false := by have := of_decide_eq_true h2; exact decide_eq_false (by omega)
  have hT : (T == 1000000000) = false := by simpa using hT0
  rw [hok] at ho
  rw [hb] at HSp
  rw [ho] at HAd
  rw [hw] at HOn
  rw [h1c] at HI
  clear hB hn hst hok hos hc hb ho hw h1 h1b h1c h2 hT0
  go_enter Tryz.func8, Tryz.ntmps8
  go_wp2_with fail
  obtain ⟨bk0_W1, bk1_W1, bk2_W1⟩ := box3B w 26 (.slice a n c) (.int .i64 T) (.int .i64 N)
  have bkF_W1 : ∀ o, (w.alloc (.cells #[.slice a n c, .int .i64 T, .int .i64 N] 26)).frozen? ⟨w.heap.size, o, none⟩ = false := fun o => by simp [go_sem]
  have bkL_W1 : w.heap.size < (w.alloc (.cells #[.slice a n c, .int .i64 T, .int .i64 N] 26)).heap.size := by simp
  have ab_W1 := alloc_below w (.cells #[.slice a n c, .int .i64 T, .int .i64 N] 26)
  have as_W1 : Hid ((w.alloc (.cells #[.slice a n c, .int .i64 T, .int .i64 N] 26)).heap.size = w.heap.size + 1) := hidP (by simp)
  generalize w.alloc (.cells #[.slice a n c, .int .i64 T, .int .i64 N] 26) = W1 at *
  have acc_W1 := hidP (ab_W1)
  have sz_W1 : Hid (w.heap.size ≤ W1.heap.size) := hidP ab_W1.size
  clear ab_W1 
  obtain ⟨at0_W2, at1_W2, at2_W2⟩ := box3B W1 28 (.bool ad.s) (.int .i64 ad.H.toInt) (.int .i64 ad.L.toInt)
  have atF_W2 : ∀ o, (W1.alloc (.cells #[.bool ad.s, .int .i64 ad.H.toInt, .int .i64 ad.L.toInt] 28)).frozen? ⟨W1.heap.size, o, none⟩ = false := fun o => by simp [go_sem]
  have atL_W2 : W1.heap.size < (W1.alloc (.cells #[.bool ad.s, .int .i64 ad.H.toInt, .int .i64 ad.L.toInt] 28)).heap.size := by simp
  have ab_W2 := alloc_below W1 (.cells #[.bool ad.s, .int .i64 ad.H.toInt, .int .i64 ad.L.toInt] 28)
  have as_W2 : Hid ((W1.alloc (.cells #[.bool ad.s, .int .i64 ad.H.toInt, .int .i64 ad.L.toInt] 28)).heap.size = W1.heap.size + 1) := hidP (by simp)
  generalize W1.alloc (.cells #[.bool ad.s, .int .i64 ad.H.toInt, .int .i64 ad.L.toInt] 28) = W2 at *
  have bk0_W2 := (ab_W2.cell bkL_W1).trans bk0_W1
  have bk1_W2 := (ab_W2.cell bkL_W1).trans bk1_W1
  have bk2_W2 := (ab_W2.cell bkL_W1).trans bk2_W1
  have bkF_W2 : ∀ o, W2.frozen? ⟨w.heap.size, o, none⟩ = false := fun o => (ab_W2.frozen bkL_W1).trans (bkF_W1 o)
  have bkL_W2 : w.heap.size < W2.heap.size := Nat.lt_of_lt_of_le bkL_W1 ab_W2.size
  have acc_W2 := hidP (acc_W1.out.trans (ab_W2.mono acc_W1.out.size))
  have sz_W2 : Hid (W1.heap.size ≤ W2.heap.size) := hidP ab_W2.size
  clear ab_W2 bk0_W1 bk1_W1 bk2_W1 bkF_W1 bkL_W1 acc_W1
  rw [as_W1.out] at at0_W2 at1_W2 at2_W2 atL_W2
  have atF_W2' : ∀ o, W2.frozen? ⟨w.heap.size + 1, o, none⟩ = false := fun o => by have := atF_W2 o; rw [as_W1.out] at this; exact this
  clear atF_W2
  have atF_W2 := atF_W2'
  clear atF_W2'
  obtain ⟨rs0_W3, rs1_W3, rs2_W3⟩ := box3B W2 26 (.slice none 0 0) (.int .i64 0) (.int .i64 0)
  have rsF_W3 : ∀ o, (W2.alloc (.cells #[.slice none 0 0, .int .i64 0, .int .i64 0] 26)).frozen? ⟨W2.heap.size, o, none⟩ = false := fun o => by simp [go_sem]
  have rsL_W3 : W2.heap.size < (W2.alloc (.cells #[.slice none 0 0, .int .i64 0, .int .i64 0] 26)).heap.size := by simp
  have ab_W3 := alloc_below W2 (.cells #[.slice none 0 0, .int .i64 0, .int .i64 0] 26)
  have as_W3 : Hid ((W2.alloc (.cells #[.slice none 0 0, .int .i64 0, .int .i64 0] 26)).heap.size = W2.heap.size + 1) := hidP (by simp)
  generalize W2.alloc (.cells #[.slice none 0 0, .int .i64 0, .int .i64 0] 26) = W3 at *
  have bk0_W3 := (ab_W3.cell bkL_W2).trans bk0_W2
  have bk1_W3 := (ab_W3.cell bkL_W2).trans bk1_W2
  have bk2_W3 := (ab_W3.cell bkL_W2).trans bk2_W2
  have bkF_W3 : ∀ o, W3.frozen? ⟨w.heap.size, o, none⟩ = false := fun o => (ab_W3.frozen bkL_W2).trans (bkF_W2 o)
  have bkL_W3 : w.heap.size < W3.heap.size := Nat.lt_of_lt_of_le bkL_W2 ab_W3.size
  have at0_W3 := (ab_W3.cell atL_W2).trans at0_W2
  have at1_W3 := (ab_W3.cell atL_W2).trans at1_W2
  have at2_W3 := (ab_W3.cell atL_W2).trans at2_W2
  have atF_W3 : ∀ o, W3.frozen? ⟨w.heap.size + 1, o, none⟩ = false := fun o => (ab_W3.frozen atL_W2).trans (atF_W2 o)
  have atL_W3 : w.heap.size + 1 < W3.heap.size := Nat.lt_of_lt_of_le atL_W2 ab_W3.size
  have acc_W3 := hidP (acc_W2.out.trans (ab_W3.mono acc_W2.out.size))
  have sz_W3 : Hid (W2.heap.size ≤ W3.heap.size) := hidP ab_W3.size
  clear ab_W3 bk0_W2 bk1_W2 bk2_W2 bkF_W2 bkL_W2 at0_W2 at1_W2 at2_W2 atF_W2 atL_W2 acc_W2
  rw [as_W2.out, as_W1.out] at rs0_W3 rs1_W3 rs2_W3 rsL_W3
  have rsF_W3' : ∀ o, W3.frozen? ⟨w.heap.size + 1 + 1, o, none⟩ = false := fun o => by have := rsF_W3 o; rw [as_W2.out, as_W1.out] at this; exact this
  clear rsF_W3
  have rsF_W3 := rsF_W3'
  clear rsF_W3'
  refine (HOw.out _ acc_W3.out).mono ?_
  rintro e w4 ⟨a3, c3, rfl, og3, hb4⟩
  have og3' := hidP og3
  clear og3
  have bk0_w4 := (hb4.cell bkL_W3).trans bk0_W3
  have bk1_w4 := (hb4.cell bkL_W3).trans bk1_W3
  have bk2_w4 := (hb4.cell bkL_W3).trans bk2_W3
  have bkF_w4 : ∀ o, w4.frozen? ⟨w.heap.size, o, none⟩ = false := fun o => (hb4.frozen bkL_W3).trans (bkF_W3 o)
  have bkL_w4 : w.heap.size < w4.heap.size := Nat.lt_of_lt_of_le bkL_W3 hb4.size
  have at0_w4 := (hb4.cell atL_W3).trans at0_W3
  have at1_w4 := (hb4.cell atL_W3).trans at1_W3
  have at2_w4 := (hb4.cell atL_W3).trans at2_W3
  have atF_w4 : ∀ o, w4.frozen? ⟨w.heap.size + 1, o, none⟩ = false := fun o => (hb4.frozen atL_W3).trans (atF_W3 o)
  have atL_w4 : w.heap.size + 1 < w4.heap.size := Nat.lt_of_lt_of_le atL_W3 hb4.size
  have rs0_w4 := (hb4.cell rsL_W3).trans rs0_W3
  have rs1_w4 := (hb4.cell rsL_W3).trans rs1_W3
  have rs2_w4 := (hb4.cell rsL_W3).trans rs2_W3
  have rsF_w4 : ∀ o, w4.frozen? ⟨w.heap.size + 1 + 1, o, none⟩ = false := fun o => (hb4.frozen rsL_W3).trans (rsF_W3 o)
  have rsL_w4 : w.heap.size + 1 + 1 < w4.heap.size := Nat.lt_of_lt_of_le rsL_W3 hb4.size
  have acc_w4 := hidP (acc_W3.out.trans (hb4.mono acc_W3.out.size))
  have sz_w4 : Hid (W3.heap.size ≤ w4.heap.size) := hidP hb4.size
  clear hb4 bk0_W3 bk1_W3 bk2_W3 bkF_W3 bkL_W3 at0_W3 at1_W3 at2_W3 atF_W3 atL_W3 rs0_W3 rs1_W3 rs2_W3 rsF_W3 rsL_W3 acc_W3
  have oL_w4 := hidP (og3'.out)
  have lhL : Hid (∀ k, (Value.slice a3 n c3).ownBlock = some k → W3.heap.size ≤ k ∧ k < w4.heap.size) := hidP (fun k hk => OwnG.lt oL_w4.out k hk)
  clear og3'
  go_wp2_with fail
  obtain ⟨ou0_W5, ou1_W5, ou2_W5⟩ := box3B w4 26 (.slice a3 n c3) (.int .i64 T) (.int .i64 N)
  have ouF_W5 : ∀ o, (w4.alloc (.cells #[.slice a3 n c3, .int .i64 T, .int .i64 N] 26)).frozen? ⟨w4.heap.size, o, none⟩ = false := fun o => by simp [go_sem]
  have ouL_W5 : w4.heap.size < (w4.alloc (.cells #[.slice a3 n c3, .int .i64 T, .int .i64 N] 26)).heap.size := by simp
  have ab_W5 := alloc_below w4 (.cells #[.slice a3 n c3, .int .i64 T, .int .i64 N] 26)
  have as_W5 : Hid ((w4.alloc (.cells #[.slice a3 n c3, .int .i64 T, .int .i64 N] 26)).heap.size = w4.heap.size + 1) := hidP (by simp)
  generalize w4.alloc (.cells #[.slice a3 n c3, .int .i64 T, .int .i64 N] 26) = W5 at *
  have bk0_W5 := (ab_W5.cell bkL_w4).trans bk0_w4
  have bk1_W5 := (ab_W5.cell bkL_w4).trans bk1_w4
  have bk2_W5 := (ab_W5.cell bkL_w4).trans bk2_w4
  have bkF_W5 : ∀ o, W5.frozen? ⟨w.heap.size, o, none⟩ = false := fun o => (ab_W5.frozen bkL_w4).trans (bkF_w4 o)
  have bkL_W5 : w.heap.size < W5.heap.size := Nat.lt_of_lt_of_le bkL_w4 ab_W5.size
  have at0_W5 := (ab_W5.cell atL_w4).trans at0_w4
  have at1_W5 := (ab_W5.cell atL_w4).trans at1_w4
  have at2_W5 := (ab_W5.cell atL_w4).trans at2_w4
  have atF_W5 : ∀ o, W5.frozen? ⟨w.heap.size + 1, o, none⟩ = false := fun o => (ab_W5.frozen atL_w4).trans (atF_w4 o)
  have atL_W5 : w.heap.size + 1 < W5.heap.size := Nat.lt_of_lt_of_le atL_w4 ab_W5.size
  have rs0_W5 := (ab_W5.cell rsL_w4).trans rs0_w4
  have rs1_W5 := (ab_W5.cell rsL_w4).trans rs1_w4
  have rs2_W5 := (ab_W5.cell rsL_w4).trans rs2_w4
  have rsF_W5 : ∀ o, W5.frozen? ⟨w.heap.size + 1 + 1, o, none⟩ = false := fun o => (ab_W5.frozen rsL_w4).trans (rsF_w4 o)
  have rsL_W5 : w.heap.size + 1 + 1 < W5.heap.size := Nat.lt_of_lt_of_le rsL_w4 ab_W5.size
  have oL_W5 := hidP (OwnG.later oL_w4.out ab_W5)
  have acc_W5 := hidP (acc_w4.out.trans (ab_W5.mono acc_w4.out.size))
  have sz_W5 : Hid (w4.heap.size ≤ W5.heap.size) := hidP ab_W5.size
  clear ab_W5 bk0_w4 bk1_w4 bk2_w4 bkF_w4 bkL_w4 at0_w4 at1_w4 at2_w4 atF_w4 atL_w4 rs0_w4 rs1_w4 rs2_w4 rsF_w4 rsL_w4 oL_w4 acc_w4
  refine (HSp.out _ acc_W5.out).mono ?_
  rintro e w6 ⟨rfl, hb6⟩
  have bk0_w6 := (hb6.cell bkL_W5).trans bk0_W5
  have bk1_w6 := (hb6.cell bkL_W5).trans bk1_W5
  have bk2_w6 := (hb6.cell bkL_W5).trans bk2_W5
  have bkF_w6 : ∀ o, w6.frozen? ⟨w.heap.size, o, none⟩ = false := fun o => (hb6.frozen bkL_W5).trans (bkF_W5 o)
  have bkL_w6 : w.heap.size < w6.heap.size := Nat.lt_of_lt_of_le bkL_W5 hb6.size
  have at0_w6 := (hb6.cell atL_W5).trans at0_W5
  have at1_w6 := (hb6.cell atL_W5).trans at1_W5
  have at2_w6 := (hb6.cell atL_W5).trans at2_W5
  have atF_w6 : ∀ o, w6.frozen? ⟨w.heap.size + 1, o, none⟩ = false := fun o => (hb6.frozen atL_W5).trans (atF_W5 o)
  have atL_w6 : w.heap.size + 1 < w6.heap.size := Nat.lt_of_lt_of_le atL_W5 hb6.size
  have rs0_w6 := (hb6.cell rsL_W5).trans rs0_W5
  have rs1_w6 := (hb6.cell rsL_W5).trans rs1_W5
  have rs2_w6 := (hb6.cell rsL_W5).trans rs2_W5
  have rsF_w6 : ∀ o, w6.frozen? ⟨w.heap.size + 1 + 1, o, none⟩ = false := fun o => (hb6.frozen rsL_W5).trans (rsF_W5 o)
  have rsL_w6 : w.heap.size + 1 + 1 < w6.heap.size := Nat.lt_of_lt_of_le rsL_W5 hb6.size
  have ou0_w6 := (hb6.cell ouL_W5).trans ou0_W5
  have ou1_w6 := (hb6.cell ouL_W5).trans ou1_W5
  have ou2_w6 := (hb6.cell ouL_W5).trans ou2_W5
  have ouF_w6 : ∀ o, w6.frozen? ⟨w4.heap.size, o, none⟩ = false := fun o => (hb6.frozen ouL_W5).trans (ouF_W5 o)
  have ouL_w6 : w4.heap.size < w6.heap.size := Nat.lt_of_lt_of_le ouL_W5 hb6.size
  have oL_w6 := hidP (OwnG.later oL_W5.out hb6)
  have acc_w6 := hidP (acc_W5.out.trans (hb6.mono acc_W5.out.size))
  have sz_w6 : Hid (W5.heap.size ≤ w6.heap.size) := hidP hb6.size
  clear hb6 bk0_W5 bk1_W5 bk2_W5 bkF_W5 bkL_W5 at0_W5 at1_W5 at2_W5 atF_W5 atL_W5 rs0_W5 rs1_W5 rs2_W5 rsF_W5 rsL_W5 ou0_W5 ou1_W5 ou2_W5 ouF_W5 ouL_W5 oL_W5 acc_W5
  go_wp2_with fail
  refine (HAd.out _).mono ?_
  rintro e w7 ⟨rfl, hb7⟩
  have bk0_w7 := (hb7.cell bkL_w6).trans bk0_w6
  have bk1_w7 := (hb7.cell bkL_w6).trans bk1_w6
  have bk2_w7 := (hb7.cell bkL_w6).trans bk2_w6
  have bkF_w7 : ∀ o, w7.frozen? ⟨w.heap.size, o, none⟩ = false := fun o => (hb7.frozen bkL_w6).trans (bkF_w6 o)
  have bkL_w7 : w.heap.size < w7.heap.size := Nat.lt_of_lt_of_le bkL_w6 hb7.size
  have at0_w7 := (hb7.cell atL_w6).trans at0_w6
  have at1_w7 := (hb7.cell atL_w6).trans at1_w6
  have at2_w7 := (hb7.cell atL_w6).trans at2_w6
  have atF_w7 : ∀ o, w7.frozen? ⟨w.heap.size + 1, o, none⟩ = false := fun o => (hb7.frozen atL_w6).trans (atF_w6 o)
  have atL_w7 : w.heap.size + 1 < w7.heap.size := Nat.lt_of_lt_of_le atL_w6 hb7.size
  have rs0_w7 := (hb7.cell rsL_w6).trans rs0_w6
  have rs1_w7 := (hb7.cell rsL_w6).trans rs1_w6
  have rs2_w7 := (hb7.cell rsL_w6).trans rs2_w6
  have rsF_w7 : ∀ o, w7.frozen? ⟨w.heap.size + 1 + 1, o, none⟩ = false := fun o => (hb7.frozen rsL_w6).trans (rsF_w6 o)
  have rsL_w7 : w.heap.size + 1 + 1 < w7.heap.size := Nat.lt_of_lt_of_le rsL_w6 hb7.size
  have ou0_w7 := (hb7.cell ouL_w6).trans ou0_w6
  have ou1_w7 := (hb7.cell ouL_w6).trans ou1_w6
  have ou2_w7 := (hb7.cell ouL_w6).trans ou2_w6
  have ouF_w7 : ∀ o, w7.frozen? ⟨w4.heap.size, o, none⟩ = false := fun o => (hb7.frozen ouL_w6).trans (ouF_w6 o)
  have ouL_w7 : w4.heap.size < w7.heap.size := Nat.lt_of_lt_of_le ouL_w6 hb7.size
  have oL_w7 := hidP (OwnG.later oL_w6.out hb7)
  have acc_w7 := hidP (acc_w6.out.trans (hb7.mono acc_w6.out.size))
  have sz_w7 : Hid (w6.heap.size ≤ w7.heap.size) := hidP hb7.size
  clear hb7 bk0_w6 bk1_w6 bk2_w6 bkF_w6 bkL_w6 at0_w6 at1_w6 at2_w6 atF_w6 atL_w6 rs0_w6 rs1_w6 rs2_w6 rsF_w6 rsL_w6 ou0_w6 ou1_w6 ou2_w6 ouF_w6 ouL_w6 oL_w6 acc_w6
  go_wp2_with fail
  refine (HOn.out _).mono ?_
  rintro e w8' ⟨rfl, hw8'⟩
  rw [hw8']
  clear hw8' w8'
  go_wp2_with fail
  refine (HI.out _).mono ?_
  rintro e w9' ⟨rfl, hw9'⟩
  rw [hw9']
  clear hw9' w9'
  go_wp2_with fail
  refine (HFi.out _ acc_w7.out).mono ?_
  rintro e w8 ⟨rfl, hb8⟩
  have bk0_w8 := (hb8.cell bkL_w7).trans bk0_w7
  have bk1_w8 := (hb8.cell bkL_w7).trans bk1_w7
  have bk2_w8 := (hb8.cell bkL_w7).trans bk2_w7
  have bkF_w8 : ∀ o, w8.frozen? ⟨w.heap.size, o, none⟩ = false := fun o => (hb8.frozen bkL_w7).trans (bkF_w7 o)
  have bkL_w8 : w.heap.size < w8.heap.size := Nat.lt_of_lt_of_le bkL_w7 hb8.size
  have at0_w8 := (hb8.cell atL_w7).trans at0_w7
  have at1_w8 := (hb8.cell atL_w7).trans at1_w7
  have at2_w8 := (hb8.cell atL_w7).trans at2_w7
  have atF_w8 : ∀ o, w8.frozen? ⟨w.heap.size + 1, o, none⟩ = false := fun o => (hb8.frozen atL_w7).trans (atF_w7 o)
  have atL_w8 : w.heap.size + 1 < w8.heap.size := Nat.lt_of_lt_of_le atL_w7 hb8.size
  have rs0_w8 := (hb8.cell rsL_w7).trans rs0_w7
  have rs1_w8 := (hb8.cell rsL_w7).trans rs1_w7
  have rs2_w8 := (hb8.cell rsL_w7).trans rs2_w7
  have rsF_w8 : ∀ o, w8.frozen? ⟨w.heap.size + 1 + 1, o, none⟩ = false := fun o => (hb8.frozen rsL_w7).trans (rsF_w7 o)
  have rsL_w8 : w.heap.size + 1 + 1 < w8.heap.size := Nat.lt_of_lt_of_le rsL_w7 hb8.size
  have ou0_w8 := (hb8.cell ouL_w7).trans ou0_w7
  have ou1_w8 := (hb8.cell ouL_w7).trans ou1_w7
  have ou2_w8 := (hb8.cell ouL_w7).trans ou2_w7
  have ouF_w8 : ∀ o, w8.frozen? ⟨w4.heap.size, o, none⟩ = false := fun o => (hb8.frozen ouL_w7).trans (ouF_w7 o)
  have ouL_w8 : w4.heap.size < w8.heap.size := Nat.lt_of_lt_of_le ouL_w7 hb8.size
  have oL_w8 := hidP (OwnG.later oL_w7.out hb8)
  have acc_w8 := hidP (acc_w7.out.trans (hb8.mono acc_w7.out.size))
  have sz_w8 : Hid (w7.heap.size ≤ w8.heap.size) := hidP hb8.size
  clear hb8 bk0_w7 bk1_w7 bk2_w7 bkF_w7 bkL_w7 at0_w7 at1_w7 at2_w7 atF_w7 atL_w7 rs0_w7 rs1_w7 rs2_w7 rsF_w7 rsL_w7 ou0_w7 ou1_w7 ou2_w7 ouF_w7 ouL_w7 oL_w7 acc_w7
  have hfi : fxI ls ad = (I : Int) := by unfold fxI; rw [hx]
  rw [hfi]
  have hi0 : (0 : Int) ≤ (I : Int) := by omega
  clear hfi
  go_wp2_with fail
  refine bodyPost_ret (v := .tuple #[.agg #[.slice a3 n c3, .int .i64 T, .int .i64 N], .int .i64 0, .int .i64 11]) (by simp [results, Tryz.results8, go_sem, rs0_w8, rs1_w8, rs2_w8]) rfl ⟨_, _, rfl, ?_, ?_⟩
  · refine OwnG.mono (B := W3.heap.size) ?_ (by have := as_W1.out; have := sz_W1.out; have := as_W2.out; have := sz_W2.out; have := as_W3.out; have := sz_W3.out; have := sz_w4.out; have := as_W5.out; have := sz_W5.out; have := sz_w6.out; have := sz_w7.out; have := sz_w8.out; omega)
    iterate 3 (with_reducible refine OwnG.grown ?_ (grown_cellG _ _ _ _) ?_; rotate_left; (focus (exact OwnG.ne_of oL_w8.out (by have := as_W1.out; have := sz_W1.out; have := as_W2.out; have := sz_W2.out; have := as_W3.out; have := sz_W3.out; have := sz_w4.out; have := as_W5.out; have := sz_W5.out; have := sz_w6.out; have := sz_w7.out; have := sz_w8.out; omega))))
    with_reducible exact oL_w8.out
  · repeat (with_reducible refine Below.setCell ?_ ?_ _; rotate_left; (focus (first | (simp; done) | (simp; omega))))
    exact acc_w8.out

set_option maxRecDepth 10000 in
set_option maxHeartbeats 4000000 in
theorem sGr_many (a : Option Addr) (n c : Nat) (T N : Int) (ls : List Ls) (ad : Ad) (own : ByteArray) (span : Int) (w : World) (hn : n = ls.length) (hB : RowG KLs w a ls) (hl : n ≤ 1048576) (hc : a = none → c = 0) (hst : ∀ q ∈ ls, q.t.size ≤ 9223372036854775807) (hos : own.size ≤ 9223372036854775807) (hr : gokB ls T N ad own span = true) (hx : fxL ls ad = none) (h80 : n = 80) :
    Calls Tryz.prog 8 #[.agg #[.slice a n c, .int .i64 T, .int .i64 N], .agg #[.bool ad.s, .int .i64 ad.H.toInt, .int .i64 ad.L.toInt], .string own, .int .i64 span] w fun e w' => ∃ a' c', e = .returned (.tuple #[.agg #[.slice a' n c', .int .i64 T, .int .i64 N], .int .i64 0, .int .i64 12]) ∧ OwnG KLs 35 w' w.heap.size (.slice a' n c') (ls) ∧ Below w.heap.size w w' := by
  have HOn := hidP (fun W => sOwnerOk_any own W hos)
  have HI := hidP (l1InO_any span 1 1000)
  have HFi := hidP (fun W h => l6Find_any a n c T N ls ad W hn (hB.later h) hl)
  have HOw := hidP (fun W h => l6Copy_any (a) n c T N ls W hn (hB.later h) hc hl)
  have HSp := hidP (fun W h => sBookOk_any (a) n c T N ls W hn (hB.later h) hl hst)
  have HAd := hidP (sAddrOk_any ad.s ad.H.toInt ad.L.toInt)
  have HN := hidP hn
  have HR := hidP (fun W h => hB.later (w' := W) h)
  have hok : ad.ok = okB ad.s ad.H.toInt ad.L.toInt := rfl
  unfold gokB at hr
  simp only [Bool.and_eq_true] at hr
  obtain ⟨hb, ho, hw, ⟨⟨h1, h1b⟩, h2⟩, hT0⟩ := hr
  have h1c : (decide (1 ≤ span) && decide (span ≤ 1000)) = true := by rw [h1, h1b]; rfl
  obtain ⟨hw1, hw2⟩ := sp_wrap (bk_now hb) h1c
  have h3 : decide ((1000000000 : Int) < N + span) = false := by have := of_decide_eq_true h2; exact decide_eq_false (by omega)
  have hT : (T == 1000000000) = false := by simpa using hT0
  rw [hok] at ho
  rw [hb] at HSp
  rw [ho] at HAd
  rw [hw] at HOn
  rw [h1c] at HI
  clear hB hn hst hok hos hc hb ho hw h1 h1b h1c h2 hT0
  have H80 := hidP h80
  clear h80
  go_enter Tryz.func8, Tryz.ntmps8
  go_wp2_with fail
  obtain ⟨bk0_W1, bk1_W1, bk2_W1⟩ := box3B w 26 (.slice a n c) (.int .i64 T) (.int .i64 N)
  have bkF_W1 : ∀ o, (w.alloc (.cells #[.slice a n c, .int .i64 T, .int .i64 N] 26)).frozen? ⟨w.heap.size, o, none⟩ = false := fun o => by simp [go_sem]
  have bkL_W1 : w.heap.size < (w.alloc (.cells #[.slice a n c, .int .i64 T, .int .i64 N] 26)).heap.size := by simp
  have ab_W1 := alloc_below w (.cells #[.slice a n c, .int .i64 T, .int .i64 N] 26)
  have as_W1 : Hid ((w.alloc (.cells #[.slice a n c, .int .i64 T, .int .i64 N] 26)).heap.size = w.heap.size + 1) := hidP (by simp)
  generalize w.alloc (.cells #[.slice a n c, .int .i64 T, .int .i64 N] 26) = W1 at *
  have acc_W1 := hidP (ab_W1)
  have sz_W1 : Hid (w.heap.size ≤ W1.heap.size) := hidP ab_W1.size
  clear ab_W1 
  obtain ⟨at0_W2, at1_W2, at2_W2⟩ := box3B W1 28 (.bool ad.s) (.int .i64 ad.H.toInt) (.int .i64 ad.L.toInt)
  have atF_W2 : ∀ o, (W1.alloc (.cells #[.bool ad.s, .int .i64 ad.H.toInt, .int .i64 ad.L.toInt] 28)).frozen? ⟨W1.heap.size, o, none⟩ = false := fun o => by simp [go_sem]
  have atL_W2 : W1.heap.size < (W1.alloc (.cells #[.bool ad.s, .int .i64 ad.H.toInt, .int .i64 ad.L.toInt] 28)).heap.size := by simp
  have ab_W2 := alloc_below W1 (.cells #[.bool ad.s, .int .i64 ad.H.toInt, .int .i64 ad.L.toInt] 28)
  have as_W2 : Hid ((W1.alloc (.cells #[.bool ad.s, .int .i64 ad.H.toInt, .int .i64 ad.L.toInt] 28)).heap.size = W1.heap.size + 1) := hidP (by simp)
  generalize W1.alloc (.cells #[.bool ad.s, .int .i64 ad.H.toInt, .int .i64 ad.L.toInt] 28) = W2 at *
  have bk0_W2 := (ab_W2.cell bkL_W1).trans bk0_W1
  have bk1_W2 := (ab_W2.cell bkL_W1).trans bk1_W1
  have bk2_W2 := (ab_W2.cell bkL_W1).trans bk2_W1
  have bkF_W2 : ∀ o, W2.frozen? ⟨w.heap.size, o, none⟩ = false := fun o => (ab_W2.frozen bkL_W1).trans (bkF_W1 o)
  have bkL_W2 : w.heap.size < W2.heap.size := Nat.lt_of_lt_of_le bkL_W1 ab_W2.size
  have acc_W2 := hidP (acc_W1.out.trans (ab_W2.mono acc_W1.out.size))
  have sz_W2 : Hid (W1.heap.size ≤ W2.heap.size) := hidP ab_W2.size
  clear ab_W2 bk0_W1 bk1_W1 bk2_W1 bkF_W1 bkL_W1 acc_W1
  rw [as_W1.out] at at0_W2 at1_W2 at2_W2 atL_W2
  have atF_W2' : ∀ o, W2.frozen? ⟨w.heap.size + 1, o, none⟩ = false := fun o => by have := atF_W2 o; rw [as_W1.out] at this; exact this
  clear atF_W2
  have atF_W2 := atF_W2'
  clear atF_W2'
  obtain ⟨rs0_W3, rs1_W3, rs2_W3⟩ := box3B W2 26 (.slice none 0 0) (.int .i64 0) (.int .i64 0)
  have rsF_W3 : ∀ o, (W2.alloc (.cells #[.slice none 0 0, .int .i64 0, .int .i64 0] 26)).frozen? ⟨W2.heap.size, o, none⟩ = false := fun o => by simp [go_sem]
  have rsL_W3 : W2.heap.size < (W2.alloc (.cells #[.slice none 0 0, .int .i64 0, .int .i64 0] 26)).heap.size := by simp
  have ab_W3 := alloc_below W2 (.cells #[.slice none 0 0, .int .i64 0, .int .i64 0] 26)
  have as_W3 : Hid ((W2.alloc (.cells #[.slice none 0 0, .int .i64 0, .int .i64 0] 26)).heap.size = W2.heap.size + 1) := hidP (by simp)
  generalize W2.alloc (.cells #[.slice none 0 0, .int .i64 0, .int .i64 0] 26) = W3 at *
  have bk0_W3 := (ab_W3.cell bkL_W2).trans bk0_W2
  have bk1_W3 := (ab_W3.cell bkL_W2).trans bk1_W2
  have bk2_W3 := (ab_W3.cell bkL_W2).trans bk2_W2
  have bkF_W3 : ∀ o, W3.frozen? ⟨w.heap.size, o, none⟩ = false := fun o => (ab_W3.frozen bkL_W2).trans (bkF_W2 o)
  have bkL_W3 : w.heap.size < W3.heap.size := Nat.lt_of_lt_of_le bkL_W2 ab_W3.size
  have at0_W3 := (ab_W3.cell atL_W2).trans at0_W2
  have at1_W3 := (ab_W3.cell atL_W2).trans at1_W2
  have at2_W3 := (ab_W3.cell atL_W2).trans at2_W2
  have atF_W3 : ∀ o, W3.frozen? ⟨w.heap.size + 1, o, none⟩ = false := fun o => (ab_W3.frozen atL_W2).trans (atF_W2 o)
  have atL_W3 : w.heap.size + 1 < W3.heap.size := Nat.lt_of_lt_of_le atL_W2 ab_W3.size
  have acc_W3 := hidP (acc_W2.out.trans (ab_W3.mono acc_W2.out.size))
  have sz_W3 : Hid (W2.heap.size ≤ W3.heap.size) := hidP ab_W3.size
  clear ab_W3 bk0_W2 bk1_W2 bk2_W2 bkF_W2 bkL_W2 at0_W2 at1_W2 at2_W2 atF_W2 atL_W2 acc_W2
  rw [as_W2.out, as_W1.out] at rs0_W3 rs1_W3 rs2_W3 rsL_W3
  have rsF_W3' : ∀ o, W3.frozen? ⟨w.heap.size + 1 + 1, o, none⟩ = false := fun o => by have := rsF_W3 o; rw [as_W2.out, as_W1.out] at this; exact this
  clear rsF_W3
  have rsF_W3 := rsF_W3'
  clear rsF_W3'
  refine (HOw.out _ acc_W3.out).mono ?_
  rintro e w4 ⟨a3, c3, rfl, og3, hb4⟩
  have og3' := hidP og3
  clear og3
  have bk0_w4 := (hb4.cell bkL_W3).trans bk0_W3
  have bk1_w4 := (hb4.cell bkL_W3).trans bk1_W3
  have bk2_w4 := (hb4.cell bkL_W3).trans bk2_W3
  have bkF_w4 : ∀ o, w4.frozen? ⟨w.heap.size, o, none⟩ = false := fun o => (hb4.frozen bkL_W3).trans (bkF_W3 o)
  have bkL_w4 : w.heap.size < w4.heap.size := Nat.lt_of_lt_of_le bkL_W3 hb4.size
  have at0_w4 := (hb4.cell atL_W3).trans at0_W3
  have at1_w4 := (hb4.cell atL_W3).trans at1_W3
  have at2_w4 := (hb4.cell atL_W3).trans at2_W3
  have atF_w4 : ∀ o, w4.frozen? ⟨w.heap.size + 1, o, none⟩ = false := fun o => (hb4.frozen atL_W3).trans (atF_W3 o)
  have atL_w4 : w.heap.size + 1 < w4.heap.size := Nat.lt_of_lt_of_le atL_W3 hb4.size
  have rs0_w4 := (hb4.cell rsL_W3).trans rs0_W3
  have rs1_w4 := (hb4.cell rsL_W3).trans rs1_W3
  have rs2_w4 := (hb4.cell rsL_W3).trans rs2_W3
  have rsF_w4 : ∀ o, w4.frozen? ⟨w.heap.size + 1 + 1, o, none⟩ = false := fun o => (hb4.frozen rsL_W3).trans (rsF_W3 o)
  have rsL_w4 : w.heap.size + 1 + 1 < w4.heap.size := Nat.lt_of_lt_of_le rsL_W3 hb4.size
  have acc_w4 := hidP (acc_W3.out.trans (hb4.mono acc_W3.out.size))
  have sz_w4 : Hid (W3.heap.size ≤ w4.heap.size) := hidP hb4.size
  clear hb4 bk0_W3 bk1_W3 bk2_W3 bkF_W3 bkL_W3 at0_W3 at1_W3 at2_W3 atF_W3 atL_W3 rs0_W3 rs1_W3 rs2_W3 rsF_W3 rsL_W3 acc_W3
  have oL_w4 := hidP (og3'.out)
  have lhL : Hid (∀ k, (Value.slice a3 n c3).ownBlock = some k → W3.heap.size ≤ k ∧ k < w4.heap.size) := hidP (fun k hk => OwnG.lt oL_w4.out k hk)
  clear og3'
  go_wp2_with fail
  obtain ⟨ou0_W5, ou1_W5, ou2_W5⟩ := box3B w4 26 (.slice a3 n c3) (.int .i64 T) (.int .i64 N)
  have ouF_W5 : ∀ o, (w4.alloc (.cells #[.slice a3 n c3, .int .i64 T, .int .i64 N] 26)).frozen? ⟨w4.heap.size, o, none⟩ = false := fun o => by simp [go_sem]
  have ouL_W5 : w4.heap.size < (w4.alloc (.cells #[.slice a3 n c3, .int .i64 T, .int .i64 N] 26)).heap.size := by simp
  have ab_W5 := alloc_below w4 (.cells #[.slice a3 n c3, .int .i64 T, .int .i64 N] 26)
  have as_W5 : Hid ((w4.alloc (.cells #[.slice a3 n c3, .int .i64 T, .int .i64 N] 26)).heap.size = w4.heap.size + 1) := hidP (by simp)
  generalize w4.alloc (.cells #[.slice a3 n c3, .int .i64 T, .int .i64 N] 26) = W5 at *
  have bk0_W5 := (ab_W5.cell bkL_w4).trans bk0_w4
  have bk1_W5 := (ab_W5.cell bkL_w4).trans bk1_w4
  have bk2_W5 := (ab_W5.cell bkL_w4).trans bk2_w4
  have bkF_W5 : ∀ o, W5.frozen? ⟨w.heap.size, o, none⟩ = false := fun o => (ab_W5.frozen bkL_w4).trans (bkF_w4 o)
  have bkL_W5 : w.heap.size < W5.heap.size := Nat.lt_of_lt_of_le bkL_w4 ab_W5.size
  have at0_W5 := (ab_W5.cell atL_w4).trans at0_w4
  have at1_W5 := (ab_W5.cell atL_w4).trans at1_w4
  have at2_W5 := (ab_W5.cell atL_w4).trans at2_w4
  have atF_W5 : ∀ o, W5.frozen? ⟨w.heap.size + 1, o, none⟩ = false := fun o => (ab_W5.frozen atL_w4).trans (atF_w4 o)
  have atL_W5 : w.heap.size + 1 < W5.heap.size := Nat.lt_of_lt_of_le atL_w4 ab_W5.size
  have rs0_W5 := (ab_W5.cell rsL_w4).trans rs0_w4
  have rs1_W5 := (ab_W5.cell rsL_w4).trans rs1_w4
  have rs2_W5 := (ab_W5.cell rsL_w4).trans rs2_w4
  have rsF_W5 : ∀ o, W5.frozen? ⟨w.heap.size + 1 + 1, o, none⟩ = false := fun o => (ab_W5.frozen rsL_w4).trans (rsF_w4 o)
  have rsL_W5 : w.heap.size + 1 + 1 < W5.heap.size := Nat.lt_of_lt_of_le rsL_w4 ab_W5.size
  have oL_W5 := hidP (OwnG.later oL_w4.out ab_W5)
  have acc_W5 := hidP (acc_w4.out.trans (ab_W5.mono acc_w4.out.size))
  have sz_W5 : Hid (w4.heap.size ≤ W5.heap.size) := hidP ab_W5.size
  clear ab_W5 bk0_w4 bk1_w4 bk2_w4 bkF_w4 bkL_w4 at0_w4 at1_w4 at2_w4 atF_w4 atL_w4 rs0_w4 rs1_w4 rs2_w4 rsF_w4 rsL_w4 oL_w4 acc_w4
  refine (HSp.out _ acc_W5.out).mono ?_
  rintro e w6 ⟨rfl, hb6⟩
  have bk0_w6 := (hb6.cell bkL_W5).trans bk0_W5
  have bk1_w6 := (hb6.cell bkL_W5).trans bk1_W5
  have bk2_w6 := (hb6.cell bkL_W5).trans bk2_W5
  have bkF_w6 : ∀ o, w6.frozen? ⟨w.heap.size, o, none⟩ = false := fun o => (hb6.frozen bkL_W5).trans (bkF_W5 o)
  have bkL_w6 : w.heap.size < w6.heap.size := Nat.lt_of_lt_of_le bkL_W5 hb6.size
  have at0_w6 := (hb6.cell atL_W5).trans at0_W5
  have at1_w6 := (hb6.cell atL_W5).trans at1_W5
  have at2_w6 := (hb6.cell atL_W5).trans at2_W5
  have atF_w6 : ∀ o, w6.frozen? ⟨w.heap.size + 1, o, none⟩ = false := fun o => (hb6.frozen atL_W5).trans (atF_W5 o)
  have atL_w6 : w.heap.size + 1 < w6.heap.size := Nat.lt_of_lt_of_le atL_W5 hb6.size
  have rs0_w6 := (hb6.cell rsL_W5).trans rs0_W5
  have rs1_w6 := (hb6.cell rsL_W5).trans rs1_W5
  have rs2_w6 := (hb6.cell rsL_W5).trans rs2_W5
  have rsF_w6 : ∀ o, w6.frozen? ⟨w.heap.size + 1 + 1, o, none⟩ = false := fun o => (hb6.frozen rsL_W5).trans (rsF_W5 o)
  have rsL_w6 : w.heap.size + 1 + 1 < w6.heap.size := Nat.lt_of_lt_of_le rsL_W5 hb6.size
  have ou0_w6 := (hb6.cell ouL_W5).trans ou0_W5
  have ou1_w6 := (hb6.cell ouL_W5).trans ou1_W5
  have ou2_w6 := (hb6.cell ouL_W5).trans ou2_W5
  have ouF_w6 : ∀ o, w6.frozen? ⟨w4.heap.size, o, none⟩ = false := fun o => (hb6.frozen ouL_W5).trans (ouF_W5 o)
  have ouL_w6 : w4.heap.size < w6.heap.size := Nat.lt_of_lt_of_le ouL_W5 hb6.size
  have oL_w6 := hidP (OwnG.later oL_W5.out hb6)
  have acc_w6 := hidP (acc_W5.out.trans (hb6.mono acc_W5.out.size))
  have sz_w6 : Hid (W5.heap.size ≤ w6.heap.size) := hidP hb6.size
  clear hb6 bk0_W5 bk1_W5 bk2_W5 bkF_W5 bkL_W5 at0_W5 at1_W5 at2_W5 atF_W5 atL_W5 rs0_W5 rs1_W5 rs2_W5 rsF_W5 rsL_W5 ou0_W5 ou1_W5 ou2_W5 ouF_W5 ouL_W5 oL_W5 acc_W5
  go_wp2_with fail
  refine (HAd.out _).mono ?_
  rintro e w7 ⟨rfl, hb7⟩
  have bk0_w7 := (hb7.cell bkL_w6).trans bk0_w6
  have bk1_w7 := (hb7.cell bkL_w6).trans bk1_w6
  have bk2_w7 := (hb7.cell bkL_w6).trans bk2_w6
  have bkF_w7 : ∀ o, w7.frozen? ⟨w.heap.size, o, none⟩ = false := fun o => (hb7.frozen bkL_w6).trans (bkF_w6 o)
  have bkL_w7 : w.heap.size < w7.heap.size := Nat.lt_of_lt_of_le bkL_w6 hb7.size
  have at0_w7 := (hb7.cell atL_w6).trans at0_w6
  have at1_w7 := (hb7.cell atL_w6).trans at1_w6
  have at2_w7 := (hb7.cell atL_w6).trans at2_w6
  have atF_w7 : ∀ o, w7.frozen? ⟨w.heap.size + 1, o, none⟩ = false := fun o => (hb7.frozen atL_w6).trans (atF_w6 o)
  have atL_w7 : w.heap.size + 1 < w7.heap.size := Nat.lt_of_lt_of_le atL_w6 hb7.size
  have rs0_w7 := (hb7.cell rsL_w6).trans rs0_w6
  have rs1_w7 := (hb7.cell rsL_w6).trans rs1_w6
  have rs2_w7 := (hb7.cell rsL_w6).trans rs2_w6
  have rsF_w7 : ∀ o, w7.frozen? ⟨w.heap.size + 1 + 1, o, none⟩ = false := fun o => (hb7.frozen rsL_w6).trans (rsF_w6 o)
  have rsL_w7 : w.heap.size + 1 + 1 < w7.heap.size := Nat.lt_of_lt_of_le rsL_w6 hb7.size
  have ou0_w7 := (hb7.cell ouL_w6).trans ou0_w6
  have ou1_w7 := (hb7.cell ouL_w6).trans ou1_w6
  have ou2_w7 := (hb7.cell ouL_w6).trans ou2_w6
  have ouF_w7 : ∀ o, w7.frozen? ⟨w4.heap.size, o, none⟩ = false := fun o => (hb7.frozen ouL_w6).trans (ouF_w6 o)
  have ouL_w7 : w4.heap.size < w7.heap.size := Nat.lt_of_lt_of_le ouL_w6 hb7.size
  have oL_w7 := hidP (OwnG.later oL_w6.out hb7)
  have acc_w7 := hidP (acc_w6.out.trans (hb7.mono acc_w6.out.size))
  have sz_w7 : Hid (w6.heap.size ≤ w7.heap.size) := hidP hb7.size
  clear hb7 bk0_w6 bk1_w6 bk2_w6 bkF_w6 bkL_w6 at0_w6 at1_w6 at2_w6 atF_w6 atL_w6 rs0_w6 rs1_w6 rs2_w6 rsF_w6 rsL_w6 ou0_w6 ou1_w6 ou2_w6 ouF_w6 ouL_w6 oL_w6 acc_w6
  go_wp2_with fail
  refine (HOn.out _).mono ?_
  rintro e w8' ⟨rfl, hw8'⟩
  rw [hw8']
  clear hw8' w8'
  go_wp2_with fail
  refine (HI.out _).mono ?_
  rintro e w9' ⟨rfl, hw9'⟩
  rw [hw9']
  clear hw9' w9'
  go_wp2_with fail
  refine (HFi.out _ acc_w7.out).mono ?_
  rintro e w8 ⟨rfl, hb8⟩
  have bk0_w8 := (hb8.cell bkL_w7).trans bk0_w7
  have bk1_w8 := (hb8.cell bkL_w7).trans bk1_w7
  have bk2_w8 := (hb8.cell bkL_w7).trans bk2_w7
  have bkF_w8 : ∀ o, w8.frozen? ⟨w.heap.size, o, none⟩ = false := fun o => (hb8.frozen bkL_w7).trans (bkF_w7 o)
  have bkL_w8 : w.heap.size < w8.heap.size := Nat.lt_of_lt_of_le bkL_w7 hb8.size
  have at0_w8 := (hb8.cell atL_w7).trans at0_w7
  have at1_w8 := (hb8.cell atL_w7).trans at1_w7
  have at2_w8 := (hb8.cell atL_w7).trans at2_w7
  have atF_w8 : ∀ o, w8.frozen? ⟨w.heap.size + 1, o, none⟩ = false := fun o => (hb8.frozen atL_w7).trans (atF_w7 o)
  have atL_w8 : w.heap.size + 1 < w8.heap.size := Nat.lt_of_lt_of_le atL_w7 hb8.size
  have rs0_w8 := (hb8.cell rsL_w7).trans rs0_w7
  have rs1_w8 := (hb8.cell rsL_w7).trans rs1_w7
  have rs2_w8 := (hb8.cell rsL_w7).trans rs2_w7
  have rsF_w8 : ∀ o, w8.frozen? ⟨w.heap.size + 1 + 1, o, none⟩ = false := fun o => (hb8.frozen rsL_w7).trans (rsF_w7 o)
  have rsL_w8 : w.heap.size + 1 + 1 < w8.heap.size := Nat.lt_of_lt_of_le rsL_w7 hb8.size
  have ou0_w8 := (hb8.cell ouL_w7).trans ou0_w7
  have ou1_w8 := (hb8.cell ouL_w7).trans ou1_w7
  have ou2_w8 := (hb8.cell ouL_w7).trans ou2_w7
  have ouF_w8 : ∀ o, w8.frozen? ⟨w4.heap.size, o, none⟩ = false := fun o => (hb8.frozen ouL_w7).trans (ouF_w7 o)
  have ouL_w8 : w4.heap.size < w8.heap.size := Nat.lt_of_lt_of_le ouL_w7 hb8.size
  have oL_w8 := hidP (OwnG.later oL_w7.out hb8)
  have acc_w8 := hidP (acc_w7.out.trans (hb8.mono acc_w7.out.size))
  have sz_w8 : Hid (w7.heap.size ≤ w8.heap.size) := hidP hb8.size
  clear hb8 bk0_w7 bk1_w7 bk2_w7 bkF_w7 bkL_w7 at0_w7 at1_w7 at2_w7 atF_w7 atL_w7 rs0_w7 rs1_w7 rs2_w7 rsF_w7 rsL_w7 ou0_w7 ou1_w7 ou2_w7 ouF_w7 ouL_w7 oL_w7 acc_w7
  have hfi : fxI ls ad = -1 := by unfold fxI; rw [hx]
  rw [hfi]
  have e80 : ((n : Int) == 80) = true := by rw [H80.out]; rfl
  clear hfi
  go_wp2_with fail
  refine bodyPost_ret (v := .tuple #[.agg #[.slice a3 n c3, .int .i64 T, .int .i64 N], .int .i64 0, .int .i64 12]) (by simp [results, Tryz.results8, go_sem, rs0_w8, rs1_w8, rs2_w8]) rfl ⟨_, _, rfl, ?_, ?_⟩
  · refine OwnG.mono (B := W3.heap.size) ?_ (by have := as_W1.out; have := sz_W1.out; have := as_W2.out; have := sz_W2.out; have := as_W3.out; have := sz_W3.out; have := sz_w4.out; have := as_W5.out; have := sz_W5.out; have := sz_w6.out; have := sz_w7.out; have := sz_w8.out; omega)
    iterate 3 (with_reducible refine OwnG.grown ?_ (grown_cellG _ _ _ _) ?_; rotate_left; (focus (exact OwnG.ne_of oL_w8.out (by have := as_W1.out; have := sz_W1.out; have := as_W2.out; have := sz_W2.out; have := as_W3.out; have := sz_W3.out; have := sz_w4.out; have := as_W5.out; have := sz_W5.out; have := sz_w6.out; have := sz_w7.out; have := sz_w8.out; omega))))
    with_reducible exact oL_w8.out
  · repeat (with_reducible refine Below.setCell ?_ ?_ _; rotate_left; (focus (first | (simp; done) | (simp; omega))))
    exact acc_w8.out

end Go.Proofs.YtddnofonodgneaaGreatDoor
