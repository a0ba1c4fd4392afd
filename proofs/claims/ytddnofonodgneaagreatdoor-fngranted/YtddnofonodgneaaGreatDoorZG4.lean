/-
  What granted_card needs, part 4.
-/
import Derived.Test.YtddnofonodgneaaGreatDoorZG3
import Derived.Shelf.Spec.SlicesInsert
import Derived.Lib.AppendZerosOnto
import Derived.Laws.NewBlocks
namespace Go.Proofs.YtddnofonodgneaaGreatDoor
open Go.RowKit

set_option maxRecDepth 10000 in
set_option maxHeartbeats 4000000 in
theorem sGr_form (a : Option Addr) (n c : Nat) (T N : Int) (ls : List Ls) (ad : Ad) (own : ByteArray) (span : Int) (w : World) (hn : n = ls.length) (hB : RowG KLs w a ls) (hl : n ≤ 1048576) (hc : a = none → c = 0) (hst : ∀ q ∈ ls, q.t.size ≤ 9223372036854775807) (hos : own.size ≤ 9223372036854775807) (hr : gokB ls T N ad own span = false) :
    Calls Tryz.prog 8 #[.agg #[.slice a n c, .int .i64 T, .int .i64 N], .agg #[.bool ad.s, .int .i64 ad.H.toInt, .int .i64 ad.L.toInt], .string own, .int .i64 span] w fun e w' => ∃ a' c', e = .returned (.tuple #[.agg #[.slice a' n c', .int .i64 T, .int .i64 N], .int .i64 0, .int .i64 10]) ∧ OwnG KLs 35 w' w.heap.size (.slice a' n c') (ls) ∧ Below w.heap.size w w' := by
  have HOn := hidP (fun W => sOwnerOk_any own W hos)
  have HI := hidP (l1InO_any span 1 1000)
  have HFi := hidP (fun W h => l6Find_any a n c T N ls ad W hn (hB.later h) hl)
  have HOw := hidP (fun W h => l6Copy_any (a) n c T N ls W hn (hB.later h) hc hl)
  have HSp := hidP (fun W h => sBookOk_any (a) n c T N ls W hn (hB.later h) hl hst)
  have HAd := hidP (sAddrOk_any ad.s ad.H.toInt ad.L.toInt)
  have HN := hidP hn
  have HR := hidP (fun W h => hB.later (w' := W) h)
  have hok : ad.ok = okB ad.s ad.H.toInt ad.L.toInt := rfl
  unfold gokB at hr
  rw [hok] at hr
  clear hB hn hst hok hos hc HFi HR HN
  cases hb : bkB ls T N
  · rw [hb] at HSp
    clear hr
    go_enter Tryz.func8, Tryz.ntmps8
    go_wp2_with fail
    obtain ⟨bk0_W1, bk1_W1, bk2_W1⟩ := box3B w 26 (.slice a n c) (.int .i64 T) (.int .i64 N)
    have bkF_W1 : ∀ o, (w.alloc (.cells #[.slice a n c, .int .i64 T, .int .i64 N] 26)).frozen? ⟨w.heap.size, o, none⟩ = false := fun o => by simp [go_sem]
    have bkL_W1 : w.heap.size < (w.alloc (.cells #[.slice a n c, .int .i64 T, .int .i64 N] 26)).heap.size := by simp
    have ab_W1 := alloc_below w (.cells #[.slice a n c, .int .i64 T, .int .i64 N] 26)
    have as_W1 : Hid ((w.alloc (.cells #[.slice a n c, .int .i64 T, .int .i64 N] 26)).heap.size = w.heap.size + 1) := hidP (by simp)
    generalize w.alloc (.cells #[.slice a n c, .int .i64 T, .int .i64 N] 26) = W1 at *
    have acc_W1 := hidP (ab_W1)
    have sz_W1 : Hid (w.heap.size ≤ W1.heap.size) := hidP ab_W1.size
    clear ab_W1 
    obtain ⟨at0_W2, at1_W2, at2_W2⟩ := box3B W1 28 (.bool ad.s) (.int .i64 ad.H.toInt) (.int .i64 ad.L.toInt)
    have atF_W2 : ∀ o, (W1.alloc (.cells #[.bool ad.s, .int .i64 ad.H.toInt, .int .i64 ad.L.toInt] 28)).frozen? ⟨W1.heap.size, o, none⟩ = false := fun o => by simp [go_sem]
    have atL_W2 : W1.heap.size < (W1.alloc (.cells #[.bool ad.s, .int .i64 ad.H.toInt, .int .i64 ad.L.toInt] 28)).heap.size := by simp
    have ab_W2 := alloc_below W1 (.cells #[.bool ad.s, .int .i64 ad.H.toInt, .int .i64 ad.L.toInt] 28)
    have as_W2 : Hid ((W1.alloc (.cells #[.bool ad.s, .int .i64 ad.H.toInt, .int .i64 ad.L.toInt] 28)).heap.size = W1.heap.size + 1) := hidP (by simp)
    generalize W1.alloc (.cells #[.bool ad.s, .int .i64 ad.H.toInt, .int .i64 ad.L.toInt] 28) = W2 at *
    have bk0_W2 := (ab_W2.cell bkL_W1).trans bk0_W1
    have bk1_W2 := (ab_W2.cell bkL_W1).trans bk1_W1
    have bk2_W2 := (ab_W2.cell bkL_W1).trans bk2_W1
    have bkF_W2 : ∀ o, W2.frozen? ⟨w.heap.size, o, none⟩ = false := fun o => (ab_W2.frozen bkL_W1).trans (bkF_W1 o)
    have bkL_W2 : w.heap.size < W2.heap.size := Nat.lt_of_lt_of_le bkL_W1 ab_W2.size
    have acc_W2 := hidP (acc_W1.out.trans (ab_W2.mono acc_W1.out.size))
    have sz_W2 : Hid (W1.heap.size ≤ W2.heap.size) := hidP ab_W2.size
    clear ab_W2 bk0_W1 bk1_W1 bk2_W1 bkF_W1 bkL_W1 acc_W1
    rw [as_W1.out] at at0_W2 at1_W2 at2_W2 atL_W2
    have atF_W2' : ∀ o, W2.frozen? ⟨w.heap.size + 1, o, none⟩ = false := fun o => by have := atF_W2 o; rw [as_W1.out] at this; exact this
    clear atF_W2
    have atF_W2 := atF_W2'
    clear atF_W2'
    obtain ⟨rs0_W3, rs1_W3, rs2_W3⟩ := box3B W2 26 (.slice none 0 0) (.int .i64 0) (.int .i64 0)
    have rsF_W3 : ∀ o, (W2.alloc (.cells #[.slice none 0 0, .int .i64 0, .int .i64 0] 26)).frozen? ⟨W2.heap.size, o, none⟩ = false := fun o => by simp [go_sem]
    have rsL_W3 : W2.heap.size < (W2.alloc (.cells #[.slice none 0 0, .int .i64 0, .int .i64 0] 26)).heap.size := by simp
    have ab_W3 := alloc_below W2 (.cells #[.slice none 0 0, .int .i64 0, .int .i64 0] 26)
    have as_W3 : Hid ((W2.alloc (.cells #[.slice none 0 0, .int .i64 0, .int .i64 0] 26)).heap.size = W2.heap.size + 1) := hidP (by simp)
    generalize W2.alloc (.cells #[.slice none 0 0, .int .i64 0, .int .i64 0] 26) = W3 at *
    have bk0_W3 := (ab_W3.cell bkL_W2).trans bk0_W2
    have bk1_W3 := (ab_W3.cell bkL_W2).trans bk1_W2
    have bk2_W3 := (ab_W3.cell bkL_W2).trans bk2_W2
    have bkF_W3 : ∀ o, W3.frozen? ⟨w.heap.size, o, none⟩ = false := fun o => (ab_W3.frozen bkL_W2).trans (bkF_W2 o)
    have bkL_W3 : w.heap.size < W3.heap.size := Nat.lt_of_lt_of_le bkL_W2 ab_W3.size
    have at0_W3 := (ab_W3.cell atL_W2).trans at0_W2
    have at1_W3 := (ab_W3.cell atL_W2).trans at1_W2
    have at2_W3 := (ab_W3.cell atL_W2).trans at2_W2
    have atF_W3 : ∀ o, W3.frozen? ⟨w.heap.size + 1, o, none⟩ = false := fun o => (ab_W3.frozen atL_W2).trans (atF_W2 o)
    have atL_W3 : w.heap.size + 1 < W3.heap.size := Nat.lt_of_lt_of_le atL_W2 ab_W3.size
    have acc_W3 := hidP (acc_W2.out.trans (ab_W3.mono acc_W2.out.size))
    have sz_W3 : Hid (W2.heap.size ≤ W3.heap.size) := hidP ab_W3.size
    clear ab_W3 bk0_W2 bk1_W2 bk2_W2 bkF_W2 bkL_W2 at0_W2 at1_W2 at2_W2 atF_W2 atL_W2 acc_W2
    rw [as_W2.out, as_W1.out] at rs0_W3 rs1_W3 rs2_W3 rsL_W3
    have rsF_W3' : ∀ o, W3.frozen? ⟨w.heap.size + 1 + 1, o, none⟩ = false := fun o => by have := rsF_W3 o; rw [as_W2.out, as_W1.out] at this; exact this
    clear rsF_W3
    have rsF_W3 := rsF_W3'
    clear rsF_W3'
    refine (HOw.out _ acc_W3.out).mono ?_
    rintro e w4 ⟨a3, c3, rfl, og3, hb4⟩
    have og3' := hidP og3
    clear og3
    have bk0_w4 := (hb4.cell bkL_W3).trans bk0_W3
    have bk1_w4 := (hb4.cell bkL_W3).trans bk1_W3
    have bk2_w4 := (hb4.cell bkL_W3).trans bk2_W3
    have bkF_w4 : ∀ o, w4.frozen? ⟨w.heap.size, o, none⟩ = false := fun o => (hb4.frozen bkL_W3).trans (bkF_W3 o)
    have bkL_w4 : w.heap.size < w4.heap.size := Nat.lt_of_lt_of_le bkL_W3 hb4.size
    have at0_w4 := (hb4.cell atL_W3).trans at0_W3
    have at1_w4 := (hb4.cell atL_W3).trans at1_W3
    have at2_w4 := (hb4.cell atL_W3).trans at2_W3
    have atF_w4 : ∀ o, w4.frozen? ⟨w.heap.size + 1, o, none⟩ = false := fun o => (hb4.frozen atL_W3).trans (atF_W3 o)
    have atL_w4 : w.heap.size + 1 < w4.heap.size := Nat.lt_of_lt_of_le atL_W3 hb4.size
    have rs0_w4 := (hb4.cell rsL_W3).trans rs0_W3
    have rs1_w4 := (hb4.cell rsL_W3).trans rs1_W3
    have rs2_w4 := (hb4.cell rsL_W3).trans rs2_W3
    have rsF_w4 : ∀ o, w4.frozen? ⟨w.heap.size + 1 + 1, o, none⟩ = false := fun o => (hb4.frozen rsL_W3).trans (rsF_W3 o)
    have rsL_w4 : w.heap.size + 1 + 1 < w4.heap.size := Nat.lt_of_lt_of_le rsL_W3 hb4.size
    have acc_w4 := hidP (acc_W3.out.trans (hb4.mono acc_W3.out.size))
    have sz_w4 : Hid (W3.heap.size ≤ w4.heap.size) := hidP hb4.size
    clear hb4 bk0_W3 bk1_W3 bk2_W3 bkF_W3 bkL_W3 at0_W3 at1_W3 at2_W3 atF_W3 atL_W3 rs0_W3 rs1_W3 rs2_W3 rsF_W3 rsL_W3 acc_W3
    have oL_w4 := hidP (og3'.out)
    have lhL : Hid (∀ k, (Value.slice a3 n c3).ownBlock = some k → W3.heap.size ≤ k ∧ k < w4.heap.size) := hidP (fun k hk => OwnG.lt oL_w4.out k hk)
    clear og3'
    go_wp2_with fail
    obtain ⟨ou0_W5, ou1_W5, ou2_W5⟩ := box3B w4 26 (.slice a3 n c3) (.int .i64 T) (.int .i64 N)
    have ouF_W5 : ∀ o, (w4.alloc (.cells #[.slice a3 n c3, .int .i64 T, .int .i64 N] 26)).frozen? ⟨w4.heap.size, o, none⟩ = false := fun o => by simp [go_sem]
    have ouL_W5 : w4.heap.size < (w4.alloc (.cells #[.slice a3 n c3, .int .i64 T, .int .i64 N] 26)).heap.size := by simp
    have ab_W5 := alloc_below w4 (.cells #[.slice a3 n c3, .int .i64 T, .int .i64 N] 26)
    have as_W5 : Hid ((w4.alloc (.cells #[.slice a3 n c3, .int .i64 T, .int .i64 N] 26)).heap.size = w4.heap.size + 1) := hidP (by simp)
    generalize w4.alloc (.cells #[.slice a3 n c3, .int .i64 T, .int .i64 N] 26) = W5 at *
    have bk0_W5 := (ab_W5.cell bkL_w4).trans bk0_w4
    have bk1_W5 := (ab_W5.cell bkL_w4).trans bk1_w4
    have bk2_W5 := (ab_W5.cell bkL_w4).trans bk2_w4
    have bkF_W5 : ∀ o, W5.frozen? ⟨w.heap.size, o, none⟩ = false := fun o => (ab_W5.frozen bkL_w4).trans (bkF_w4 o)
    have bkL_W5 : w.heap.size < W5.heap.size := Nat.lt_of_lt_of_le bkL_w4 ab_W5.size
    have at0_W5 := (ab_W5.cell atL_w4).trans at0_w4
    have at1_W5 := (ab_W5.cell atL_w4).trans at1_w4
    have at2_W5 := (ab_W5.cell atL_w4).trans at2_w4
    have atF_W5 : ∀ o, W5.frozen? ⟨w.heap.size + 1, o, none⟩ = false := fun o => (ab_W5.frozen atL_w4).trans (atF_w4 o)
    have atL_W5 : w.heap.size + 1 < W5.heap.size := Nat.lt_of_lt_of_le atL_w4 ab_W5.size
    have rs0_W5 := (ab_W5.cell rsL_w4).trans rs0_w4
    have rs1_W5 := (ab_W5.cell rsL_w4).trans rs1_w4
    have rs2_W5 := (ab_W5.cell rsL_w4).trans rs2_w4
    have rsF_W5 : ∀ o, W5.frozen? ⟨w.heap.size + 1 + 1, o, none⟩ = false := fun o => (ab_W5.frozen rsL_w4).trans (rsF_w4 o)
    have rsL_W5 : w.heap.size + 1 + 1 < W5.heap.size := Nat.lt_of_lt_of_le rsL_w4 ab_W5.size
    have oL_W5 := hidP (OwnG.later oL_w4.out ab_W5)
    have acc_W5 := hidP (acc_w4.out.trans (ab_W5.mono acc_w4.out.size))
    have sz_W5 : Hid (w4.heap.size ≤ W5.heap.size) := hidP ab_W5.size
    clear ab_W5 bk0_w4 bk1_w4 bk2_w4 bkF_w4 bkL_w4 at0_w4 at1_w4 at2_w4 atF_w4 atL_w4 rs0_w4 rs1_w4 rs2_w4 rsF_w4 rsL_w4 oL_w4 acc_w4
    refine (HSp.out _ acc_W5.out).mono ?_
    rintro e w6 ⟨rfl, hb6⟩
    have bk0_w6 := (hb6.cell bkL_W5).trans bk0_W5
    have bk1_w6 := (hb6.cell bkL_W5).trans bk1_W5
    have bk2_w6 := (hb6.cell bkL_W5).trans bk2_W5
    have bkF_w6 : ∀ o, w6.frozen? ⟨w.heap.size, o, none⟩ = false := fun o => (hb6.frozen bkL_W5).trans (bkF_W5 o)
    have bkL_w6 : w.heap.size < w6.heap.size := Nat.lt_of_lt_of_le bkL_W5 hb6.size
    have at0_w6 := (hb6.cell atL_W5).trans at0_W5
    have at1_w6 := (hb6.cell atL_W5).trans at1_W5
    have at2_w6 := (hb6.cell atL_W5).trans at2_W5
    have atF_w6 : ∀ o, w6.frozen? ⟨w.heap.size + 1, o, none⟩ = false := fun o => (hb6.frozen atL_W5).trans (atF_W5 o)
    have atL_w6 : w.heap.size + 1 < w6.heap.size := Nat.lt_of_lt_of_le atL_W5 hb6.size
    have rs0_w6 := (hb6.cell rsL_W5).trans rs0_W5
    have rs1_w6 := (hb6.cell rsL_W5).trans rs1_W5
    have rs2_w6 := (hb6.cell rsL_W5).trans rs2_W5
    have rsF_w6 : ∀ o, w6.frozen? ⟨w.heap.size + 1 + 1, o, none⟩ = false := fun o => (hb6.frozen rsL_W5).trans (rsF_W5 o)
    have rsL_w6 : w.heap.size + 1 + 1 < w6.heap.size := Nat.lt_of_lt_of_le rsL_W5 hb6.size
    have ou0_w6 := (hb6.cell ouL_W5).trans ou0_W5
    have ou1_w6 := (hb6.cell ouL_W5).trans ou1_W5
    have ou2_w6 := (hb6.cell ouL_W5).trans ou2_W5
    have ouF_w6 : ∀ o, w6.frozen? ⟨w4.heap.size, o, none⟩ = false := fun o => (hb6.frozen ouL_W5).trans (ouF_W5 o)
    have ouL_w6 : w4.heap.size < w6.heap.size := Nat.lt_of_lt_of_le ouL_W5 hb6.size
    have oL_w6 := hidP (OwnG.later oL_W5.out hb6)
    have acc_w6 := hidP (acc_W5.out.trans (hb6.mono acc_W5.out.size))
    have sz_w6 : Hid (W5.heap.size ≤ w6.heap.size) := hidP hb6.size
    clear hb6 bk0_W5 bk1_W5 bk2_W5 bkF_W5 bkL_W5 at0_W5 at1_W5 at2_W5 atF_W5 atL_W5 rs0_W5 rs1_W5 rs2_W5 rsF_W5 rsL_W5 ou0_W5 ou1_W5 ou2_W5 ouF_W5 ouL_W5 oL_W5 acc_W5
    go_wp2_with fail
    refine bodyPost_ret (v := .tuple #[.agg #[.slice a3 n c3, .int .i64 T, .int .i64 N], .int .i64 0, .int .i64 10]) (by simp [results, Tryz.results8, go_sem, rs0_w6, rs1_w6, rs2_w6]) rfl ⟨_, _, rfl, ?_, ?_⟩
    · refine OwnG.mono (B := W3.heap.size) ?_ (by have := as_W1.out; have := sz_W1.out; have := as_W2.out; have := sz_W2.out; have := as_W3.out; have := sz_W3.out; have := sz_w4.out; have := as_W5.out; have := sz_W5.out; have := sz_w6.out; omega)
      iterate 3 (with_reducible refine OwnG.grown ?_ (grown_cellG _ _ _ _) ?_; rotate_left; (focus (exact OwnG.ne_of oL_w6.out (by have := as_W1.out; have := sz_W1.out; have := as_W2.out; have := sz_W2.out; have := as_W3.out; have := sz_W3.out; have := sz_w4.out; have := as_W5.out; have := sz_W5.out; have := sz_w6.out; omega))))
      with_reducible exact oL_w6.out
    · repeat (with_reducible refine Below.setCell ?_ ?_ _; rotate_left; (focus (first | (simp; done) | (simp; omega))))
      exact acc_w6.out
  · have hnow := bk_now hb
    rw [hb] at HSp hr
    rw [Bool.true_and] at hr
    clear hb
    cases ho : okB ad.s ad.H.toInt ad.L.toInt
    · rw [ho] at HAd
      clear hr
      go_enter Tryz.func8, Tryz.ntmps8
      go_wp2_with fail
      obtain ⟨bk0_W1, bk1_W1, bk2_W1⟩ := box3B w 26 (.slice a n c) (.int .i64 T) (.int .i64 N)
      have bkF_W1 : ∀ o, (w.alloc (.cells #[.slice a n c, .int .i64 T, .int .i64 N] 26)).frozen? ⟨w.heap.size, o, none⟩ = false := fun o => by simp [go_sem]
      have bkL_W1 : w.heap.size < (w.alloc (.cells #[.slice a n c, .int .i64 T, .int .i64 N] 26)).heap.size := by simp
      have ab_W1 := alloc_below w (.cells #[.slice a n c, .int .i64 T, .int .i64 N] 26)
      have as_W1 : Hid ((w.alloc (.cells #[.slice a n c, .int .i64 T, .int .i64 N] 26)).heap.size = w.heap.size + 1) := hidP (by simp)
      generalize w.alloc (.cells #[.slice a n c, .int .i64 T, .int .i64 N] 26) = W1 at *
      have acc_W1 := hidP (ab_W1)
      have sz_W1 : Hid (w.heap.size ≤ W1.heap.size) := hidP ab_W1.size
      clear ab_W1 
      obtain ⟨at0_W2, at1_W2, at2_W2⟩ := box3B W1 28 (.bool ad.s) (.int .i64 ad.H.toInt) (.int .i64 ad.L.toInt)
      have atF_W2 : ∀ o, (W1.alloc (.cells #[.bool ad.s, .int .i64 ad.H.toInt, .int .i64 ad.L.toInt] 28)).frozen? ⟨W1.heap.size, o, none⟩ = false := fun o => by simp [go_sem]
      have atL_W2 : W1.heap.size < (W1.alloc (.cells #[.bool ad.s, .int .i64 ad.H.toInt, .int .i64 ad.L.toInt] 28)).heap.size := by simp
      have ab_W2 := alloc_below W1 (.cells #[.bool ad.s, .int .i64 ad.H.toInt, .int .i64 ad.L.toInt] 28)
      have as_W2 : Hid ((W1.alloc (.cells #[.bool ad.s, .int .i64 ad.H.toInt, .int .i64 ad.L.toInt] 28)).heap.size = W1.heap.size + 1) := hidP (by simp)
      generalize W1.alloc (.cells #[.bool ad.s, .int .i64 ad.H.toInt, .int .i64 ad.L.toInt] 28) = W2 at *
      have bk0_W2 := (ab_W2.cell bkL_W1).trans bk0_W1
      have bk1_W2 := (ab_W2.cell bkL_W1).trans bk1_W1
      have bk2_W2 := (ab_W2.cell bkL_W1).trans bk2_W1
      have bkF_W2 : ∀ o, W2.frozen? ⟨w.heap.size, o, none⟩ = false := fun o => (ab_W2.frozen bkL_W1).trans (bkF_W1 o)
      have bkL_W2 : w.heap.size < W2.heap.size := Nat.lt_of_lt_of_le bkL_W1 ab_W2.size
      have acc_W2 := hidP (acc_W1.out.trans (ab_W2.mono acc_W1.out.size))
      have sz_W2 : Hid (W1.heap.size ≤ W2.heap.size) := hidP ab_W2.size
      clear ab_W2 bk0_W1 bk1_W1 bk2_W1 bkF_W1 bkL_W1 acc_W1
      rw [as_W1.out] at at0_W2 at1_W2 at2_W2 atL_W2
      have atF_W2' : ∀ o, W2.frozen? ⟨w.heap.size + 1, o, none⟩ = false := fun o => by have := atF_W2 o; rw [as_W1.out] at this; exact this
      clear atF_W2
      have atF_W2 := atF_W2'
      clear atF_W2'
      obtain ⟨rs0_W3, rs1_W3, rs2_W3⟩ := box3B W2 26 (.slice none 0 0) (.int .i64 0) (.int .i64 0)
      have rsF_W3 : ∀ o, (W2.alloc (.cells #[.slice none 0 0, .int .i64 0, .int .i64 0] 26)).frozen? ⟨W2.heap.size, o, none⟩ = false := fun o => by simp [go_sem]
      have rsL_W3 : W2.heap.size < (W2.alloc (.cells #[.slice none 0 0, .int .i64 0, .int .i64 0] 26)).heap.size := by simp
      have ab_W3 := alloc_below W2 (.cells #[.slice none 0 0, .int .i64 0, .int .i64 0] 26)
      have as_W3 : Hid ((W2.alloc (.cells #[.slice none 0 0, .int .i64 0, .int .i64 0] 26)).heap.size = W2.heap.size + 1) := hidP (by simp)
      generalize W2.alloc (.cells #[.slice none 0 0, .int .i64 0, .int .i64 0] 26) = W3 at *
      have bk0_W3 := (ab_W3.cell bkL_W2).trans bk0_W2
      have bk1_W3 := (ab_W3.cell bkL_W2).trans bk1_W2
      have bk2_W3 := (ab_W3.cell bkL_W2).trans bk2_W2
      have bkF_W3 : ∀ o, W3.frozen? ⟨w.heap.size, o, none⟩ = false := fun o => (ab_W3.frozen bkL_W2).trans (bkF_W2 o)
      have bkL_W3 : w.heap.size < W3.heap.size := Nat.lt_of_lt_of_le bkL_W2 ab_W3.size
      have at0_W3 := (ab_W3.cell atL_W2).trans at0_W2
      have at1_W3 := (ab_W3.cell atL_W2).trans at1_W2
      have at2_W3 := (ab_W3.cell atL_W2).trans at2_W2
      have atF_W3 : ∀ o, W3.frozen? ⟨w.heap.size + 1, o, none⟩ = false := fun o => (ab_W3.frozen atL_W2).trans (atF_W2 o)
      have atL_W3 : w.heap.size + 1 < W3.heap.size := Nat.lt_of_lt_of_le atL_W2 ab_W3.size
      have acc_W3 := hidP (acc_W2.out.trans (ab_W3.mono acc_W2.out.size))
      have sz_W3 : Hid (W2.heap.size ≤ W3.heap.size) := hidP ab_W3.size
      clear ab_W3 bk0_W2 bk1_W2 bk2_W2 bkF_W2 bkL_W2 at0_W2 at1_W2 at2_W2 atF_W2 atL_W2 acc_W2
      rw [as_W2.out, as_W1.out] at rs0_W3 rs1_W3 rs2_W3 rsL_W3
      have rsF_W3' : ∀ o, W3.frozen? ⟨w.heap.size + 1 + 1, o, none⟩ = false := fun o => by have := rsF_W3 o; rw [as_W2.out, as_W1.out] at this; exact this
      clear rsF_W3
      have rsF_W3 := rsF_W3'
      clear rsF_W3'
      refine (HOw.out _ acc_W3.out).mono ?_
      rintro e w4 ⟨a3, c3, rfl, og3, hb4⟩
      have og3' := hidP og3
      clear og3
      have bk0_w4 := (hb4.cell bkL_W3).trans bk0_W3
      have bk1_w4 := (hb4.cell bkL_W3).trans bk1_W3
      have bk2_w4 := (hb4.cell bkL_W3).trans bk2_W3
      have bkF_w4 : ∀ o, w4.frozen? ⟨w.heap.size, o, none⟩ = false := fun o => (hb4.frozen bkL_W3).trans (bkF_W3 o)
      have bkL_w4 : w.heap.size < w4.heap.size := Nat.lt_of_lt_of_le bkL_W3 hb4.size
      have at0_w4 := (hb4.cell atL_W3).trans at0_W3
      have at1_w4 := (hb4.cell atL_W3).trans at1_W3
      have at2_w4 := (hb4.cell atL_W3).trans at2_W3
      have atF_w4 : ∀ o, w4.frozen? ⟨w.heap.size + 1, o, none⟩ = false := fun o => (hb4.frozen atL_W3).trans (atF_W3 o)
      have atL_w4 : w.heap.size + 1 < w4.heap.size := Nat.lt_of_lt_of_le atL_W3 hb4.size
      have rs0_w4 := (hb4.cell rsL_W3).trans rs0_W3
      have rs1_w4 := (hb4.cell rsL_W3).trans rs1_W3
      have rs2_w4 := (hb4.cell rsL_W3).trans rs2_W3
      have rsF_w4 : ∀ o, w4.frozen? ⟨w.heap.size + 1 + 1, o, none⟩ = false := fun o => (hb4.frozen rsL_W3).trans (rsF_W3 o)
      have rsL_w4 : w.heap.size + 1 + 1 < w4.heap.size := Nat.lt_of_lt_of_le rsL_W3 hb4.size
      have acc_w4 := hidP (acc_W3.out.trans (hb4.mono acc_W3.out.size))
      have sz_w4 : Hid (W3.heap.size ≤ w4.heap.size) := hidP hb4.size
      clear hb4 bk0_W3 bk1_W3 bk2_W3 bkF_W3 bkL_W3 at0_W3 at1_W3 at2_W3 atF_W3 atL_W3 rs0_W3 rs1_W3 rs2_W3 rsF_W3 rsL_W3 acc_W3
      have oL_w4 := hidP (og3'.out)
      have lhL : Hid (∀ k, (Value.slice a3 n c3).ownBlock = some k → W3.heap.size ≤ k ∧ k < w4.heap.size) := hidP (fun k hk => OwnG.lt oL_w4.out k hk)
      clear og3'
      go_wp2_with fail
      obtain ⟨ou0_W5, ou1_W5, ou2_W5⟩ := box3B w4 26 (.slice a3 n c3) (.int .i64 T) (.int .i64 N)
      have ouF_W5 : ∀ o, (w4.alloc (.cells #[.slice a3 n c3, .int .i64 T, .int .i64 N] 26)).frozen? ⟨w4.heap.size, o, none⟩ = false := fun o => by simp [go_sem]
      have ouL_W5 : w4.heap.size < (w4.alloc (.cells #[.slice a3 n c3, .int .i64 T, .int .i64 N] 26)).heap.size := by simp
      have ab_W5 := alloc_below w4 (.cells #[.slice a3 n c3, .int .i64 T, .int .i64 N] 26)
      have as_W5 : Hid ((w4.alloc (.cells #[.slice a3 n c3, .int .i64 T, .int .i64 N] 26)).heap.size = w4.heap.size + 1) := hidP (by simp)
      generalize w4.alloc (.cells #[.slice a3 n c3, .int .i64 T, .int .i64 N] 26) = W5 at *
      have bk0_W5 := (ab_W5.cell bkL_w4).trans bk0_w4
      have bk1_W5 := (ab_W5.cell bkL_w4).trans bk1_w4
      have bk2_W5 := (ab_W5.cell bkL_w4).trans bk2_w4
      have bkF_W5 : ∀ o, W5.frozen? ⟨w.heap.size, o, none⟩ = false := fun o => (ab_W5.frozen bkL_w4).trans (bkF_w4 o)
      have bkL_W5 : w.heap.size < W5.heap.size := Nat.lt_of_lt_of_le bkL_w4 ab_W5.size
      have at0_W5 := (ab_W5.cell atL_w4).trans at0_w4
      have at1_W5 := (ab_W5.cell atL_w4).trans at1_w4
      have at2_W5 := (ab_W5.cell atL_w4).trans at2_w4
      have atF_W5 : ∀ o, W5.frozen? ⟨w.heap.size + 1, o, none⟩ = false := fun o => (ab_W5.frozen atL_w4).trans (atF_w4 o)
      have atL_W5 : w.heap.size + 1 < W5.heap.size := Nat.lt_of_lt_of_le atL_w4 ab_W5.size
      have rs0_W5 := (ab_W5.cell rsL_w4).trans rs0_w4
      have rs1_W5 := (ab_W5.cell rsL_w4).trans rs1_w4
      have rs2_W5 := (ab_W5.cell rsL_w4).trans rs2_w4
      have rsF_W5 : ∀ o, W5.frozen? ⟨w.heap.size + 1 + 1, o, none⟩ = false := fun o => (ab_W5.frozen rsL_w4).trans (rsF_w4 o)
      have rsL_W5 : w.heap.size + 1 + 1 < W5.heap.size := Nat.lt_of_lt_of_le rsL_w4 ab_W5.size
      have oL_W5 := hidP (OwnG.later oL_w4.out ab_W5)
      have acc_W5 := hidP (acc_w4.out.trans (ab_W5.mono acc_w4.out.size))
      have sz_W5 : Hid (w4.heap.size ≤ W5.heap.size) := hidP ab_W5.size
      clear ab_W5 bk0_w4 bk1_w4 bk2_w4 bkF_w4 bkL_w4 at0_w4 at1_w4 at2_w4 atF_w4 atL_w4 rs0_w4 rs1_w4 rs2_w4 rsF_w4 rsL_w4 oL_w4 acc_w4
      refine (HSp.out _ acc_W5.out).mono ?_
      rintro e w6 ⟨rfl, hb6⟩
      have bk0_w6 := (hb6.cell bkL_W5).trans bk0_W5
      have bk1_w6 := (hb6.cell bkL_W5).trans bk1_W5
      have bk2_w6 := (hb6.cell bkL_W5).trans bk2_W5
      have bkF_w6 : ∀ o, w6.frozen? ⟨w.heap.size, o, none⟩ = false := fun o => (hb6.frozen bkL_W5).trans (bkF_W5 o)
      have bkL_w6 : w.heap.size < w6.heap.size := Nat.lt_of_lt_of_le bkL_W5 hb6.size
      have at0_w6 := (hb6.cell atL_W5).trans at0_W5
      have at1_w6 := (hb6.cell atL_W5).trans at1_W5
      have at2_w6 := (hb6.cell atL_W5).trans at2_W5
      have atF_w6 : ∀ o, w6.frozen? ⟨w.heap.size + 1, o, none⟩ = false := fun o => (hb6.frozen atL_W5).trans (atF_W5 o)
      have atL_w6 : w.heap.size + 1 < w6.heap.size := Nat.lt_of_lt_of_le atL_W5 hb6.size
      have rs0_w6 := (hb6.cell rsL_W5).trans rs0_W5
      have rs1_w6 := (hb6.cell rsL_W5).trans rs1_W5
      have rs2_w6 := (hb6.cell rsL_W5).trans rs2_W5
      have rsF_w6 : ∀ o, w6.frozen? ⟨w.heap.size + 1 + 1, o, none⟩ = false := fun o => (hb6.frozen rsL_W5).trans (rsF_W5 o)
      have rsL_w6 : w.heap.size + 1 + 1 < w6.heap.size := Nat.lt_of_lt_of_le rsL_W5 hb6.size
      have ou0_w6 := (hb6.cell ouL_W5).trans ou0_W5
      have ou1_w6 := (hb6.cell ouL_W5).trans ou1_W5
      have ou2_w6 := (hb6.cell ouL_W5).trans ou2_W5
      have ouF_w6 : ∀ o, w6.frozen? ⟨w4.heap.size, o, none⟩ = false := fun o => (hb6.frozen ouL_W5).trans (ouF_W5 o)
      have ouL_w6 : w4.heap.size < w6.heap.size := Nat.lt_of_lt_of_le ouL_W5 hb6.size
      have oL_w6 := hidP (OwnG.later oL_W5.out hb6)
      have acc_w6 := hidP (acc_W5.out.trans (hb6.mono acc_W5.out.size))
      have sz_w6 : Hid (W5.heap.size ≤ w6.heap.size) := hidP hb6.size
      clear hb6 bk0_W5 bk1_W5 bk2_W5 bkF_W5 bkL_W5 at0_W5 at1_W5 at2_W5 atF_W5 atL_W5 rs0_W5 rs1_W5 rs2_W5 rsF_W5 rsL_W5 ou0_W5 ou1_W5 ou2_W5 ouF_W5 ouL_W5 oL_W5 acc_W5
      go_wp2_with fail
      refine (HAd.out _).mono ?_
      rintro e w7 ⟨rfl, hb7⟩
      have bk0_w7 := (hb7.cell bkL_w6).trans bk0_w6
      have bk1_w7 := (hb7.cell bkL_w6).trans bk1_w6
      have bk2_w7 := (hb7.cell bkL_w6).trans bk2_w6
      have bkF_w7 : ∀ o, w7.frozen? ⟨w.heap.size, o, none⟩ = false := fun o => (hb7.frozen bkL_w6).trans (bkF_w6 o)
      have bkL_w7 : w.heap.size < w7.heap.size := Nat.lt_of_lt_of_le bkL_w6 hb7.size
      have at0_w7 := (hb7.cell atL_w6).trans at0_w6
      have at1_w7 := (hb7.cell atL_w6).trans at1_w6
      have at2_w7 := (hb7.cell atL_w6).trans at2_w6
      have atF_w7 : ∀ o, w7.frozen? ⟨w.heap.size + 1, o, none⟩ = false := fun o => (hb7.frozen atL_w6).trans (atF_w6 o)
      have atL_w7 : w.heap.size + 1 < w7.heap.size := Nat.lt_of_lt_of_le atL_w6 hb7.size
      have rs0_w7 := (hb7.cell rsL_w6).trans rs0_w6
      have rs1_w7 := (hb7.cell rsL_w6).trans rs1_w6
      have rs2_w7 := (hb7.cell rsL_w6).trans rs2_w6
      have rsF_w7 : ∀ o, w7.frozen? ⟨w.heap.size + 1 + 1, o, none⟩ = false := fun o => (hb7.frozen rsL_w6).trans (rsF_w6 o)
      have rsL_w7 : w.heap.size + 1 + 1 < w7.heap.size := Nat.lt_of_lt_of_le rsL_w6 hb7.size
      have ou0_w7 := (hb7.cell ouL_w6).trans ou0_w6
      have ou1_w7 := (hb7.cell ouL_w6).trans ou1_w6
      have ou2_w7 := (hb7.cell ouL_w6).trans ou2_w6
      have ouF_w7 : ∀ o, w7.frozen? ⟨w4.heap.size, o, none⟩ = false := fun o => (hb7.frozen ouL_w6).trans (ouF_w6 o)
      have ouL_w7 : w4.heap.size < w7.heap.size := Nat.lt_of_lt_of_le ouL_w6 hb7.size
      have oL_w7 := hidP (OwnG.later oL_w6.out hb7)
      have acc_w7 := hidP (acc_w6.out.trans (hb7.mono acc_w6.out.size))
      have sz_w7 : Hid (w6.heap.size ≤ w7.heap.size) := hidP hb7.size
      clear hb7 bk0_w6 bk1_w6 bk2_w6 bkF_w6 bkL_w6 at0_w6 at1_w6 at2_w6 atF_w6 atL_w6 rs0_w6 rs1_w6 rs2_w6 rsF_w6 rsL_w6 ou0_w6 ou1_w6 ou2_w6 ouF_w6 ouL_w6 oL_w6 acc_w6
      go_wp2_with fail
      refine bodyPost_ret (v := .tuple #[.agg #[.slice a3 n c3, .int .i64 T, .int .i64 N], .int .i64 0, .int .i64 10]) (by simp [results, Tryz.results8, go_sem, rs0_w7, rs1_w7, rs2_w7]) rfl ⟨_, _, rfl, ?_, ?_⟩
      · refine OwnG.mono (B := W3.heap.size) ?_ (by have := as_W1.out; have := sz_W1.out; have := as_W2.out; have := sz_W2.out; have := as_W3.out; have := sz_W3.out; have := sz_w4.out; have := as_W5.out; have := sz_W5.out; have := sz_w6.out; have := sz_w7.out; omega)
        iterate 3 (with_reducible refine OwnG.grown ?_ (grown_cellG _ _ _ _) ?_; rotate_left; (focus (exact OwnG.ne_of oL_w7.out (by have := as_W1.out; have := sz_W1.out; have := as_W2.out; have := sz_W2.out; have := as_W3.out; have := sz_W3.out; have := sz_w4.out; have := as_W5.out; have := sz_W5.out; have := sz_w6.out; have := sz_w7.out; omega))))
        with_reducible exact oL_w7.out
      · repeat (with_reducible refine Below.setCell ?_ ?_ _; rotate_left; (focus (first | (simp; done) | (simp; omega))))
        exact acc_w7.out
    · rw [ho] at HAd hr
      rw [Bool.true_and] at hr
      clear ho
      cases hw : ownB own
      · rw [hw] at HOn
        clear hr
        go_enter Tryz.func8, Tryz.ntmps8
        go_wp2_with fail
        obtain ⟨bk0_W1, bk1_W1, bk2_W1⟩ := box3B w 26 (.slice a n c) (.int .i64 T) (.int .i64 N)
        have bkF_W1 : ∀ o, (w.alloc (.cells #[.slice a n c, .int .i64 T, .int .i64 N] 26)).frozen? ⟨w.heap.size, o, none⟩ = false := fun o => by simp [go_sem]
        have bkL_W1 : w.heap.size < (w.alloc (.cells #[.slice a n c, .int .i64 T, .int .i64 N] 26)).heap.size := by simp
        have ab_W1 := alloc_below w (.cells #[.slice a n c, .int .i64 T, .int .i64 N] 26)
        have as_W1 : Hid ((w.alloc (.cells #[.slice a n c, .int .i64 T, .int .i64 N] 26)).heap.size = w.heap.size + 1) := hidP (by simp)
        generalize w.alloc (.cells #[.slice a n c, .int .i64 T, .int .i64 N] 26) = W1 at *
        have acc_W1 := hidP (ab_W1)
        have sz_W1 : Hid (w.heap.size ≤ W1.heap.size) := hidP ab_W1.size
        clear ab_W1 
        obtain ⟨at0_W2, at1_W2, at2_W2⟩ := box3B W1 28 (.bool ad.s) (.int .i64 ad.H.toInt) (.int .i64 ad.L.toInt)
        have atF_W2 : ∀ o, (W1.alloc (.cells #[.bool ad.s, .int .i64 ad.H.toInt, .int .i64 ad.L.toInt] 28)).frozen? ⟨W1.heap.size, o, none⟩ = false := fun o => by simp [go_sem]
        have atL_W2 : W1.heap.size < (W1.alloc (.cells #[.bool ad.s, .int .i64 ad.H.toInt, .int .i64 ad.L.toInt] 28)).heap.size := by simp
        have ab_W2 := alloc_below W1 (.cells #[.bool ad.s, .int .i64 ad.H.toInt, .int .i64 ad.L.toInt] 28)
        have as_W2 : Hid ((W1.alloc (.cells #[.bool ad.s, .int .i64 ad.H.toInt, .int .i64 ad.L.toInt] 28)).heap.size = W1.heap.size + 1) := hidP (by simp)
        generalize W1.alloc (.cells #[.bool ad.s, .int .i64 ad.H.toInt, .int .i64 ad.L.toInt] 28) = W2 at *
        have bk0_W2 := (ab_W2.cell bkL_W1).trans bk0_W1
        have bk1_W2 := (ab_W2.cell bkL_W1).trans bk1_W1
        have bk2_W2 := (ab_W2.cell bkL_W1).trans bk2_W1
        have bkF_W2 : ∀ o, W2.frozen? ⟨w.heap.size, o, none⟩ = false := fun o => (ab_W2.frozen bkL_W1).trans (bkF_W1 o)
        have bkL_W2 : w.heap.size < W2.heap.size := Nat.lt_of_lt_of_le bkL_W1 ab_W2.size
        have acc_W2 := hidP (acc_W1.out.trans (ab_W2.mono acc_W1.out.size))
        have sz_W2 : Hid (W1.heap.size ≤ W2.heap.size) := hidP ab_W2.size
        clear ab_W2 bk0_W1 bk1_W1 bk2_W1 bkF_W1 bkL_W1 acc_W1
        rw [as_W1.out] at at0_W2 at1_W2 at2_W2 atL_W2
        have atF_W2' : ∀ o, W2.frozen? ⟨w.heap.size + 1, o, none⟩ = false := fun o => by have := atF_W2 o; rw [as_W1.out] at this; exact this
        clear atF_W2
        have atF_W2 := atF_W2'
        clear atF_W2'
        obtain ⟨rs0_W3, rs1_W3, rs2_W3⟩ := box3B W2 26 (.slice none 0 0) (.int .i64 0) (.int .i64 0)
        have rsF_W3 : ∀ o, (W2.alloc (.cells #[.slice none 0 0, .int .i64 0, .int .i64 0] 26)).frozen? ⟨W2.heap.size, o, none⟩ = false := fun o => by simp [go_sem]
        have rsL_W3 : W2.heap.size < (W2.alloc (.cells #[.slice none 0 0, .int .i64 0, .int .i64 0] 26)).heap.size := by simp
        have ab_W3 := alloc_below W2 (.cells #[.slice none 0 0, .int .i64 0, .int .i64 0] 26)
        have as_W3 : Hid ((W2.alloc (.cells #[.slice none 0 0, .int .i64 0, .int .i64 0] 26)).heap.size = W2.heap.size + 1) := hidP (by simp)
        generalize W2.alloc (.cells #[.slice none 0 0, .int .i64 0, .int .i64 0] 26) = W3 at *
        have bk0_W3 := (ab_W3.cell bkL_W2).trans bk0_W2
        have bk1_W3 := (ab_W3.cell bkL_W2).trans bk1_W2
        have bk2_W3 := (ab_W3.cell bkL_W2).trans bk2_W2
        have bkF_W3 : ∀ o, W3.frozen? ⟨w.heap.size, o, none⟩ = false := fun o => (ab_W3.frozen bkL_W2).trans (bkF_W2 o)
        have bkL_W3 : w.heap.size < W3.heap.size := Nat.lt_of_lt_of_le bkL_W2 ab_W3.size
        have at0_W3 := (ab_W3.cell atL_W2).trans at0_W2
        have at1_W3 := (ab_W3.cell atL_W2).trans at1_W2
        have at2_W3 := (ab_W3.cell atL_W2).trans at2_W2
        have atF_W3 : ∀ o, W3.frozen? ⟨w.heap.size + 1, o, none⟩ = false := fun o => (ab_W3.frozen atL_W2).trans (atF_W2 o)
        have atL_W3 : w.heap.size + 1 < W3.heap.size := Nat.lt_of_lt_of_le atL_W2 ab_W3.size
        have acc_W3 := hidP (acc_W2.out.trans (ab_W3.mono acc_W2.out.size))
        have sz_W3 : Hid (W2.heap.size ≤ W3.heap.size) := hidP ab_W3.size
        clear ab_W3 bk0_W2 bk1_W2 bk2_W2 bkF_W2 bkL_W2 at0_W2 at1_W2 at2_W2 atF_W2 atL_W2 acc_W2
        rw [as_W2.out, as_W1.out] at rs0_W3 rs1_W3 rs2_W3 rsL_W3
        have rsF_W3' : ∀ o, W3.frozen? ⟨w.heap.size + 1 + 1, o, none⟩ = false := fun o => by have := rsF_W3 o; rw [as_W2.out, as_W1.out] at this; exact this
        clear rsF_W3
        have rsF_W3 := rsF_W3'
        clear rsF_W3'
        refine (HOw.out _ acc_W3.out).mono ?_
        rintro e w4 ⟨a3, c3, rfl, og3, hb4⟩
        have og3' := hidP og3
        clear og3
        have bk0_w4 := (hb4.cell bkL_W3).trans bk0_W3
        have bk1_w4 := (hb4.cell bkL_W3).trans bk1_W3
        have bk2_w4 := (hb4.cell bkL_W3).trans bk2_W3
        have bkF_w4 : ∀ o, w4.frozen? ⟨w.heap.size, o, none⟩ = false := fun o => (hb4.frozen bkL_W3).trans (bkF_W3 o)
        have bkL_w4 : w.heap.size < w4.heap.size := Nat.lt_of_lt_of_le bkL_W3 hb4.size
        have at0_w4 := (hb4.cell atL_W3).trans at0_W3
        have at1_w4 := (hb4.cell atL_W3).trans at1_W3
        have at2_w4 := (hb4.cell atL_W3).trans at2_W3
        have atF_w4 : ∀ o, w4.frozen? ⟨w.heap.size + 1, o, none⟩ = false := fun o => (hb4.frozen atL_W3).trans (atF_W3 o)
        have atL_w4 : w.heap.size + 1 < w4.heap.size := Nat.lt_of_lt_of_le atL_W3 hb4.size
        have rs0_w4 := (hb4.cell rsL_W3).trans rs0_W3
        have rs1_w4 := (hb4.cell rsL_W3).trans rs1_W3
        have rs2_w4 := (hb4.cell rsL_W3).trans rs2_W3
        have rsF_w4 : ∀ o, w4.frozen? ⟨w.heap.size + 1 + 1, o, none⟩ = false := fun o => (hb4.frozen rsL_W3).trans (rsF_W3 o)
        have rsL_w4 : w.heap.size + 1 + 1 < w4.heap.size := Nat.lt_of_lt_of_le rsL_W3 hb4.size
        have acc_w4 := hidP (acc_W3.out.trans (hb4.mono acc_W3.out.size))
        have sz_w4 : Hid (W3.heap.size ≤ w4.heap.size) := hidP hb4.size
        clear hb4 bk0_W3 bk1_W3 bk2_W3 bkF_W3 bkL_W3 at0_W3 at1_W3 at2_W3 atF_W3 atL_W3 rs0_W3 rs1_W3 rs2_W3 rsF_W3 rsL_W3 acc_W3
        have oL_w4 := hidP (og3'.out)
        have lhL : Hid (∀ k, (Value.slice a3 n c3).ownBlock = some k → W3.heap.size ≤ k ∧ k < w4.heap.size) := hidP (fun k hk => OwnG.lt oL_w4.out k hk)
        clear og3'
        go_wp2_with fail
        obtain ⟨ou0_W5, ou1_W5, ou2_W5⟩ := box3B w4 26 (.slice a3 n c3) (.int .i64 T) (.int .i64 N)
        have ouF_W5 : ∀ o, (w4.alloc (.cells #[.slice a3 n c3, .int .i64 T, .int .i64 N] 26)).frozen? ⟨w4.heap.size, o, none⟩ = false := fun o => by simp [go_sem]
        have ouL_W5 : w4.heap.size < (w4.alloc (.cells #[.slice a3 n c3, .int .i64 T, .int .i64 N] 26)).heap.size := by simp
        have ab_W5 := alloc_below w4 (.cells #[.slice a3 n c3, .int .i64 T, .int .i64 N] 26)
        have as_W5 : Hid ((w4.alloc (.cells #[.slice a3 n c3, .int .i64 T, .int .i64 N] 26)).heap.size = w4.heap.size + 1) := hidP (by simp)
        generalize w4.alloc (.cells #[.slice a3 n c3, .int .i64 T, .int .i64 N] 26) = W5 at *
        have bk0_W5 := (ab_W5.cell bkL_w4).trans bk0_w4
        have bk1_W5 := (ab_W5.cell bkL_w4).trans bk1_w4
        have bk2_W5 := (ab_W5.cell bkL_w4).trans bk2_w4
        have bkF_W5 : ∀ o, W5.frozen? ⟨w.heap.size, o, none⟩ = false := fun o => (ab_W5.frozen bkL_w4).trans (bkF_w4 o)
        have bkL_W5 : w.heap.size < W5.heap.size := Nat.lt_of_lt_of_le bkL_w4 ab_W5.size
        have at0_W5 := (ab_W5.cell atL_w4).trans at0_w4
        have at1_W5 := (ab_W5.cell atL_w4).trans at1_w4
        have at2_W5 := (ab_W5.cell atL_w4).trans at2_w4
        have atF_W5 : ∀ o, W5.frozen? ⟨w.heap.size + 1, o, none⟩ = false := fun o => (ab_W5.frozen atL_w4).trans (atF_w4 o)
        have atL_W5 : w.heap.size + 1 < W5.heap.size := Nat.lt_of_lt_of_le atL_w4 ab_W5.size
        have rs0_W5 := (ab_W5.cell rsL_w4).trans rs0_w4
        have rs1_W5 := (ab_W5.cell rsL_w4).trans rs1_w4
        have rs2_W5 := (ab_W5.cell rsL_w4).trans rs2_w4
        have rsF_W5 : ∀ o, W5.frozen? ⟨w.heap.size + 1 + 1, o, none⟩ = false := fun o => (ab_W5.frozen rsL_w4).trans (rsF_w4 o)
        have rsL_W5 : w.heap.size + 1 + 1 < W5.heap.size := Nat.lt_of_lt_of_le rsL_w4 ab_W5.size
        have oL_W5 := hidP (OwnG.later oL_w4.out ab_W5)
        have acc_W5 := hidP (acc_w4.out.trans (ab_W5.mono acc_w4.out.size))
        have sz_W5 : Hid (w4.heap.size ≤ W5.heap.size) := hidP ab_W5.size
        clear ab_W5 bk0_w4 bk1_w4 bk2_w4 bkF_w4 bkL_w4 at0_w4 at1_w4 at2_w4 atF_w4 atL_w4 rs0_w4 rs1_w4 rs2_w4 rsF_w4 rsL_w4 oL_w4 acc_w4
        refine (HSp.out _ acc_W5.out).mono ?_
        rintro e w6 ⟨rfl, hb6⟩
        have bk0_w6 := (hb6.cell bkL_W5).trans bk0_W5
        have bk1_w6 := (hb6.cell bkL_W5).trans bk1_W5
        have bk2_w6 := (hb6.cell bkL_W5).trans bk2_W5
        have bkF_w6 : ∀ o, w6.frozen? ⟨w.heap.size, o, none⟩ = false := fun o => (hb6.frozen bkL_W5).trans (bkF_W5 o)
        have bkL_w6 : w.heap.size < w6.heap.size := Nat.lt_of_lt_of_le bkL_W5 hb6.size
        have at0_w6 := (hb6.cell atL_W5).trans at0_W5
        have at1_w6 := (hb6.cell atL_W5).trans at1_W5
        have at2_w6 := (hb6.cell atL_W5).trans at2_W5
        have atF_w6 : ∀ o, w6.frozen? ⟨w.heap.size + 1, o, none⟩ = false := fun o => (hb6.frozen atL_W5).trans (atF_W5 o)
        have atL_w6 : w.heap.size + 1 < w6.heap.size := Nat.lt_of_lt_of_le atL_W5 hb6.size
        have rs0_w6 := (hb6.cell rsL_W5).trans rs0_W5
        have rs1_w6 := (hb6.cell rsL_W5).trans rs1_W5
        have rs2_w6 := (hb6.cell rsL_W5).trans rs2_W5
        have rsF_w6 : ∀ o, w6.frozen? ⟨w.heap.size + 1 + 1, o, none⟩ = false := fun o => (hb6.frozen rsL_W5).trans (rsF_W5 o)
        have rsL_w6 : w.heap.size + 1 + 1 < w6.heap.size := Nat.lt_of_lt_of_le rsL_W5 hb6.size
        have ou0_w6 := (hb6.cell ouL_W5).trans ou0_W5
        have ou1_w6 := (hb6.cell ouL_W5).trans ou1_W5
        have ou2_w6 := (hb6.cell ouL_W5).trans ou2_W5
        have ouF_w6 : ∀ o, w6.frozen? ⟨w4.heap.size, o, none⟩ = false := fun o => (hb6.frozen ouL_W5).trans (ouF_W5 o)
        have ouL_w6 : w4.heap.size < w6.heap.size := Nat.lt_of_lt_of_le ouL_W5 hb6.size
        have oL_w6 := hidP (OwnG.later oL_W5.out hb6)
        have acc_w6 := hidP (acc_W5.out.trans (hb6.mono acc_W5.out.size))
        have sz_w6 : Hid (W5.heap.size ≤ w6.heap.size) := hidP hb6.size
        clear hb6 bk0_W5 bk1_W5 bk2_W5 bkF_W5 bkL_W5 at0_W5 at1_W5 at2_W5 atF_W5 atL_W5 rs0_W5 rs1_W5 rs2_W5 rsF_W5 rsL_W5 ou0_W5 ou1_W5 ou2_W5 ouF_W5 ouL_W5 oL_W5 acc_W5
        go_wp2_with fail
        refine (HAd.out _).mono ?_
        rintro e w7 ⟨rfl, hb7⟩
        have bk0_w7 := (hb7.cell bkL_w6).trans bk0_w6
        have bk1_w7 := (hb7.cell bkL_w6).trans bk1_w6
        have bk2_w7 := (hb7.cell bkL_w6).trans bk2_w6
        have bkF_w7 : ∀ o, w7.frozen? ⟨w.heap.size, o, none⟩ = false := fun o => (hb7.frozen bkL_w6).trans (bkF_w6 o)
        have bkL_w7 : w.heap.size < w7.heap.size := Nat.lt_of_lt_of_le bkL_w6 hb7.size
        have at0_w7 := (hb7.cell atL_w6).trans at0_w6
        have at1_w7 := (hb7.cell atL_w6).trans at1_w6
        have at2_w7 := (hb7.cell atL_w6).trans at2_w6
        have atF_w7 : ∀ o, w7.frozen? ⟨w.heap.size + 1, o, none⟩ = false := fun o => (hb7.frozen atL_w6).trans (atF_w6 o)
        have atL_w7 : w.heap.size + 1 < w7.heap.size := Nat.lt_of_lt_of_le atL_w6 hb7.size
        have rs0_w7 := (hb7.cell rsL_w6).trans rs0_w6
        have rs1_w7 := (hb7.cell rsL_w6).trans rs1_w6
        have rs2_w7 := (hb7.cell rsL_w6).trans rs2_w6
        have rsF_w7 : ∀ o, w7.frozen? ⟨w.heap.size + 1 + 1, o, none⟩ = false := fun o => (hb7.frozen rsL_w6).trans (rsF_w6 o)
        have rsL_w7 : w.heap.size + 1 + 1 < w7.heap.size := Nat.lt_of_lt_of_le rsL_w6 hb7.size
        have ou0_w7 := (hb7.cell ouL_w6).trans ou0_w6
        have ou1_w7 := (hb7.cell ouL_w6).trans ou1_w6
        have ou2_w7 := (hb7.cell ouL_w6).trans ou2_w6
        have ouF_w7 : ∀ o, w7.frozen? ⟨w4.heap.size, o, none⟩ = false := fun o => (hb7.frozen ouL_w6).trans (ouF_w6 o)
        have ouL_w7 : w4.heap.size < w7.heap.size := Nat.lt_of_lt_of_le ouL_w6 hb7.size
        have oL_w7 := hidP (OwnG.later oL_w6.out hb7)
        have acc_w7 := hidP (acc_w6.out.trans (hb7.mono acc_w6.out.size))
        have sz_w7 : Hid (w6.heap.size ≤ w7.heap.size) := hidP hb7.size
        clear hb7 bk0_w6 bk1_w6 bk2_w6 bkF_w6 bkL_w6 at0_w6 at1_w6 at2_w6 atF_w6 atL_w6 rs0_w6 rs1_w6 rs2_w6 rsF_w6 rsL_w6 ou0_w6 ou1_w6 ou2_w6 ouF_w6 ouL_w6 oL_w6 acc_w6
        go_wp2_with fail
        refine (HOn.out _).mono ?_
        rintro e w8' ⟨rfl, hw8'⟩
        rw [hw8']
        clear hw8' w8'
        go_wp2_with fail
        refine bodyPost_ret (v := .tuple #[.agg #[.slice a3 n c3, .int .i64 T, .int .i64 N], .int .i64 0, .int .i64 10]) (by simp [results, Tryz.results8, go_sem, rs0_w7, rs1_w7, rs2_w7]) rfl ⟨_, _, rfl, ?_, ?_⟩
        · refine OwnG.mono (B := W3.heap.size) ?_ (by have := as_W1.out; have := sz_W1.out; have := as_W2.out; have := sz_W2.out; have := as_W3.out; have := sz_W3.out; have := sz_w4.out; have := as_W5.out; have := sz_W5.out; have := sz_w6.out; have := sz_w7.out; omega)
          iterate 3 (with_reducible refine OwnG.grown ?_ (grown_cellG _ _ _ _) ?_; rotate_left; (focus (exact OwnG.ne_of oL_w7.out (by have := as_W1.out; have := sz_W1.out; have := as_W2.out; have := sz_W2.out; have := as_W3.out; have := sz_W3.out; have := sz_w4.out; have := as_W5.out; have := sz_W5.out; have := sz_w6.out; have := sz_w7.out; omega))))
          with_reducible exact oL_w7.out
        · repeat (with_reducible refine Below.setCell ?_ ?_ _; rotate_left; (focus (first | (simp; done) | (simp; omega))))
          exact acc_w7.out
      · rw [hw] at HOn hr
        rw [Bool.true_and] at hr
        clear hw
        cases h1 : (decide (1 ≤ span) && decide (span ≤ 1000))
        · rw [h1] at HI
          clear hr
          go_enter Tryz.func8, Tryz.ntmps8
          go_wp2_with fail
          obtain ⟨bk0_W1, bk1_W1, bk2_W1⟩ := box3B w 26 (.slice a n c) (.int .i64 T) (.int .i64 N)
          have bkF_W1 : ∀ o, (w.alloc (.cells #[.slice a n c, .int .i64 T, .int .i64 N] 26)).frozen? ⟨w.heap.size, o, none⟩ = false := fun o => by simp [go_sem]
          have bkL_W1 : w.heap.size < (w.alloc (.cells #[.slice a n c, .int .i64 T, .int .i64 N] 26)).heap.size := by simp
          have ab_W1 := alloc_below w (.cells #[.slice a n c, .int .i64 T, .int .i64 N] 26)
          have as_W1 : Hid ((w.alloc (.cells #[.slice a n c, .int .i64 T, .int .i64 N] 26)).heap.size = w.heap.size + 1) := hidP (by simp)
          generalize w.alloc (.cells #[.slice a n c, .int .i64 T, .int .i64 N] 26) = W1 at *
          have acc_W1 := hidP (ab_W1)
          have sz_W1 : Hid (w.heap.size ≤ W1.heap.size) := hidP ab_W1.size
          clear ab_W1 
          obtain ⟨at0_W2, at1_W2, at2_W2⟩ := box3B W1 28 (.bool ad.s) (.int .i64 ad.H.toInt) (.int .i64 ad.L.toInt)
          have atF_W2 : ∀ o, (W1.alloc (.cells #[.bool ad.s, .int .i64 ad.H.toInt, .int .i64 ad.L.toInt] 28)).frozen? ⟨W1.heap.size, o, none⟩ = false := fun o => by simp [go_sem]
          have atL_W2 : W1.heap.size < (W1.alloc (.cells #[.bool ad.s, .int .i64 ad.H.toInt, .int .i64 ad.L.toInt] 28)).heap.size := by simp
          have ab_W2 := alloc_below W1 (.cells #[.bool ad.s, .int .i64 ad.H.toInt, .int .i64 ad.L.toInt] 28)
          have as_W2 : Hid ((W1.alloc (.cells #[.bool ad.s, .int .i64 ad.H.toInt, .int .i64 ad.L.toInt] 28)).heap.size = W1.heap.size + 1) := hidP (by simp)
          generalize W1.alloc (.cells #[.bool ad.s, .int .i64 ad.H.toInt, .int .i64 ad.L.toInt] 28) = W2 at *
          have bk0_W2 := (ab_W2.cell bkL_W1).trans bk0_W1
          have bk1_W2 := (ab_W2.cell bkL_W1).trans bk1_W1
          have bk2_W2 := (ab_W2.cell bkL_W1).trans bk2_W1
          have bkF_W2 : ∀ o, W2.frozen? ⟨w.heap.size, o, none⟩ = false := fun o => (ab_W2.frozen bkL_W1).trans (bkF_W1 o)
          have bkL_W2 : w.heap.size < W2.heap.size := Nat.lt_of_lt_of_le bkL_W1 ab_W2.size
          have acc_W2 := hidP (acc_W1.out.trans (ab_W2.mono acc_W1.out.size))
          have sz_W2 : Hid (W1.heap.size ≤ W2.heap.size) := hidP ab_W2.size
          clear ab_W2 bk0_W1 bk1_W1 bk2_W1 bkF_W1 bkL_W1 acc_W1
          rw [as_W1.out] at at0_W2 at1_W2 at2_W2 atL_W2
          have atF_W2' : ∀ o, W2.frozen? ⟨w.heap.size + 1, o, none⟩ = false := fun o => by have := atF_W2 o; rw [as_W1.out] at this; exact this
          clear atF_W2
          have atF_W2 := atF_W2'
          clear atF_W2'
          obtain ⟨rs0_W3, rs1_W3, rs2_W3⟩ := box3B W2 26 (.slice none 0 0) (.int .i64 0) (.int .i64 0)
          have rsF_W3 : ∀ o, (W2.alloc (.cells #[.slice none 0 0, .int .i64 0, .int .i64 0] 26)).frozen? ⟨W2.heap.size, o, none⟩ = false := fun o => by simp [go_sem]
          have rsL_W3 : W2.heap.size < (W2.alloc (.cells #[.slice none 0 0, .int .i64 0, .int .i64 0] 26)).heap.size := by simp
          have ab_W3 := alloc_below W2 (.cells #[.slice none 0 0, .int .i64 0, .int .i64 0] 26)
          have as_W3 : Hid ((W2.alloc (.cells #[.slice none 0 0, .int .i64 0, .int .i64 0] 26)).heap.size = W2.heap.size + 1) := hidP (by simp)
          generalize W2.alloc (.cells #[.slice none 0 0, .int .i64 0, .int .i64 0] 26) = W3 at *
          have bk0_W3 := (ab_W3.cell bkL_W2).trans bk0_W2
          have bk1_W3 := (ab_W3.cell bkL_W2).trans bk1_W2
          have bk2_W3 := (ab_W3.cell bkL_W2).trans bk2_W2
          have bkF_W3 : ∀ o, W3.frozen? ⟨w.heap.size, o, none⟩ = false := fun o => (ab_W3.frozen bkL_W2).trans (bkF_W2 o)
          have bkL_W3 : w.heap.size < W3.heap.size := Nat.lt_of_lt_of_le bkL_W2 ab_W3.size
          have at0_W3 := (ab_W3.cell atL_W2).trans at0_W2
          have at1_W3 := (ab_W3.cell atL_W2).trans at1_W2
          have at2_W3 := (ab_W3.cell atL_W2).trans at2_W2
          have atF_W3 : ∀ o, W3.frozen? ⟨w.heap.size + 1, o, none⟩ = false := fun o => (ab_W3.frozen atL_W2).trans (atF_W2 o)
          have atL_W3 : w.heap.size + 1 < W3.heap.size := Nat.lt_of_lt_of_le atL_W2 ab_W3.size
          have acc_W3 := hidP (acc_W2.out.trans (ab_W3.mono acc_W2.out.size))
          have sz_W3 : Hid (W2.heap.size ≤ W3.heap.size) := hidP ab_W3.size
          clear ab_W3 bk0_W2 bk1_W2 bk2_W2 bkF_W2 bkL_W2 at0_W2 at1_W2 at2_W2 atF_W2 atL_W2 acc_W2
          rw [as_W2.out, as_W1.out] at rs0_W3 rs1_W3 rs2_W3 rsL_W3
          have rsF_W3' : ∀ o, W3.frozen? ⟨w.heap.size + 1 + 1, o, none⟩ = false := fun o => by have := rsF_W3 o; rw [as_W2.out, as_W1.out] at this; exact this
          clear rsF_W3
          have rsF_W3 := rsF_W3'
          clear rsF_W3'
          refine (HOw.out _ acc_W3.out).mono ?_
          rintro e w4 ⟨a3, c3, rfl, og3, hb4⟩
          have og3' := hidP og3
          clear og3
          have bk0_w4 := (hb4.cell bkL_W3).trans bk0_W3
          have bk1_w4 := (hb4.cell bkL_W3).trans bk1_W3
          have bk2_w4 := (hb4.cell bkL_W3).trans bk2_W3
          have bkF_w4 : ∀ o, w4.frozen? ⟨w.heap.size, o, none⟩ = false := fun o => (hb4.frozen bkL_W3).trans (bkF_W3 o)
          have bkL_w4 : w.heap.size < w4.heap.size := Nat.lt_of_lt_of_le bkL_W3 hb4.size
          have at0_w4 := (hb4.cell atL_W3).trans at0_W3
          have at1_w4 := (hb4.cell atL_W3).trans at1_W3
          have at2_w4 := (hb4.cell atL_W3).trans at2_W3
          have atF_w4 : ∀ o, w4.frozen? ⟨w.heap.size + 1, o, none⟩ = false := fun o => (hb4.frozen atL_W3).trans (atF_W3 o)
          have atL_w4 : w.heap.size + 1 < w4.heap.size := Nat.lt_of_lt_of_le atL_W3 hb4.size
          have rs0_w4 := (hb4.cell rsL_W3).trans rs0_W3
          have rs1_w4 := (hb4.cell rsL_W3).trans rs1_W3
          have rs2_w4 := (hb4.cell rsL_W3).trans rs2_W3
          have rsF_w4 : ∀ o, w4.frozen? ⟨w.heap.size + 1 + 1, o, none⟩ = false := fun o => (hb4.frozen rsL_W3).trans (rsF_W3 o)
          have rsL_w4 : w.heap.size + 1 + 1 < w4.heap.size := Nat.lt_of_lt_of_le rsL_W3 hb4.size
          have acc_w4 := hidP (acc_W3.out.trans (hb4.mono acc_W3.out.size))
          have sz_w4 : Hid (W3.heap.size ≤ w4.heap.size) := hidP hb4.size
          clear hb4 bk0_W3 bk1_W3 bk2_W3 bkF_W3 bkL_W3 at0_W3 at1_W3 at2_W3 atF_W3 atL_W3 rs0_W3 rs1_W3 rs2_W3 rsF_W3 rsL_W3 acc_W3
          have oL_w4 := hidP (og3'.out)
          have lhL : Hid (∀ k, (Value.slice a3 n c3).ownBlock = some k → W3.heap.size ≤ k ∧ k < w4.heap.size) := hidP (fun k hk => OwnG.lt oL_w4.out k hk)
          clear og3'
          go_wp2_with fail
          obtain ⟨ou0_W5, ou1_W5, ou2_W5⟩ := box3B w4 26 (.slice a3 n c3) (.int .i64 T) (.int .i64 N)
          have ouF_W5 : ∀ o, (w4.alloc (.cells #[.slice a3 n c3, .int .i64 T, .int .i64 N] 26)).frozen? ⟨w4.heap.size, o, none⟩ = false := fun o => by simp [go_sem]
          have ouL_W5 : w4.heap.size < (w4.alloc (.cells #[.slice a3 n c3, .int .i64 T, .int .i64 N] 26)).heap.size := by simp
          have ab_W5 := alloc_below w4 (.cells #[.slice a3 n c3, .int .i64 T, .int .i64 N] 26)
          have as_W5 : Hid ((w4.alloc (.cells #[.slice a3 n c3, .int .i64 T, .int .i64 N] 26)).heap.size = w4.heap.size + 1) := hidP (by simp)
          generalize w4.alloc (.cells #[.slice a3 n c3, .int .i64 T, .int .i64 N] 26) = W5 at *
          have bk0_W5 := (ab_W5.cell bkL_w4).trans bk0_w4
          have bk1_W5 := (ab_W5.cell bkL_w4).trans bk1_w4
          have bk2_W5 := (ab_W5.cell bkL_w4).trans bk2_w4
          have bkF_W5 : ∀ o, W5.frozen? ⟨w.heap.size, o, none⟩ = false := fun o => (ab_W5.frozen bkL_w4).trans (bkF_w4 o)
          have bkL_W5 : w.heap.size < W5.heap.size := Nat.lt_of_lt_of_le bkL_w4 ab_W5.size
          have at0_W5 := (ab_W5.cell atL_w4).trans at0_w4
          have at1_W5 := (ab_W5.cell atL_w4).trans at1_w4
          have at2_W5 := (ab_W5.cell atL_w4).trans at2_w4
          have atF_W5 : ∀ o, W5.frozen? ⟨w.heap.size + 1, o, none⟩ = false := fun o => (ab_W5.frozen atL_w4).trans (atF_w4 o)
          have atL_W5 : w.heap.size + 1 < W5.heap.size := Nat.lt_of_lt_of_le atL_w4 ab_W5.size
          have rs0_W5 := (ab_W5.cell rsL_w4).trans rs0_w4
          have rs1_W5 := (ab_W5.cell rsL_w4).trans rs1_w4
          have rs2_W5 := (ab_W5.cell rsL_w4).trans rs2_w4
          have rsF_W5 : ∀ o, W5.frozen? ⟨w.heap.size + 1 + 1, o, none⟩ = false := fun o => (ab_W5.frozen rsL_w4).trans (rsF_w4 o)
          have rsL_W5 : w.heap.size + 1 + 1 < W5.heap.size := Nat.lt_of_lt_of_le rsL_w4 ab_W5.size
          have oL_W5 := hidP (OwnG.later oL_w4.out ab_W5)
          have acc_W5 := hidP (acc_w4.out.trans (ab_W5.mono acc_w4.out.size))
          have sz_W5 : Hid (w4.heap.size ≤ W5.heap.size) := hidP ab_W5.size
          clear ab_W5 bk0_w4 bk1_w4 bk2_w4 bkF_w4 bkL_w4 at0_w4 at1_w4 at2_w4 atF_w4 atL_w4 rs0_w4 rs1_w4 rs2_w4 rsF_w4 rsL_w4 oL_w4 acc_w4
          refine (HSp.out _ acc_W5.out).mono ?_
          rintro e w6 ⟨rfl, hb6⟩
          have bk0_w6 := (hb6.cell bkL_W5).trans bk0_W5
          have bk1_w6 := (hb6.cell bkL_W5).trans bk1_W5
          have bk2_w6 := (hb6.cell bkL_W5).trans bk2_W5
          have bkF_w6 : ∀ o, w6.frozen? ⟨w.heap.size, o, none⟩ = false := fun o => (hb6.frozen bkL_W5).trans (bkF_W5 o)
          have bkL_w6 : w.heap.size < w6.heap.size := Nat.lt_of_lt_of_le bkL_W5 hb6.size
          have at0_w6 := (hb6.cell atL_W5).trans at0_W5
          have at1_w6 := (hb6.cell atL_W5).trans at1_W5
          have at2_w6 := (hb6.cell atL_W5).trans at2_W5
          have atF_w6 : ∀ o, w6.frozen? ⟨w.heap.size + 1, o, none⟩ = false := fun o => (hb6.frozen atL_W5).trans (atF_W5 o)
          have atL_w6 : w.heap.size + 1 < w6.heap.size := Nat.lt_of_lt_of_le atL_W5 hb6.size
          have rs0_w6 := (hb6.cell rsL_W5).trans rs0_W5
          have rs1_w6 := (hb6.cell rsL_W5).trans rs1_W5
          have rs2_w6 := (hb6.cell rsL_W5).trans rs2_W5
          have rsF_w6 : ∀ o, w6.frozen? ⟨w.heap.size + 1 + 1, o, none⟩ = false := fun o => (hb6.frozen rsL_W5).trans (rsF_W5 o)
          have rsL_w6 : w.heap.size + 1 + 1 < w6.heap.size := Nat.lt_of_lt_of_le rsL_W5 hb6.size
          have ou0_w6 := (hb6.cell ouL_W5).trans ou0_W5
          have ou1_w6 := (hb6.cell ouL_W5).trans ou1_W5
          have ou2_w6 := (hb6.cell ouL_W5).trans ou2_W5
          have ouF_w6 : ∀ o, w6.frozen? ⟨w4.heap.size, o, none⟩ = false := fun o => (hb6.frozen ouL_W5).trans (ouF_W5 o)
          have ouL_w6 : w4.heap.size < w6.heap.size := Nat.lt_of_lt_of_le ouL_W5 hb6.size
          have oL_w6 := hidP (OwnG.later oL_W5.out hb6)
          have acc_w6 := hidP (acc_W5.out.trans (hb6.mono acc_W5.out.size))
          have sz_w6 : Hid (W5.heap.size ≤ w6.heap.size) := hidP hb6.size
          clear hb6 bk0_W5 bk1_W5 bk2_W5 bkF_W5 bkL_W5 at0_W5 at1_W5 at2_W5 atF_W5 atL_W5 rs0_W5 rs1_W5 rs2_W5 rsF_W5 rsL_W5 ou0_W5 ou1_W5 ou2_W5 ouF_W5 ouL_W5 oL_W5 acc_W5
          go_wp2_with fail
          refine (HAd.out _).mono ?_
          rintro e w7 ⟨rfl, hb7⟩
          have bk0_w7 := (hb7.cell bkL_w6).trans bk0_w6
          have bk1_w7 := (hb7.cell bkL_w6).trans bk1_w6
          have bk2_w7 := (hb7.cell bkL_w6).trans bk2_w6
          have bkF_w7 : ∀ o, w7.frozen? ⟨w.heap.size, o, none⟩ = false := fun o => (hb7.frozen bkL_w6).trans (bkF_w6 o)
          have bkL_w7 : w.heap.size < w7.heap.size := Nat.lt_of_lt_of_le bkL_w6 hb7.size
          have at0_w7 := (hb7.cell atL_w6).trans at0_w6
          have at1_w7 := (hb7.cell atL_w6).trans at1_w6
          have at2_w7 := (hb7.cell atL_w6).trans at2_w6
          have atF_w7 : ∀ o, w7.frozen? ⟨w.heap.size + 1, o, none⟩ = false := fun o => (hb7.frozen atL_w6).trans (atF_w6 o)
          have atL_w7 : w.heap.size + 1 < w7.heap.size := Nat.lt_of_lt_of_le atL_w6 hb7.size
          have rs0_w7 := (hb7.cell rsL_w6).trans rs0_w6
          have rs1_w7 := (hb7.cell rsL_w6).trans rs1_w6
          have rs2_w7 := (hb7.cell rsL_w6).trans rs2_w6
          have rsF_w7 : ∀ o, w7.frozen? ⟨w.heap.size + 1 + 1, o, none⟩ = false := fun o => (hb7.frozen rsL_w6).trans (rsF_w6 o)
          have rsL_w7 : w.heap.size + 1 + 1 < w7.heap.size := Nat.lt_of_lt_of_le rsL_w6 hb7.size
          have ou0_w7 := (hb7.cell ouL_w6).trans ou0_w6
          have ou1_w7 := (hb7.cell ouL_w6).trans ou1_w6
          have ou2_w7 := (hb7.cell ouL_w6).trans ou2_w6
          have ouF_w7 : ∀ o, w7.frozen? ⟨w4.heap.size, o, none⟩ = false := fun o => (hb7.frozen ouL_w6).trans (ouF_w6 o)
          have ouL_w7 : w4.heap.size < w7.heap.size := Nat.lt_of_lt_of_le ouL_w6 hb7.size
          have oL_w7 := hidP (OwnG.later oL_w6.out hb7)
          have acc_w7 := hidP (acc_w6.out.trans (hb7.mono acc_w6.out.size))
          have sz_w7 : Hid (w6.heap.size ≤ w7.heap.size) := hidP hb7.size
          clear hb7 bk0_w6 bk1_w6 bk2_w6 bkF_w6 bkL_w6 at0_w6 at1_w6 at2_w6 atF_w6 atL_w6 rs0_w6 rs1_w6 rs2_w6 rsF_w6 rsL_w6 ou0_w6 ou1_w6 ou2_w6 ouF_w6 ouL_w6 oL_w6 acc_w6
          go_wp2_with fail
          refine (HOn.out _).mono ?_
          rintro e w8' ⟨rfl, hw8'⟩
          rw [hw8']
          clear hw8' w8'
          go_wp2_with fail
          refine (HI.out _).mono ?_
          rintro e w9' ⟨rfl, hw9'⟩
          rw [hw9']
          clear hw9' w9'
          go_wp2_with fail
          refine bodyPost_ret (v := .tuple #[.agg #[.slice a3 n c3, .int .i64 T, .int .i64 N], .int .i64 0, .int .i64 10]) (by simp [results, Tryz.results8, go_sem, rs0_w7, rs1_w7, rs2_w7]) rfl ⟨_, _, rfl, ?_, ?_⟩
          · refine OwnG.mono (B := W3.heap.size) ?_ (by have := as_W1.out; have := sz_W1.out; have := as_W2.out; have := sz_W2.out; have := as_W3.out; have := sz_W3.out; have := sz_w4.out; have := as_W5.out; have := sz_W5.out; have := sz_w6.out; have := sz_w7.out; omega)
            iterate 3 (with_reducible refine OwnG.grown ?_ (grown_cellG _ _ _ _) ?_; rotate_left; (focus (exact OwnG.ne_of oL_w7.out (by have := as_W1.out; have := sz_W1.out; have := as_W2.out; have := sz_W2.out; have := as_W3.out; have := sz_W3.out; have := sz_w4.out; have := as_W5.out; have := sz_W5.out; have := sz_w6.out; have := sz_w7.out; omega))))
            with_reducible exact oL_w7.out
          · repeat (with_reducible refine Below.setCell ?_ ?_ _; rotate_left; (focus (first | (simp; done) | (simp; omega))))
            exact acc_w7.out
        · obtain ⟨hw1, hw2⟩ := sp_wrap hnow h1
          rw [h1] at HI hr
          rw [Bool.true_and] at hr
          clear h1
          cases h2 : decide (N + span ≤ 1000000000)
          · have h3 : decide ((1000000000 : Int) < N + span) = true := by have := of_decide_eq_false h2; exact decide_eq_true (by omega)
            clear hr h2
            go_enter Tryz.func8, Tryz.ntmps8
            go_wp2_with fail
            obtain ⟨bk0_W1, bk1_W1, bk2_W1⟩ := box3B w 26 (.slice a n c) (.int .i64 T) (.int .i64 N)
            have bkF_W1 : ∀ o, (w.alloc (.cells #[.slice a n c, .int .i64 T, .int .i64 N] 26)).frozen? ⟨w.heap.size, o, none⟩ = false := fun o => by simp [go_sem]
            have bkL_W1 : w.heap.size < (w.alloc (.cells #[.slice a n c, .int .i64 T, .int .i64 N] 26)).heap.size := by simp
            have ab_W1 := alloc_below w (.cells #[.slice a n c, .int .i64 T, .int .i64 N] 26)
            have as_W1 : Hid ((w.alloc (.cells #[.slice a n c, .int .i64 T, .int .i64 N] 26)).heap.size = w.heap.size + 1) := hidP (by simp)
            generalize w.alloc (.cells #[.slice a n c, .int .i64 T, .int .i64 N] 26) = W1 at *
            have acc_W1 := hidP (ab_W1)
            have sz_W1 : Hid (w.heap.size ≤ W1.heap.size) := hidP ab_W1.size
            clear ab_W1 
            obtain ⟨at0_W2, at1_W2, at2_W2⟩ := box3B W1 28 (.bool ad.s) (.int .i64 ad.H.toInt) (.int .i64 ad.L.toInt)
            have atF_W2 : ∀ o, (W1.alloc (.cells #[.bool ad.s, .int .i64 ad.H.toInt, .int .i64 ad.L.toInt] 28)).frozen? ⟨W1.heap.size, o, none⟩ = false := fun o => by simp [go_sem]
            have atL_W2 : W1.heap.size < (W1.alloc (.cells #[.bool ad.s, .int .i64 ad.H.toInt, .int .i64 ad.L.toInt] 28)).heap.size := by simp
            have ab_W2 := alloc_below W1 (.cells #[.bool ad.s, .int .i64 ad.H.toInt, .int .i64 ad.L.toInt] 28)
            have as_W2 : Hid ((W1.alloc (.cells #[.bool ad.s, .int .i64 ad.H.toInt, .int .i64 ad.L.toInt] 28)).heap.size = W1.heap.size + 1) := hidP (by simp)
            generalize W1.alloc (.cells #[.bool ad.s, .int .i64 ad.H.toInt, .int .i64 ad.L.toInt] 28) = W2 at *
            have bk0_W2 := (ab_W2.cell bkL_W1).trans bk0_W1
            have bk1_W2 := (ab_W2.cell bkL_W1).trans bk1_W1
            have bk2_W2 := (ab_W2.cell bkL_W1).trans bk2_W1
            have bkF_W2 : ∀ o, W2.frozen? ⟨w.heap.size, o, none⟩ = false := fun o => (ab_W2.frozen bkL_W1).trans (bkF_W1 o)
            have bkL_W2 : w.heap.size < W2.heap.size := Nat.lt_of_lt_of_le bkL_W1 ab_W2.size
            have acc_W2 := hidP (acc_W1.out.trans (ab_W2.mono acc_W1.out.size))
            have sz_W2 : Hid (W1.heap.size ≤ W2.heap.size) := hidP ab_W2.size
            clear ab_W2 bk0_W1 bk1_W1 bk2_W1 bkF_W1 bkL_W1 acc_W1
            rw [as_W1.out] at at0_W2 at1_W2 at2_W2 atL_W2
            have atF_W2' : ∀ o, W2.frozen? ⟨w.heap.size + 1, o, none⟩ = false := fun o => by have := atF_W2 o; rw [as_W1.out] at this; exact this
            clear atF_W2
            have atF_W2 := atF_W2'
            clear atF_W2'
            obtain ⟨rs0_W3, rs1_W3, rs2_W3⟩ := box3B W2 26 (.slice none 0 0) (.int .i64 0) (.int .i64 0)
            have rsF_W3 : ∀ o, (W2.alloc (.cells #[.slice none 0 0, .int .i64 0, .int .i64 0] 26)).frozen? ⟨W2.heap.size, o, none⟩ = false := fun o => by simp [go_sem]
            have rsL_W3 : W2.heap.size < (W2.alloc (.cells #[.slice none 0 0, .int .i64 0, .int .i64 0] 26)).heap.size := by simp
            have ab_W3 := alloc_below W2 (.cells #[.slice none 0 0, .int .i64 0, .int .i64 0] 26)
            have as_W3 : Hid ((W2.alloc (.cells #[.slice none 0 0, .int .i64 0, .int .i64 0] 26)).heap.size = W2.heap.size + 1) := hidP (by simp)
            generalize W2.alloc (.cells #[.slice none 0 0, .int .i64 0, .int .i64 0] 26) = W3 at *
            have bk0_W3 := (ab_W3.cell bkL_W2).trans bk0_W2
            have bk1_W3 := (ab_W3.cell bkL_W2).trans bk1_W2
            have bk2_W3 := (ab_W3.cell bkL_W2).trans bk2_W2
            have bkF_W3 : ∀ o, W3.frozen? ⟨w.heap.size, o, none⟩ = false := fun o => (ab_W3.frozen bkL_W2).trans (bkF_W2 o)
            have bkL_W3 : w.heap.size < W3.heap.size := Nat.lt_of_lt_of_le bkL_W2 ab_W3.size
            have at0_W3 := (ab_W3.cell atL_W2).trans at0_W2
            have at1_W3 := (ab_W3.cell atL_W2).trans at1_W2
            have at2_W3 := (ab_W3.cell atL_W2).trans at2_W2
            have atF_W3 : ∀ o, W3.frozen? ⟨w.heap.size + 1, o, none⟩ = false := fun o => (ab_W3.frozen atL_W2).trans (atF_W2 o)
            have atL_W3 : w.heap.size + 1 < W3.heap.size := Nat.lt_of_lt_of_le atL_W2 ab_W3.size
            have acc_W3 := hidP (acc_W2.out.trans (ab_W3.mono acc_W2.out.size))
            have sz_W3 : Hid (W2.heap.size ≤ W3.heap.size) := hidP ab_W3.size
            clear ab_W3 bk0_W2 bk1_W2 bk2_W2 bkF_W2 bkL_W2 at0_W2 at1_W2 at2_W2 atF_W2 atL_W2 acc_W2
            rw [as_W2.out, as_W1.out] at rs0_W3 rs1_W3 rs2_W3 rsL_W3
            have rsF_W3' : ∀ o, W3.frozen? ⟨w.heap.size + 1 + 1, o, none⟩ = false := fun o => by have := rsF_W3 o; rw [as_W2.out, as_W1.out] at this; exact this
            clear rsF_W3
            have rsF_W3 := rsF_W3'
            clear rsF_W3'
            refine (HOw.out _ acc_W3.out).mono ?_
            rintro e w4 ⟨a3, c3, rfl, og3, hb4⟩
            have og3' := hidP og3
            clear og3
            have bk0_w4 := (hb4.cell bkL_W3).trans bk0_W3
            have bk1_w4 := (hb4.cell bkL_W3).trans bk1_W3
            have bk2_w4 := (hb4.cell bkL_W3).trans bk2_W3
            have bkF_w4 : ∀ o, w4.frozen? ⟨w.heap.size, o, none⟩ = false := fun o => (hb4.frozen bkL_W3).trans (bkF_W3 o)
            have bkL_w4 : w.heap.size < w4.heap.size := Nat.lt_of_lt_of_le bkL_W3 hb4.size
            have at0_w4 := (hb4.cell atL_W3).trans at0_W3
            have at1_w4 := (hb4.cell atL_W3).trans at1_W3
            have at2_w4 := (hb4.cell atL_W3).trans at2_W3
            have atF_w4 : ∀ o, w4.frozen? ⟨w.heap.size + 1, o, none⟩ = false := fun o => (hb4.frozen atL_W3).trans (atF_W3 o)
            have atL_w4 : w.heap.size + 1 < w4.heap.size := Nat.lt_of_lt_of_le atL_W3 hb4.size
            have rs0_w4 := (hb4.cell rsL_W3).trans rs0_W3
            have rs1_w4 := (hb4.cell rsL_W3).trans rs1_W3
            have rs2_w4 := (hb4.cell rsL_W3).trans rs2_W3
            have rsF_w4 : ∀ o, w4.frozen? ⟨w.heap.size + 1 + 1, o, none⟩ = false := fun o => (hb4.frozen rsL_W3).trans (rsF_W3 o)
            have rsL_w4 : w.heap.size + 1 + 1 < w4.heap.size := Nat.lt_of_lt_of_le rsL_W3 hb4.size
            have acc_w4 := hidP (acc_W3.out.trans (hb4.mono acc_W3.out.size))
            have sz_w4 : Hid (W3.heap.size ≤ w4.heap.size) := hidP hb4.size
            clear hb4 bk0_W3 bk1_W3 bk2_W3 bkF_W3 bkL_W3 at0_W3 at1_W3 at2_W3 atF_W3 atL_W3 rs0_W3 rs1_W3 rs2_W3 rsF_W3 rsL_W3 acc_W3
            have oL_w4 := hidP (og3'.out)
            have lhL : Hid (∀ k, (Value.slice a3 n c3).ownBlock = some k → W3.heap.size ≤ k ∧ k < w4.heap.size) := hidP (fun k hk => OwnG.lt oL_w4.out k hk)
            clear og3'
            go_wp2_with fail
            obtain ⟨ou0_W5, ou1_W5, ou2_W5⟩ := box3B w4 26 (.slice a3 n c3) (.int .i64 T) (.int .i64 N)
            have ouF_W5 : ∀ o, (w4.alloc (.cells #[.slice a3 n c3, .int .i64 T, .int .i64 N] 26)).frozen? ⟨w4.heap.size, o, none⟩ = false := fun o => by simp [go_sem]
            have ouL_W5 : w4.heap.size < (w4.alloc (.cells #[.slice a3 n c3, .int .i64 T, .int .i64 N] 26)).heap.size := by simp
            have ab_W5 := alloc_below w4 (.cells #[.slice a3 n c3, .int .i64 T, .int .i64 N] 26)
            have as_W5 : Hid ((w4.alloc (.cells #[.slice a3 n c3, .int .i64 T, .int .i64 N] 26)).heap.size = w4.heap.size + 1) := hidP (by simp)
            generalize w4.alloc (.cells #[.slice a3 n c3, .int .i64 T, .int .i64 N] 26) = W5 at *
            have bk0_W5 := (ab_W5.cell bkL_w4).trans bk0_w4
            have bk1_W5 := (ab_W5.cell bkL_w4).trans bk1_w4
            have bk2_W5 := (ab_W5.cell bkL_w4).trans bk2_w4
            have bkF_W5 : ∀ o, W5.frozen? ⟨w.heap.size, o, none⟩ = false := fun o => (ab_W5.frozen bkL_w4).trans (bkF_w4 o)
            have bkL_W5 : w.heap.size < W5.heap.size := Nat.lt_of_lt_of_le bkL_w4 ab_W5.size
            have at0_W5 := (ab_W5.cell atL_w4).trans at0_w4
            have at1_W5 := (ab_W5.cell atL_w4).trans at1_w4
            have at2_W5 := (ab_W5.cell atL_w4).trans at2_w4
            have atF_W5 : ∀ o, W5.frozen? ⟨w.heap.size + 1, o, none⟩ = false := fun o => (ab_W5.frozen atL_w4).trans (atF_w4 o)
            have atL_W5 : w.heap.size + 1 < W5.heap.size := Nat.lt_of_lt_of_le atL_w4 ab_W5.size
            have rs0_W5 := (ab_W5.cell rsL_w4).trans rs0_w4
            have rs1_W5 := (ab_W5.cell rsL_w4).trans rs1_w4
            have rs2_W5 := (ab_W5.cell rsL_w4).trans rs2_w4
            have rsF_W5 : ∀ o, W5.frozen? ⟨w.heap.size + 1 + 1, o, none⟩ = false := fun o => (ab_W5.frozen rsL_w4).trans (rsF_w4 o)
            have rsL_W5 : w.heap.size + 1 + 1 < W5.heap.size := Nat.lt_of_lt_of_le rsL_w4 ab_W5.size
            have oL_W5 := hidP (OwnG.later oL_w4.out ab_W5)
            have acc_W5 := hidP (acc_w4.out.trans (ab_W5.mono acc_w4.out.size))
            have sz_W5 : Hid (w4.heap.size ≤ W5.heap.size) := hidP ab_W5.size
            clear ab_W5 bk0_w4 bk1_w4 bk2_w4 bkF_w4 bkL_w4 at0_w4 at1_w4 at2_w4 atF_w4 atL_w4 rs0_w4 rs1_w4 rs2_w4 rsF_w4 rsL_w4 oL_w4 acc_w4
            refine (HSp.out _ acc_W5.out).mono ?_
            rintro e w6 ⟨rfl, hb6⟩
            have bk0_w6 := (hb6.cell bkL_W5).trans bk0_W5
            have bk1_w6 := (hb6.cell bkL_W5).trans bk1_W5
            have bk2_w6 := (hb6.cell bkL_W5).trans bk2_W5
            have bkF_w6 : ∀ o, w6.frozen? ⟨w.heap.size, o, none⟩ = false := fun o => (hb6.frozen bkL_W5).trans (bkF_W5 o)
            have bkL_w6 : w.heap.size < w6.heap.size := Nat.lt_of_lt_of_le bkL_W5 hb6.size
            have at0_w6 := (hb6.cell atL_W5).trans at0_W5
            have at1_w6 := (hb6.cell atL_W5).trans at1_W5
            have at2_w6 := (hb6.cell atL_W5).trans at2_W5
            have atF_w6 : ∀ o, w6.frozen? ⟨w.heap.size + 1, o, none⟩ = false := fun o => (hb6.frozen atL_W5).trans (atF_W5 o)
            have atL_w6 : w.heap.size + 1 < w6.heap.size := Nat.lt_of_lt_of_le atL_W5 hb6.size
            have rs0_w6 := (hb6.cell rsL_W5).trans rs0_W5
            have rs1_w6 := (hb6.cell rsL_W5).trans rs1_W5
            have rs2_w6 := (hb6.cell rsL_W5).trans rs2_W5
            have rsF_w6 : ∀ o, w6.frozen? ⟨w.heap.size + 1 + 1, o, none⟩ = false := fun o => (hb6.frozen rsL_W5).trans (rsF_W5 o)
            have rsL_w6 : w.heap.size + 1 + 1 < w6.heap.size := Nat.lt_of_lt_of_le rsL_W5 hb6.size
            have ou0_w6 := (hb6.cell ouL_W5).trans ou0_W5
            have ou1_w6 := (hb6.cell ouL_W5).trans ou1_W5
            have ou2_w6 := (hb6.cell ouL_W5).trans ou2_W5
            have ouF_w6 : ∀ o, w6.frozen? ⟨w4.heap.size, o, none⟩ = false := fun o => (hb6.frozen ouL_W5).trans (ouF_W5 o)
            have ouL_w6 : w4.heap.size < w6.heap.size := Nat.lt_of_lt_of_le ouL_W5 hb6.size
            have oL_w6 := hidP (OwnG.later oL_W5.out hb6)
            have acc_w6 := hidP (acc_W5.out.trans (hb6.mono acc_W5.out.size))
            have sz_w6 : Hid (W5.heap.size ≤ w6.heap.size) := hidP hb6.size
            clear hb6 bk0_W5 bk1_W5 bk2_W5 bkF_W5 bkL_W5 at0_W5 at1_W5 at2_W5 atF_W5 atL_W5 rs0_W5 rs1_W5 rs2_W5 rsF_W5 rsL_W5 ou0_W5 ou1_W5 ou2_W5 ouF_W5 ouL_W5 oL_W5 acc_W5
            go_wp2_with fail
            refine (HAd.out _).mono ?_
            rintro e w7 ⟨rfl, hb7⟩
            have bk0_w7 := (hb7.cell bkL_w6).trans bk0_w6
            have bk1_w7 := (hb7.cell bkL_w6).trans bk1_w6
            have bk2_w7 := (hb7.cell bkL_w6).trans bk2_w6
            have bkF_w7 : ∀ o, w7.frozen? ⟨w.heap.size, o, none⟩ = false := fun o => (hb7.frozen bkL_w6).trans (bkF_w6 o)
            have bkL_w7 : w.heap.size < w7.heap.size := Nat.lt_of_lt_of_le bkL_w6 hb7.size
            have at0_w7 := (hb7.cell atL_w6).trans at0_w6
            have at1_w7 := (hb7.cell atL_w6).trans at1_w6
            have at2_w7 := (hb7.cell atL_w6).trans at2_w6
            have atF_w7 : ∀ o, w7.frozen? ⟨w.heap.size + 1, o, none⟩ = false := fun o => (hb7.frozen atL_w6).trans (atF_w6 o)
            have atL_w7 : w.heap.size + 1 < w7.heap.size := Nat.lt_of_lt_of_le atL_w6 hb7.size
            have rs0_w7 := (hb7.cell rsL_w6).trans rs0_w6
            have rs1_w7 := (hb7.cell rsL_w6).trans rs1_w6
            have rs2_w7 := (hb7.cell rsL_w6).trans rs2_w6
            have rsF_w7 : ∀ o, w7.frozen? ⟨w.heap.size + 1 + 1, o, none⟩ = false := fun o => (hb7.frozen rsL_w6).trans (rsF_w6 o)
            have rsL_w7 : w.heap.size + 1 + 1 < w7.heap.size := Nat.lt_of_lt_of_le rsL_w6 hb7.size
            have ou0_w7 := (hb7.cell ouL_w6).trans ou0_w6
            have ou1_w7 := (hb7.cell ouL_w6).trans ou1_w6
            have ou2_w7 := (hb7.cell ouL_w6).trans ou2_w6
            have ouF_w7 : ∀ o, w7.frozen? ⟨w4.heap.size, o, none⟩ = false := fun o => (hb7.frozen ouL_w6).trans (ouF_w6 o)
            have ouL_w7 : w4.heap.size < w7.heap.size := Nat.lt_of_lt_of_le ouL_w6 hb7.size
            have oL_w7 := hidP (OwnG.later oL_w6.out hb7)
            have acc_w7 := hidP (acc_w6.out.trans (hb7.mono acc_w6.out.size))
            have sz_w7 : Hid (w6.heap.size ≤ w7.heap.size) := hidP hb7.size
            clear hb7 bk0_w6 bk1_w6 bk2_w6 bkF_w6 bkL_w6 at0_w6 at1_w6 at2_w6 atF_w6 atL_w6 rs0_w6 rs1_w6 rs2_w6 rsF_w6 rsL_w6 ou0_w6 ou1_w6 ou2_w6 ouF_w6 ouL_w6 oL_w6 acc_w6
            go_wp2_with fail
            refine (HOn.out _).mono ?_
            rintro e w8' ⟨rfl, hw8'⟩
            rw [hw8']
            clear hw8' w8'
            go_wp2_with fail
            refine (HI.out _).mono ?_
            rintro e w9' ⟨rfl, hw9'⟩
            rw [hw9']
            clear hw9' w9'
            go_wp2_with fail
            refine bodyPost_ret (v := .tuple #[.agg #[.slice a3 n c3, .int .i64 T, .int .i64 N], .int .i64 0, .int .i64 10]) (by simp [results, Tryz.results8, go_sem, rs0_w7, rs1_w7, rs2_w7]) rfl ⟨_, _, rfl, ?_, ?_⟩
            · refine OwnG.mono (B := W3.heap.size) ?_ (by have := as_W1.out; have := sz_W1.out; have := as_W2.out; have := sz_W2.out; have := as_W3.out; have := sz_W3.out; have := sz_w4.out; have := as_W5.out; have := sz_W5.out; have := sz_w6.out; have := sz_w7.out; omega)
              iterate 3 (with_reducible refine OwnG.grown ?_ (grown_cellG _ _ _ _) ?_; rotate_left; (focus (exact OwnG.ne_of oL_w7.out (by have := as_W1.out; have := sz_W1.out; have := as_W2.out; have := sz_W2.out; have := as_W3.out; have := sz_W3.out; have := sz_w4.out; have := as_W5.out; have := sz_W5.out; have := sz_w6.out; have := sz_w7.out; omega))))
              with_reducible exact oL_w7.out
            · repeat (with_reducible refine Below.setCell ?_ ?_ _; rotate_left; (focus (first | (simp; done) | (simp; omega))))
              exact acc_w7.out
          · have h3 : decide ((1000000000 : Int) < N + span) = false := by have := of_decide_eq_true h2; exact decide_eq_false (by omega)
            rw [h2] at hr
            have hT : (T == 1000000000) = true := by simpa using hr
            clear hr h2
            go_enter Tryz.func8, Tryz.ntmps8
            go_wp2_with fail
            obtain ⟨bk0_W1, bk1_W1, bk2_W1⟩ := box3B w 26 (.slice a n c) (.int .i64 T) (.int .i64 N)
            have bkF_W1 : ∀ o, (w.alloc (.cells #[.slice a n c, .int .i64 T, .int .i64 N] 26)).frozen? ⟨w.heap.size, o, none⟩ = false := fun o => by simp [go_sem]
            have bkL_W1 : w.heap.size < (w.alloc (.cells #[.slice a n c, .int .i64 T, .int .i64 N] 26)).heap.size := by simp
            have ab_W1 := alloc_below w (.cells #[.slice a n c, .int .i64 T, .int .i64 N] 26)
            have as_W1 : Hid ((w.alloc (.cells #[.slice a n c, .int .i64 T, .int .i64 N] 26)).heap.size = w.heap.size + 1) := hidP (by simp)
            generalize w.alloc (.cells #[.slice a n c, .int .i64 T, .int .i64 N] 26) = W1 at *
            have acc_W1 := hidP (ab_W1)
            have sz_W1 : Hid (w.heap.size ≤ W1.heap.size) := hidP ab_W1.size
            clear ab_W1 
            obtain ⟨at0_W2, at1_W2, at2_W2⟩ := box3B W1 28 (.bool ad.s) (.int .i64 ad.H.toInt) (.int .i64 ad.L.toInt)
            have atF_W2 : ∀ o, (W1.alloc (.cells #[.bool ad.s, .int .i64 ad.H.toInt, .int .i64 ad.L.toInt] 28)).frozen? ⟨W1.heap.size, o, none⟩ = false := fun o => by simp [go_sem]
            have atL_W2 : W1.heap.size < (W1.alloc (.cells #[.bool ad.s, .int .i64 ad.H.toInt, .int .i64 ad.L.toInt] 28)).heap.size := by simp
            have ab_W2 := alloc_below W1 (.cells #[.bool ad.s, .int .i64 ad.H.toInt, .int .i64 ad.L.toInt] 28)
            have as_W2 : Hid ((W1.alloc (.cells #[.bool ad.s, .int .i64 ad.H.toInt, .int .i64 ad.L.toInt] 28)).heap.size = W1.heap.size + 1) := hidP (by simp)
            generalize W1.alloc (.cells #[.bool ad.s, .int .i64 ad.H.toInt, .int .i64 ad.L.toInt] 28) = W2 at *
            have bk0_W2 := (ab_W2.cell bkL_W1).trans bk0_W1
            have bk1_W2 := (ab_W2.cell bkL_W1).trans bk1_W1
            have bk2_W2 := (ab_W2.cell bkL_W1).trans bk2_W1
            have bkF_W2 : ∀ o, W2.frozen? ⟨w.heap.size, o, none⟩ = false := fun o => (ab_W2.frozen bkL_W1).trans (bkF_W1 o)
            have bkL_W2 : w.heap.size < W2.heap.size := Nat.lt_of_lt_of_le bkL_W1 ab_W2.size
            have acc_W2 := hidP (acc_W1.out.trans (ab_W2.mono acc_W1.out.size))
            have sz_W2 : Hid (W1.heap.size ≤ W2.heap.size) := hidP ab_W2.size
            clear ab_W2 bk0_W1 bk1_W1 bk2_W1 bkF_W1 bkL_W1 acc_W1
            rw [as_W1.out] at at0_W2 at1_W2 at2_W2 atL_W2
            have atF_W2' : ∀ o, W2.frozen? ⟨w.heap.size + 1, o, none⟩ = false := fun o => by have := atF_W2 o; rw [as_W1.out] at this; exact this
            clear atF_W2
            have atF_W2 := atF_W2'
            clear atF_W2'
            obtain ⟨rs0_W3, rs1_W3, rs2_W3⟩ := box3B W2 26 (.slice none 0 0) (.int .i64 0) (.int .i64 0)
            have rsF_W3 : ∀ o, (W2.alloc (.cells #[.slice none 0 0, .int .i64 0, .int .i64 0] 26)).frozen? ⟨W2.heap.size, o, none⟩ = false := fun o => by simp [go_sem]
            have rsL_W3 : W2.heap.size < (W2.alloc (.cells #[.slice none 0 0, .int .i64 0, .int .i64 0] 26)).heap.size := by simp
            have ab_W3 := alloc_below W2 (.cells #[.slice none 0 0, .int .i64 0, .int .i64 0] 26)
            have as_W3 : Hid ((W2.alloc (.cells #[.slice none 0 0, .int .i64 0, .int .i64 0] 26)).heap.size = W2.heap.size + 1) := hidP (by simp)
            generalize W2.alloc (.cells #[.slice none 0 0, .int .i64 0, .int .i64 0] 26) = W3 at *
            have bk0_W3 := (ab_W3.cell bkL_W2).trans bk0_W2
            have bk1_W3 := (ab_W3.cell bkL_W2).trans bk1_W2
            have bk2_W3 := (ab_W3.cell bkL_W2).trans bk2_W2
            have bkF_W3 : ∀ o, W3.frozen? ⟨w.heap.size, o, none⟩ = false := fun o => (ab_W3.frozen bkL_W2).trans (bkF_W2 o)
            have bkL_W3 : w.heap.size < W3.heap.size := Nat.lt_of_lt_of_le bkL_W2 ab_W3.size
            have at0_W3 := (ab_W3.cell atL_W2).trans at0_W2
            have at1_W3 := (ab_W3.cell atL_W2).trans at1_W2
            have at2_W3 := (ab_W3.cell atL_W2).trans at2_W2
            have atF_W3 : ∀ o, W3.frozen? ⟨w.heap.size + 1, o, none⟩ = false := fun o => (ab_W3.frozen atL_W2).trans (atF_W2 o)
            have atL_W3 : w.heap.size + 1 < W3.heap.size := Nat.lt_of_lt_of_le atL_W2 ab_W3.size
            have acc_W3 := hidP (acc_W2.out.trans (ab_W3.mono acc_W2.out.size))
            have sz_W3 : Hid (W2.heap.size ≤ W3.heap.size) := hidP ab_W3.size
            clear ab_W3 bk0_W2 bk1_W2 bk2_W2 bkF_W2 bkL_W2 at0_W2 at1_W2 at2_W2 atF_W2 atL_W2 acc_W2
            rw [as_W2.out, as_W1.out] at rs0_W3 rs1_W3 rs2_W3 rsL_W3
            have rsF_W3' : ∀ o, W3.frozen? ⟨w.heap.size + 1 + 1, o, none⟩ = false := fun o => by have := rsF_W3 o; rw [as_W2.out, as_W1.out] at this; exact this
            clear rsF_W3
            have rsF_W3 := rsF_W3'
            clear rsF_W3'
            refine (HOw.out _ acc_W3.out).mono ?_
            rintro e w4 ⟨a3, c3, rfl, og3, hb4⟩
            have og3' := hidP og3
            clear og3
            have bk0_w4 := (hb4.cell bkL_W3).trans bk0_W3
            have bk1_w4 := (hb4.cell bkL_W3).trans bk1_W3
            have bk2_w4 := (hb4.cell bkL_W3).trans bk2_W3
            have bkF_w4 : ∀ o, w4.frozen? ⟨w.heap.size, o, none⟩ = false := fun o => (hb4.frozen bkL_W3).trans (bkF_W3 o)
            have bkL_w4 : w.heap.size < w4.heap.size := Nat.lt_of_lt_of_le bkL_W3 hb4.size
            have at0_w4 := (hb4.cell atL_W3).trans at0_W3
            have at1_w4 := (hb4.cell atL_W3).trans at1_W3
            have at2_w4 := (hb4.cell atL_W3).trans at2_W3
            have atF_w4 : ∀ o, w4.frozen? ⟨w.heap.size + 1, o, none⟩ = false := fun o => (hb4.frozen atL_W3).trans (atF_W3 o)
            have atL_w4 : w.heap.size + 1 < w4.heap.size := Nat.lt_of_lt_of_le atL_W3 hb4.size
            have rs0_w4 := (hb4.cell rsL_W3).trans rs0_W3
            have rs1_w4 := (hb4.cell rsL_W3).trans rs1_W3
            have rs2_w4 := (hb4.cell rsL_W3).trans rs2_W3
            have rsF_w4 : ∀ o, w4.frozen? ⟨w.heap.size + 1 + 1, o, none⟩ = false := fun o => (hb4.frozen rsL_W3).trans (rsF_W3 o)
            have rsL_w4 : w.heap.size + 1 + 1 < w4.heap.size := Nat.lt_of_lt_of_le rsL_W3 hb4.size
            have acc_w4 := hidP (acc_W3.out.trans (hb4.mono acc_W3.out.size))
            have sz_w4 : Hid (W3.heap.size ≤ w4.heap.size) := hidP hb4.size
            clear hb4 bk0_W3 bk1_W3 bk2_W3 bkF_W3 bkL_W3 at0_W3 at1_W3 at2_W3 atF_W3 atL_W3 rs0_W3 rs1_W3 rs2_W3 rsF_W3 rsL_W3 acc_W3
            have oL_w4 := hidP (og3'.out)
            have lhL : Hid (∀ k, (Value.slice a3 n c3).ownBlock = some k → W3.heap.size ≤ k ∧ k < w4.heap.size) := hidP (fun k hk => OwnG.lt oL_w4.out k hk)
            clear og3'
            go_wp2_with fail
            obtain ⟨ou0_W5, ou1_W5, ou2_W5⟩ := box3B w4 26 (.slice a3 n c3) (.int .i64 T) (.int .i64 N)
            have ouF_W5 : ∀ o, (w4.alloc (.cells #[.slice a3 n c3, .int .i64 T, .int .i64 N] 26)).frozen? ⟨w4.heap.size, o, none⟩ = false := fun o => by simp [go_sem]
            have ouL_W5 : w4.heap.size < (w4.alloc (.cells #[.slice a3 n c3, .int .i64 T, .int .i64 N] 26)).heap.size := by simp
            have ab_W5 := alloc_below w4 (.cells #[.slice a3 n c3, .int .i64 T, .int .i64 N] 26)
            have as_W5 : Hid ((w4.alloc (.cells #[.slice a3 n c3, .int .i64 T, .int .i64 N] 26)).heap.size = w4.heap.size + 1) := hidP (by simp)
            generalize w4.alloc (.cells #[.slice a3 n c3, .int .i64 T, .int .i64 N] 26) = W5 at *
            have bk0_W5 := (ab_W5.cell bkL_w4).trans bk0_w4
            have bk1_W5 := (ab_W5.cell bkL_w4).trans bk1_w4
            have bk2_W5 := (ab_W5.cell bkL_w4).trans bk2_w4
            have bkF_W5 : ∀ o, W5.frozen? ⟨w.heap.size, o, none⟩ = false := fun o => (ab_W5.frozen bkL_w4).trans (bkF_w4 o)
            have bkL_W5 : w.heap.size < W5.heap.size := Nat.lt_of_lt_of_le bkL_w4 ab_W5.size
            have at0_W5 := (ab_W5.cell atL_w4).trans at0_w4
            have at1_W5 := (ab_W5.cell atL_w4).trans at1_w4
            have at2_W5 := (ab_W5.cell atL_w4).trans at2_w4
            have atF_W5 : ∀ o, W5.frozen? ⟨w.heap.size + 1, o, none⟩ = false := fun o => (ab_W5.frozen atL_w4).trans (atF_w4 o)
            have atL_W5 : w.heap.size + 1 < W5.heap.size := Nat.lt_of_lt_of_le atL_w4 ab_W5.size
            have rs0_W5 := (ab_W5.cell rsL_w4).trans rs0_w4
            have rs1_W5 := (ab_W5.cell rsL_w4).trans rs1_w4
            have rs2_W5 := (ab_W5.cell rsL_w4).trans rs2_w4
            have rsF_W5 : ∀ o, W5.frozen? ⟨w.heap.size + 1 + 1, o, none⟩ = false := fun o => (ab_W5.frozen rsL_w4).trans (rsF_w4 o)
            have rsL_W5 : w.heap.size + 1 + 1 < W5.heap.size := Nat.lt_of_lt_of_le rsL_w4 ab_W5.size
            have oL_W5 := hidP (OwnG.later oL_w4.out ab_W5)
            have acc_W5 := hidP (acc_w4.out.trans (ab_W5.mono acc_w4.out.size))
            have sz_W5 : Hid (w4.heap.size ≤ W5.heap.size) := hidP ab_W5.size
            clear ab_W5 bk0_w4 bk1_w4 bk2_w4 bkF_w4 bkL_w4 at0_w4 at1_w4 at2_w4 atF_w4 atL_w4 rs0_w4 rs1_w4 rs2_w4 rsF_w4 rsL_w4 oL_w4 acc_w4
            refine (HSp.out _ acc_W5.out).mono ?_
            rintro e w6 ⟨rfl, hb6⟩
            have bk0_w6 := (hb6.cell bkL_W5).trans bk0_W5
            have bk1_w6 := (hb6.cell bkL_W5).trans bk1_W5
            have bk2_w6 := (hb6.cell bkL_W5).trans bk2_W5
            have bkF_w6 : ∀ o, w6.frozen? ⟨w.heap.size, o, none⟩ = false := fun o => (hb6.frozen bkL_W5).trans (bkF_W5 o)
            have bkL_w6 : w.heap.size < w6.heap.size := Nat.lt_of_lt_of_le bkL_W5 hb6.size
            have at0_w6 := (hb6.cell atL_W5).trans at0_W5
            have at1_w6 := (hb6.cell atL_W5).trans at1_W5
            have at2_w6 := (hb6.cell atL_W5).trans at2_W5
            have atF_w6 : ∀ o, w6.frozen? ⟨w.heap.size + 1, o, none⟩ = false := fun o => (hb6.frozen atL_W5).trans (atF_W5 o)
            have atL_w6 : w.heap.size + 1 < w6.heap.size := Nat.lt_of_lt_of_le atL_W5 hb6.size
            have rs0_w6 := (hb6.cell rsL_W5).trans rs0_W5
            have rs1_w6 := (hb6.cell rsL_W5).trans rs1_W5
            have rs2_w6 := (hb6.cell rsL_W5).trans rs2_W5
            have rsF_w6 : ∀ o, w6.frozen? ⟨w.heap.size + 1 + 1, o, none⟩ = false := fun o => (hb6.frozen rsL_W5).trans (rsF_W5 o)
            have rsL_w6 : w.heap.size + 1 + 1 < w6.heap.size := Nat.lt_of_lt_of_le rsL_W5 hb6.size
            have ou0_w6 := (hb6.cell ouL_W5).trans ou0_W5
            have ou1_w6 := (hb6.cell ouL_W5).trans ou1_W5
            have ou2_w6 := (hb6.cell ouL_W5).trans ou2_W5
            have ouF_w6 : ∀ o, w6.frozen? ⟨w4.heap.size, o, none⟩ = false := fun o => (hb6.frozen ouL_W5).trans (ouF_W5 o)
            have ouL_w6 : w4.heap.size < w6.heap.size := Nat.lt_of_lt_of_le ouL_W5 hb6.size
            have oL_w6 := hidP (OwnG.later oL_W5.out hb6)
            have acc_w6 := hidP (acc_W5.out.trans (hb6.mono acc_W5.out.size))
            have sz_w6 : Hid (W5.heap.size ≤ w6.heap.size) := hidP hb6.size
            clear hb6 bk0_W5 bk1_W5 bk2_W5 bkF_W5 bkL_W5 at0_W5 at1_W5 at2_W5 atF_W5 atL_W5 rs0_W5 rs1_W5 rs2_W5 rsF_W5 rsL_W5 ou0_W5 ou1_W5 ou2_W5 ouF_W5 ouL_W5 oL_W5 acc_W5
            go_wp2_with fail
            refine (HAd.out _).mono ?_
            rintro e w7 ⟨rfl, hb7⟩
            have bk0_w7 := (hb7.cell bkL_w6).trans bk0_w6
            have bk1_w7 := (hb7.cell bkL_w6).trans bk1_w6
            have bk2_w7 := (hb7.cell bkL_w6).trans bk2_w6
            have bkF_w7 : ∀ o, w7.frozen? ⟨w.heap.size, o, none⟩ = false := fun o => (hb7.frozen bkL_w6).trans (bkF_w6 o)
            have bkL_w7 : w.heap.size < w7.heap.size := Nat.lt_of_lt_of_le bkL_w6 hb7.size
            have at0_w7 := (hb7.cell atL_w6).trans at0_w6
            have at1_w7 := (hb7.cell atL_w6).trans at1_w6
            have at2_w7 := (hb7.cell atL_w6).trans at2_w6
            have atF_w7 : ∀ o, w7.frozen? ⟨w.heap.size + 1, o, none⟩ = false := fun o => (hb7.frozen atL_w6).trans (atF_w6 o)
            have atL_w7 : w.heap.size + 1 < w7.heap.size := Nat.lt_of_lt_of_le atL_w6 hb7.size
            have rs0_w7 := (hb7.cell rsL_w6).trans rs0_w6
            have rs1_w7 := (hb7.cell rsL_w6).trans rs1_w6
            have rs2_w7 := (hb7.cell rsL_w6).trans rs2_w6
            have rsF_w7 : ∀ o, w7.frozen? ⟨w.heap.size + 1 + 1, o, none⟩ = false := fun o => (hb7.frozen rsL_w6).trans (rsF_w6 o)
            have rsL_w7 : w.heap.size + 1 + 1 < w7.heap.size := Nat.lt_of_lt_of_le rsL_w6 hb7.size
            have ou0_w7 := (hb7.cell ouL_w6).trans ou0_w6
            have ou1_w7 := (hb7.cell ouL_w6).trans ou1_w6
            have ou2_w7 := (hb7.cell ouL_w6).trans ou2_w6
            have ouF_w7 : ∀ o, w7.frozen? ⟨w4.heap.size, o, none⟩ = false := fun o => (hb7.frozen ouL_w6).trans (ouF_w6 o)
            have ouL_w7 : w4.heap.size < w7.heap.size := Nat.lt_of_lt_of_le ouL_w6 hb7.size
            have oL_w7 := hidP (OwnG.later oL_w6.out hb7)
            have acc_w7 := hidP (acc_w6.out.trans (hb7.mono acc_w6.out.size))
            have sz_w7 : Hid (w6.heap.size ≤ w7.heap.size) := hidP hb7.size
            clear hb7 bk0_w6 bk1_w6 bk2_w6 bkF_w6 bkL_w6 at0_w6 at1_w6 at2_w6 atF_w6 atL_w6 rs0_w6 rs1_w6 rs2_w6 rsF_w6 rsL_w6 ou0_w6 ou1_w6 ou2_w6 ouF_w6 ouL_w6 oL_w6 acc_w6
            go_wp2_with fail
            refine (HOn.out _).mono ?_
            rintro e w8' ⟨rfl, hw8'⟩
            rw [hw8']
            clear hw8' w8'
            go_wp2_with fail
            refine (HI.out _).mono ?_
            rintro e w9' ⟨rfl, hw9'⟩
            rw [hw9']
            clear hw9' w9'
            go_wp2_with fail
            refine bodyPost_ret (v := .tuple #[.agg #[.slice a3 n c3, .int .i64 T, .int .i64 N], .int .i64 0, .int .i64 10]) (by simp [results, Tryz.results8, go_sem, rs0_w7, rs1_w7, rs2_w7]) rfl ⟨_, _, rfl, ?_, ?_⟩
            · refine OwnG.mono (B := W3.heap.size) ?_ (by have := as_W1.out; have := sz_W1.out; have := as_W2.out; have := sz_W2.out; have := as_W3.out; have := sz_W3.out; have := sz_w4.out; have := as_W5.out; have := sz_W5.out; have := sz_w6.out; have := sz_w7.out; omega)
              iterate 3 (with_reducible refine OwnG.grown ?_ (grown_cellG _ _ _ _) ?_; rotate_left; (focus (exact OwnG.ne_of oL_w7.out (by have := as_W1.out; have := sz_W1.out; have := as_W2.out; have := sz_W2.out; have := as_W3.out; have := sz_W3.out; have := sz_w4.out; have := as_W5.out; have := sz_W5.out; have := sz_w6.out; have := sz_w7.out; omega))))
              with_reducible exact oL_w7.out
            · repeat (with_reducible refine Below.setCell ?_ ?_ _; rotate_left; (focus (first | (simp; done) | (simp; omega))))
              exact acc_w7.out

set_option maxRecDepth 10000 in
set_option maxHeartbeats 4000000 in
theorem sGr_held (a : Option Addr) (n c : Nat) (T N : Int) (ls : List Ls) (ad : Ad) (own : ByteArray) (span : Int) (w : World) (hn : n = ls.length) (hB : RowG KLs w a ls) (hl : n ≤ 1048576) (hc : a = none → c = 0) (hst : ∀ q ∈ ls, q.t.size ≤ 9223372036854775807) (hos : own.size ≤ 9223372036854775807) (hr : gokB ls T N ad own span = true) (I : Nat) (hx : fxL ls ad = some I) :
    Calls Tryz.prog 8 #[.agg #[.slice a n c, .int .i64 T, .int .i64 N], .agg #[.bool ad.s, .int .i64 ad.H.toInt, .int .i64 ad.L.toInt], .string own, .int .i64 span] w fun e w' => ∃ a' c', e = .returned (.tuple #[.agg #[.slice a' n c', .int .i64 T, .int .i64 N], .int .i64 0, .int .i64 11]) ∧ OwnG KLs 35 w' w.heap.size (.slice a' n c') (ls) ∧ Below w.heap.size w w' := by
  have HOn := hidP (fun W => sOwnerOk_any own W hos)
  have HI := hidP (l1InO_any span 1 1000)
  have HFi := hidP (fun W h => l6Find_any a n c T N ls ad W hn (hB.later h) hl)
  have HOw := hidP (fun W h => l6Copy_any (a) n c T N ls W hn (hB.later h) hc hl)
  have HSp := hidP (fun W h => sBookOk_any (a) n c T N ls W hn (hB.later h) hl hst)
  have HAd := hidP (sAddrOk_any ad.s ad.H.toInt ad.L.toInt)
  have HN := hidP hn
  have HR := hidP (fun W h => hB.later (w' := W) h)
  have hok : ad.ok = okB ad.s ad.H.toInt ad.L.toInt := rfl
  unfold gokB at hr
  simp only [Bool.and_eq_true] at hr
  obtain ⟨hb, ho, hw, ⟨⟨h1, h1b⟩, h2⟩, hT0⟩ := hr
  have h1c : (decide (1 ≤ span) && decide (span ≤ 1000)) = true := by rw [h1, h1b]; rfl
  obtain ⟨hw1, hw2⟩ := sp_wrap (bk_now hb) h1c
  have h3 : decide ((1000000000 : Int) < N + span) = false := by have := of_decide_eq_true h2; exact decide_eq_false (by omega)
  have hT : (T == 1000000000) = false := by simpa using hT0
  rw [hok] at ho
  rw [hb] at HSp
  rw [ho] at HAd
  rw [hw] at HOn
  rw [h1c] at HI
  clear hB hn hst hok hos hc hb ho hw h1 h1b h1c h2 hT0
  go_enter Tryz.func8, Tryz.ntmps8
  go_wp2_with fail
  obtain ⟨bk0_W1, bk1_W1, bk2_W1⟩ := box3B w 26 (.slice a n c) (.int .i64 T) (.int .i64 N)
  have bkF_W1 : ∀ o, (w.alloc (.cells #[.slice a n c, .int .i64 T, .int .i64 N] 26)).frozen? ⟨w.heap.size, o, none⟩ = false := fun o => by simp [go_sem]
  have bkL_W1 : w.heap.size < (w.alloc (.cells #[.slice a n c, .int .i64 T, .int .i64 N] 26)).heap.size := by simp
  have ab_W1 := alloc_below w (.cells #[.slice a n c, .int .i64 T, .int .i64 N] 26)
  have as_W1 : Hid ((w.alloc (.cells #[.slice a n c, .int .i64 T, .int .i64 N] 26)).heap.size = w.heap.size + 1) := hidP (by simp)
  generalize w.alloc (.cells #[.slice a n c, .int .i64 T, .int .i64 N] 26) = W1 at *
  have acc_W1 := hidP (ab_W1)
  have sz_W1 : Hid (w.heap.size ≤ W1.heap.size) := hidP ab_W1.size
  clear ab_W1 
  obtain ⟨at0_W2, at1_W2, at2_W2⟩ := box3B W1 28 (.bool ad.s) (.int .i64 ad.H.toInt) (.int .i64 ad.L.toInt)
  have atF_W2 : ∀ o, (W1.alloc (.cells #[.bool ad.s, .int .i64 ad.H.toInt, .int .i64 ad.L.toInt] 28)).frozen? ⟨W1.heap.size, o, none⟩ = false := fun o => by simp [go_sem]
  have atL_W2 : W1.heap.size < (W1.alloc (.cells #[.bool ad.s, .int .i64 ad.H.toInt, .int .i64 ad.L.toInt] 28)).heap.size := by simp
  have ab_W2 := alloc_below W1 (.cells #[.bool ad.s, .int .i64 ad.H.toInt, .int .i64 ad.L.toInt] 28)
  have as_W2 : Hid ((W1.alloc (.cells #[.bool ad.s, .int .i64 ad.H.toInt, .int .i64 ad.L.toInt] 28)).heap.size = W1.heap.size + 1) := hidP (by simp)
  generalize W1.alloc (.cells #[.bool ad.s, .int .i64 ad.H.toInt, .int .i64 ad.L.toInt] 28) = W2 at *
  have bk0_W2 := (ab_W2.cell bkL_W1).trans bk0_W1
  have bk1_W2 := (ab_W2.cell bkL_W1).trans bk1_W1
  have bk2_W2 := (ab_W2.cell bkL_W1).trans bk2_W1
  have bkF_W2 : ∀ o, W2.frozen? ⟨w.heap.size, o, none⟩ = false := fun o => (ab_W2.frozen bkL_W1).trans (bkF_W1 o)
  have bkL_W2 : w.heap.size < W2.heap.size := Nat.lt_of_lt_of_le bkL_W1 ab_W2.size
  have acc_W2 := hidP (acc_W1.out.trans (ab_W2.mono acc_W1.out.size))
  have sz_W2 : Hid (W1.heap.size ≤ W2.heap.size) := hidP ab_W2.size
  clear ab_W2 bk0_W1 bk1_W1 bk2_W1 bkF_W1 bkL_W1 acc_W1
  rw [as_W1.out] at at0_W2 at1_W2 at2_W2 atL_W2
  have atF_W2' : ∀ o, W2.frozen? ⟨w.heap.size + 1, o, none⟩ = false := fun o => by have := atF_W2 o; rw [as_W1.out] at this; exact this
  clear atF_W2
  have atF_W2 := atF_W2'
  clear atF_W2'
  obtain ⟨rs0_W3, rs1_W3, rs2_W3⟩ := box3B W2 26 (.slice none 0 0) (.int .i64 0) (.int .i64 0)
  have rsF_W3 : ∀ o, (W2.alloc (.cells #[.slice none 0 0, .int .i64 0, .int .i64 0] 26)).frozen? ⟨W2.heap.size, o, none⟩ = false := fun o => by simp [go_sem]
  have rsL_W3 : W2.heap.size < (W2.alloc (.cells #[.slice none 0 0, .int .i64 0, .int .i64 0] 26)).heap.size := by simp
  have ab_W3 := alloc_below W2 (.cells #[.slice none 0 0, .int .i64 0, .int .i64 0] 26)
  have as_W3 : Hid ((W2.alloc (.cells #[.slice none 0 0, .int .i64 0, .int .i64 0] 26)).heap.size = W2.heap.size + 1) := hidP (by simp)
  generalize W2.alloc (.cells #[.slice none 0 0, .int .i64 0, .int .i64 0] 26) = W3 at *
  have bk0_W3 := (ab_W3.cell bkL_W2).trans bk0_W2
  have bk1_W3 := (ab_W3.cell bkL_W2).trans bk1_W2
  have bk2_W3 := (ab_W3.cell bkL_W2).trans bk2_W2
  have bkF_W3 : ∀ o, W3.frozen? ⟨w.heap.size, o, none⟩ = false := fun o => (ab_W3.frozen bkL_W2).trans (bkF_W2 o)
  have bkL_W3 : w.heap.size < W3.heap.size := Nat.lt_of_lt_of_le bkL_W2 ab_W3.size
  have at0_W3 := (ab_W3.cell atL_W2).trans at0_W2
  have at1_W3 := (ab_W3.cell atL_W2).trans at1_W2
  have at2_W3 := (ab_W3.cell atL_W2).trans at2_W2
  have atF_W3 : ∀ o, W3.frozen? ⟨w.heap.size + 1, o, none⟩ = false := fun o => (ab_W3.frozen atL_W2).trans (atF_W2 o)
  have atL_W3 : w.heap.size + 1 < W3.heap.size := Nat.lt_of_lt_of_le atL_W2 ab_W3.size
  have acc_W3 := hidP (acc_W2.out.trans (ab_W3.mono acc_W2.out.size))
  have sz_W3 : Hid (W2.heap.size ≤ W3.heap.size) := hidP ab_W3.size
  clear ab_W3 bk0_W2 bk1_W2 bk2_W2 bkF_W2 bkL_W2 at0_W2 at1_W2 at2_W2 atF_W2 atL_W2 acc_W2
  rw [as_W2.out, as_W1.out] at rs0_W3 rs1_W3 rs2_W3 rsL_W3
  have rsF_W3' : ∀ o, W3.frozen? ⟨w.heap.size + 1 + 1, o, none⟩ = false := fun o => by have := rsF_W3 o; rw [as_W2.out, as_W1.out] at this; exact this
  clear rsF_W3
  have rsF_W3 := rsF_W3'
  clear rsF_W3'
  refine (HOw.out _ acc_W3.out).mono ?_
  rintro e w4 ⟨a3, c3, rfl, og3, hb4⟩
  have og3' := hidP og3
  clear og3
  have bk0_w4 := (hb4.cell bkL_W3).trans bk0_W3
  have bk1_w4 := (hb4.cell bkL_W3).trans bk1_W3
  have bk2_w4 := (hb4.cell bkL_W3).trans bk2_W3
  have bkF_w4 : ∀ o, w4.frozen? ⟨w.heap.size, o, none⟩ = false := fun o => (hb4.frozen bkL_W3).trans (bkF_W3 o)
  have bkL_w4 : w.heap.size < w4.heap.size := Nat.lt_of_lt_of_le bkL_W3 hb4.size
  have at0_w4 := (hb4.cell atL_W3).trans at0_W3
  have at1_w4 := (hb4.cell atL_W3).trans at1_W3
  have at2_w4 := (hb4.cell atL_W3).trans at2_W3
  have atF_w4 : ∀ o, w4.frozen? ⟨w.heap.size + 1, o, none⟩ = false := fun o => (hb4.frozen atL_W3).trans (atF_W3 o)
  have atL_w4 : w.heap.size + 1 < w4.heap.size := Nat.lt_of_lt_of_le atL_W3 hb4.size
  have rs0_w4 := (hb4.cell rsL_W3).trans rs0_W3
  have rs1_w4 := (hb4.cell rsL_W3).trans rs1_W3
  have rs2_w4 := (hb4.cell rsL_W3).trans rs2_W3
  have rsF_w4 : ∀ o, w4.frozen? ⟨w.heap.size + 1 + 1, o, none⟩ = false := fun o => (hb4.frozen rsL_W3).trans (rsF_W3 o)
  have rsL_w4 : w.heap.size + 1 + 1 < w4.heap.size := Nat.lt_of_lt_of_le rsL_W3 hb4.size
  have acc_w4 := hidP (acc_W3.out.trans (hb4.mono acc_W3.out.size))
  have sz_w4 : Hid (W3.heap.size ≤ w4.heap.size) := hidP hb4.size
  clear hb4 bk0_W3 bk1_W3 bk2_W3 bkF_W3 bkL_W3 at0_W3 at1_W3 at2_W3 atF_W3 atL_W3 rs0_W3 rs1_W3 rs2_W3 rsF_W3 rsL_W3 acc_W3
  have oL_w4 := hidP (og3'.out)
  have lhL : Hid (∀ k, (Value.slice a3 n c3).ownBlock = some k → W3.heap.size ≤ k ∧ k < w4.heap.size) := hidP (fun k hk => OwnG.lt oL_w4.out k hk)
  clear og3'
  go_wp2_with fail
  obtain ⟨ou0_W5, ou1_W5, ou2_W5⟩ := box3B w4 26 (.slice a3 n c3) (.int .i64 T) (.int .i64 N)
  have ouF_W5 : ∀ o, (w4.alloc (.cells #[.slice a3 n c3, .int .i64 T, .int .i64 N] 26)).frozen? ⟨w4.heap.size, o, none⟩ = false := fun o => by simp [go_sem]
  have ouL_W5 : w4.heap.size < (w4.alloc (.cells #[.slice a3 n c3, .int .i64 T, .int .i64 N] 26)).heap.size := by simp
  have ab_W5 := alloc_below w4 (.cells #[.slice a3 n c3, .int .i64 T, .int .i64 N] 26)
  have as_W5 : Hid ((w4.alloc (.cells #[.slice a3 n c3, .int .i64 T, .int .i64 N] 26)).heap.size = w4.heap.size + 1) := hidP (by simp)
  generalize w4.alloc (.cells #[.slice a3 n c3, .int .i64 T, .int .i64 N] 26) = W5 at *
  have bk0_W5 := (ab_W5.cell bkL_w4).trans bk0_w4
  have bk1_W5 := (ab_W5.cell bkL_w4).trans bk1_w4
  have bk2_W5 := (ab_W5.cell bkL_w4).trans bk2_w4
  have bkF_W5 : ∀ o, W5.frozen? ⟨w.heap.size, o, none⟩ = false := fun o => (ab_W5.frozen bkL_w4).trans (bkF_w4 o)
  have bkL_W5 : w.heap.size < W5.heap.size := Nat.lt_of_lt_of_le bkL_w4 ab_W5.size
  have at0_W5 := (ab_W5.cell atL_w4).trans at0_w4
  have at1_W5 := (ab_W5.cell atL_w4).trans at1_w4
  have at2_W5 := (ab_W5.cell atL_w4).trans at2_w4
  have atF_W5 : ∀ o, W5.frozen? ⟨w.heap.size + 1, o, none⟩ = false := fun o => (ab_W5.frozen atL_w4).trans (atF_w4 o)
  have atL_W5 : w.heap.size + 1 < W5.heap.size := Nat.lt_of_lt_of_le atL_w4 ab_W5.size
  have rs0_W5 := (ab_W5.cell rsL_w4).trans rs0_w4
  have rs1_W5 := (ab_W5.cell rsL_w4).trans rs1_w4
  have rs2_W5 := (ab_W5.cell rsL_w4).trans rs2_w4
  have rsF_W5 : ∀ o, W5.frozen? ⟨w.heap.size + 1 + 1, o, none⟩ = false := fun o => (ab_W5.frozen rsL_w4).trans (rsF_w4 o)
  have rsL_W5 : w.heap.size + 1 + 1 < W5.heap.size := Nat.lt_of_lt_of_le rsL_w4 ab_W5.size
  have oL_W5 := hidP (OwnG.later oL_w4.out ab_W5)
  have acc_W5 := hidP (acc_w4.out.trans (ab_W5.mono acc_w4.out.size))
  have sz_W5 : Hid (w4.heap.size ≤ W5.heap.size) := hidP ab_W5.size
  clear ab_W5 bk0_w4 bk1_w4 bk2_w4 bkF_w4 bkL_w4 at0_w4 at1_w4 at2_w4 atF_w4 atL_w4 rs0_w4 rs1_w4 rs2_w4 rsF_w4 rsL_w4 oL_w4 acc_w4
  refine (HSp.out _ acc_W5.out).mono ?_
  rintro e w6 ⟨rfl, hb6⟩
  have bk0_w6 := (hb6.cell bkL_W5).trans bk0_W5
  have bk1_w6 := (hb6.cell bkL_W5).trans bk1_W5
  have bk2_w6 := (hb6.cell bkL_W5).trans bk2_W5
  have bkF_w6 : ∀ o, w6.frozen? ⟨w.heap.size, o, none⟩ = false := fun o => (hb6.frozen bkL_W5).trans (bkF_W5 o)
  have bkL_w6 : w.heap.size < w6.heap.size := Nat.lt_of_lt_of_le bkL_W5 hb6.size
  have at0_w6 := (hb6.cell atL_W5).trans at0_W5
  have at1_w6 := (hb6.cell atL_W5).trans at1_W5
  have at2_w6 := (hb6.cell atL_W5).trans at2_W5
  have atF_w6 : ∀ o, w6.frozen? ⟨w.heap.size + 1, o, none⟩ = false := fun o => (hb6.frozen atL_W5).trans (atF_W5 o)
  have atL_w6 : w.heap.size + 1 < w6.heap.size := Nat.lt_of_lt_of_le atL_W5 hb6.size
  have rs0_w6 := (hb6.cell rsL_W5).trans rs0_W5
  have rs1_w6 := (hb6.cell rsL_W5).trans rs1_W5
  have rs2_w6 := (hb6.cell rsL_W5).trans rs2_W5
  have rsF_w6 : ∀ o, w6.frozen? ⟨w.heap.size + 1 + 1, o, none⟩ = false := fun o => (hb6.frozen rsL_W5).trans (rsF_W5 o)
  have rsL_w6 : w.heap.size + 1 + 1 < w6.heap.size := Nat.lt_of_lt_of_le rsL_W5 hb6.size
  have ou0_w6 := (hb6.cell ouL_W5).trans ou0_W5
  have ou1_w6 := (hb6.cell ouL_W5).trans ou1_W5
  have ou2_w6 := (hb6.cell ouL_W5).trans ou2_W5
  have ouF_w6 : ∀ o, w6.frozen? ⟨w4.heap.size, o, none⟩ = false := fun o => (hb6.frozen ouL_W5).trans (ouF_W5 o)
  have ouL_w6 : w4.heap.size < w6.heap.size := Nat.lt_of_lt_of_le ouL_W5 hb6.size
  have oL_w6 := hidP (OwnG.later oL_W5.out hb6)
  have acc_w6 := hidP (acc_W5.out.trans (hb6.mono acc_W5.out.size))
  have sz_w6 : Hid (W5.heap.size ≤ w6.heap.size) := hidP hb6.size
  clear hb6 bk0_W5 bk1_W5 bk2_W5 bkF_W5 bkL_W5 at0_W5 at1_W5 at2_W5 atF_W5 atL_W5 rs0_W5 rs1_W5 rs2_W5 rsF_W5 rsL_W5 ou0_W5 ou1_W5 ou2_W5 ouF_W5 ouL_W5 oL_W5 acc_W5
  go_wp2_with fail
  refine (HAd.out _).mono ?_
  rintro e w7 ⟨rfl, hb7⟩
  have bk0_w7 := (hb7.cell bkL_w6).trans bk0_w6
  have bk1_w7 := (hb7.cell bkL_w6).trans bk1_w6
  have bk2_w7 := (hb7.cell bkL_w6).trans bk2_w6
  have bkF_w7 : ∀ o, w7.frozen? ⟨w.heap.size, o, none⟩ = false := fun o => (hb7.frozen bkL_w6).trans (bkF_w6 o)
  have bkL_w7 : w.heap.size < w7.heap.size := Nat.lt_of_lt_of_le bkL_w6 hb7.size
  have at0_w7 := (hb7.cell atL_w6).trans at0_w6
  have at1_w7 := (hb7.cell atL_w6).trans at1_w6
  have at2_w7 := (hb7.cell atL_w6).trans at2_w6
  have atF_w7 : ∀ o, w7.frozen? ⟨w.heap.size + 1, o, none⟩ = false := fun o => (hb7.frozen atL_w6).trans (atF_w6 o)
  have atL_w7 : w.heap.size + 1 < w7.heap.size := Nat.lt_of_lt_of_le atL_w6 hb7.size
  have rs0_w7 := (hb7.cell rsL_w6).trans rs0_w6
  have rs1_w7 := (hb7.cell rsL_w6).trans rs1_w6
  have rs2_w7 := (hb7.cell rsL_w6).trans rs2_w6
  have rsF_w7 : ∀ o, w7.frozen? ⟨w.heap.size + 1 + 1, o, none⟩ = false := fun o => (hb7.frozen rsL_w6).trans (rsF_w6 o)
  have rsL_w7 : w.heap.size + 1 + 1 < w7.heap.size := Nat.lt_of_lt_of_le rsL_w6 hb7.size
  have ou0_w7 := (hb7.cell ouL_w6).trans ou0_w6
  have ou1_w7 := (hb7.cell ouL_w6).trans ou1_w6
  have ou2_w7 := (hb7.cell ouL_w6).trans ou2_w6
  have ouF_w7 : ∀ o, w7.frozen? ⟨w4.heap.size, o, none⟩ = false := fun o => (hb7.frozen ouL_w6).trans (ouF_w6 o)
  have ouL_w7 : w4.heap.size < w7.heap.size := Nat.lt_of_lt_of_le ouL_w6 hb7.size
  have oL_w7 := hidP (OwnG.later oL_w6.out hb7)
  have acc_w7 := hidP (acc_w6.out.trans (hb7.mono acc_w6.out.size))
  have sz_w7 : Hid (w6.heap.size ≤ w7.heap.size) := hidP hb7.size
  clear hb7 bk0_w6 bk1_w6 bk2_w6 bkF_w6 bkL_w6 at0_w6 at1_w6 at2_w6 atF_w6 atL_w6 rs0_w6 rs1_w6 rs2_w6 rsF_w6 rsL_w6 ou0_w6 ou1_w6 ou2_w6 ouF_w6 ouL_w6 oL_w6 acc_w6
  go_wp2_with fail
  refine (HOn.out _).mono ?_
  rintro e w8' ⟨rfl, hw8'⟩
  rw [hw8']
  clear hw8' w8'
  go_wp2_with fail
  refine (HI.out _).mono ?_
  rintro e w9' ⟨rfl, hw9'⟩
  rw [hw9']
  clear hw9' w9'
  go_wp2_with fail
  refine (HFi.out _ acc_w7.out).mono ?_
  rintro e w8 ⟨rfl, hb8⟩
  have bk0_w8 := (hb8.cell bkL_w7).trans bk0_w7
  have bk1_w8 := (hb8.cell bkL_w7).trans bk1_w7
  have bk2_w8 := (hb8.cell bkL_w7).trans bk2_w7
  have bkF_w8 : ∀ o, w8.frozen? ⟨w.heap.size, o, none⟩ = false := fun o => (hb8.frozen bkL_w7).trans (bkF_w7 o)
  have bkL_w8 : w.heap.size < w8.heap.size := Nat.lt_of_lt_of_le bkL_w7 hb8.size
  have at0_w8 := (hb8.cell atL_w7).trans at0_w7
  have at1_w8 := (hb8.cell atL_w7).trans at1_w7
  have at2_w8 := (hb8.cell atL_w7).trans at2_w7
  have atF_w8 : ∀ o, w8.frozen? ⟨w.heap.size + 1, o, none⟩ = false := fun o => (hb8.frozen atL_w7).trans (atF_w7 o)
  have atL_w8 : w.heap.size + 1 < w8.heap.size := Nat.lt_of_lt_of_le atL_w7 hb8.size
  have rs0_w8 := (hb8.cell rsL_w7).trans rs0_w7
  have rs1_w8 := (hb8.cell rsL_w7).trans rs1_w7
  have rs2_w8 := (hb8.cell rsL_w7).trans rs2_w7
  have rsF_w8 : ∀ o, w8.frozen? ⟨w.heap.size + 1 + 1, o, none⟩ = false := fun o => (hb8.frozen rsL_w7).trans (rsF_w7 o)
  have rsL_w8 : w.heap.size + 1 + 1 < w8.heap.size := Nat.lt_of_lt_of_le rsL_w7 hb8.size
  have ou0_w8 := (hb8.cell ouL_w7).trans ou0_w7
  have ou1_w8 := (hb8.cell ouL_w7).trans ou1_w7
  have ou2_w8 := (hb8.cell ouL_w7).trans ou2_w7
  have ouF_w8 : ∀ o, w8.frozen? ⟨w4.heap.size, o, none⟩ = false := fun o => (hb8.frozen ouL_w7).trans (ouF_w7 o)
  have ouL_w8 : w4.heap.size < w8.heap.size := Nat.lt_of_lt_of_le ouL_w7 hb8.size
  have oL_w8 := hidP (OwnG.later oL_w7.out hb8)
  have acc_w8 := hidP (acc_w7.out.trans (hb8.mono acc_w7.out.size))
  have sz_w8 : Hid (w7.heap.size ≤ w8.heap.size) := hidP hb8.size
  clear hb8 bk0_w7 bk1_w7 bk2_w7 bkF_w7 bkL_w7 at0_w7 at1_w7 at2_w7 atF_w7 atL_w7 rs0_w7 rs1_w7 rs2_w7 rsF_w7 rsL_w7 ou0_w7 ou1_w7 ou2_w7 ouF_w7 ouL_w7 oL_w7 acc_w7
  have hfi : fxI ls ad = (I : Int) := by unfold fxI; rw [hx]
  rw [hfi]
  have hi0 : (0 : Int) ≤ (I : Int) := by omega
  clear hfi
  go_wp2_with fail
  refine bodyPost_ret (v := .tuple #[.agg #[.slice a3 n c3, .int .i64 T, .int .i64 N], .int .i64 0, .int .i64 11]) (by simp [results, Tryz.results8, go_sem, rs0_w8, rs1_w8, rs2_w8]) rfl ⟨_, _, rfl, ?_, ?_⟩
  · refine OwnG.mono (B := W3.heap.size) ?_ (by have := as_W1.out; have := sz_W1.out; have := as_W2.out; have := sz_W2.out; have := as_W3.out; have := sz_W3.out; have := sz_w4.out; have := as_W5.out; have := sz_W5.out; have := sz_w6.out; have := sz_w7.out; have := sz_w8.out; omega)
    iterate 3 (with_reducible refine OwnG.grown ?_ (grown_cellG _ _ _ _) ?_; rotate_left; (focus (exact OwnG.ne_of oL_w8.out (by have := as_W1.out; have := sz_W1.out; have := as_W2.out; have := sz_W2.out; have := as_W3.out; have := sz_W3.out; have := sz_w4.out; have := as_W5.out; have := sz_W5.out; have := sz_w6.out; have := sz_w7.out; have := sz_w8.out; omega))))
    with_reducible exact oL_w8.out
  · repeat (with_reducible refine Below.setCell ?_ ?_ _; rotate_left; (focus (first | (simp; done) | (simp; omega))))
    exact acc_w8.out

set_option maxRecDepth 10000 in
set_option maxHeartbeats 4000000 in
theorem sGr_many (a : Option Addr) (n c : Nat) (T N : Int) (ls : List Ls) (ad : Ad) (own : ByteArray) (span : Int) (w : World) (hn : n = ls.length) (hB : RowG KLs w a ls) (hl : n ≤ 1048576) (hc : a = none → c = 0) (hst : ∀ q ∈ ls, q.t.size ≤ 9223372036854775807) (hos : own.size ≤ 9223372036854775807) (hr : gokB ls T N ad own span = true) (hx : fxL ls ad = none) (h80 : n = 80) :
    Calls Tryz.prog 8 #[.agg #[.slice a n c, .int .i64 T, .int .i64 N], .agg #[.bool ad.s, .int .i64 ad.H.toInt, .int .i64 ad.L.toInt], .string own, .int .i64 span] w fun e w' => ∃ a' c', e = .returned (.tuple #[.agg #[.slice a' n c', .int .i64 T, .int .i64 N], .int .i64 0, .int .i64 12]) ∧ OwnG KLs 35 w' w.heap.size (.slice a' n c') (ls) ∧ Below w.heap.size w w' := by
  have HOn := hidP (fun W => sOwnerOk_any own W hos)
  have HI := hidP (l1InO_any span 1 1000)
  have HFi := hidP (fun W h => l6Find_any a n c T N ls ad W hn (hB.later h) hl)
  have HOw := hidP (fun W h => l6Copy_any (a) n c T N ls W hn (hB.later h) hc hl)
  have HSp := hidP (fun W h => sBookOk_any (a) n c T N ls W hn (hB.later h) hl hst)
  have HAd := hidP (sAddrOk_any ad.s ad.H.toInt ad.L.toInt)
  have HN := hidP hn
  have HR := hidP (fun W h => hB.later (w' := W) h)
  have hok : ad.ok = okB ad.s ad.H.toInt ad.L.toInt := rfl
  unfold gokB at hr
  simp only [Bool.and_eq_true] at hr
  obtain ⟨hb, ho, hw, ⟨⟨h1, h1b⟩, h2⟩, hT0⟩ := hr
  have h1c : (decide (1 ≤ span) && decide (span ≤ 1000)) = true := by rw [h1, h1b]; rfl
  obtain ⟨hw1, hw2⟩ := sp_wrap (bk_now hb) h1c
  have h3 : decide ((1000000000 : Int) < N + span) = false := by have := of_decide_eq_true h2; exact decide_eq_false (by omega)
  have hT : (T == 1000000000) = false := by simpa using hT0
  rw [hok] at ho
  rw [hb] at HSp
  rw [ho] at HAd
  rw [hw] at HOn
  rw [h1c] at HI
  clear hB hn hst hok hos hc hb ho hw h1 h1b h1c h2 hT0
  have H80 := hidP h80
  clear h80
  go_enter Tryz.func8, Tryz.ntmps8
  go_wp2_with fail
  obtain ⟨bk0_W1, bk1_W1, bk2_W1⟩ := box3B w 26 (.slice a n c) (.int .i64 T) (.int .i64 N)
  have bkF_W1 : ∀ o, (w.alloc (.cells #[.slice a n c, .int .i64 T, .int .i64 N] 26)).frozen? ⟨w.heap.size, o, none⟩ = false := fun o => by simp [go_sem]
  have bkL_W1 : w.heap.size < (w.alloc (.cells #[.slice a n c, .int .i64 T, .int .i64 N] 26)).heap.size := by simp
  have ab_W1 := alloc_below w (.cells #[.slice a n c, .int .i64 T, .int .i64 N] 26)
  have as_W1 : Hid ((w.alloc (.cells #[.slice a n c, .int .i64 T, .int .i64 N] 26)).heap.size = w.heap.size + 1) := hidP (by simp)
  generalize w.alloc (.cells #[.slice a n c, .int .i64 T, .int .i64 N] 26) = W1 at *
  have acc_W1 := hidP (ab_W1)
  have sz_W1 : Hid (w.heap.size ≤ W1.heap.size) := hidP ab_W1.size
  clear ab_W1 
  obtain ⟨at0_W2, at1_W2, at2_W2⟩ := box3B W1 28 (.bool ad.s) (.int .i64 ad.H.toInt) (.int .i64 ad.L.toInt)
  have atF_W2 : ∀ o, (W1.alloc (.cells #[.bool ad.s, .int .i64 ad.H.toInt, .int .i64 ad.L.toInt] 28)).frozen? ⟨W1.heap.size, o, none⟩ = false := fun o => by simp [go_sem]
  have atL_W2 : W1.heap.size < (W1.alloc (.cells #[.bool ad.s, .int .i64 ad.H.toInt, .int .i64 ad.L.toInt] 28)).heap.size := by simp
  have ab_W2 := alloc_below W1 (.cells #[.bool ad.s, .int .i64 ad.H.toInt, .int .i64 ad.L.toInt] 28)
  have as_W2 : Hid ((W1.alloc (.cells #[.bool ad.s, .int .i64 ad.H.toInt, .int .i64 ad.L.toInt] 28)).heap.size = W1.heap.size + 1) := hidP (by simp)
  generalize W1.alloc (.cells #[.bool ad.s, .int .i64 ad.H.toInt, .int .i64 ad.L.toInt] 28) = W2 at *
  have bk0_W2 := (ab_W2.cell bkL_W1).trans bk0_W1
  have bk1_W2 := (ab_W2.cell bkL_W1).trans bk1_W1
  have bk2_W2 := (ab_W2.cell bkL_W1).trans bk2_W1
  have bkF_W2 : ∀ o, W2.frozen? ⟨w.heap.size, o, none⟩ = false := fun o => (ab_W2.frozen bkL_W1).trans (bkF_W1 o)
  have bkL_W2 : w.heap.size < W2.heap.size := Nat.lt_of_lt_of_le bkL_W1 ab_W2.size
  have acc_W2 := hidP (acc_W1.out.trans (ab_W2.mono acc_W1.out.size))
  have sz_W2 : Hid (W1.heap.size ≤ W2.heap.size) := hidP ab_W2.size
  clear ab_W2 bk0_W1 bk1_W1 bk2_W1 bkF_W1 bkL_W1 acc_W1
  rw [as_W1.out] at at0_W2 at1_W2 at2_W2 atL_W2
  have atF_W2' : ∀ o, W2.frozen? ⟨w.heap.size + 1, o, none⟩ = false := fun o => by have := atF_W2 o; rw [as_W1.out] at this; exact this
  clear atF_W2
  have atF_W2 := atF_W2'
  clear atF_W2'
  obtain ⟨rs0_W3, rs1_W3, rs2_W3⟩ := box3B W2 26 (.slice none 0 0) (.int .i64 0) (.int .i64 0)
  have rsF_W3 : ∀ o, (W2.alloc (.cells #[.slice none 0 0, .int .i64 0, .int .i64 0] 26)).frozen? ⟨W2.heap.size, o, none⟩ = false := fun o => by simp [go_sem]
  have rsL_W3 : W2.heap.size < (W2.alloc (.cells #[.slice none 0 0, .int .i64 0, .int .i64 0] 26)).heap.size := by simp
  have ab_W3 := alloc_below W2 (.cells #[.slice none 0 0, .int .i64 0, .int .i64 0] 26)
  have as_W3 : Hid ((W2.alloc (.cells #[.slice none 0 0, .int .i64 0, .int .i64 0] 26)).heap.size = W2.heap.size + 1) := hidP (by simp)
  generalize W2.alloc (.cells #[.slice none 0 0, .int .i64 0, .int .i64 0] 26) = W3 at *
  have bk0_W3 := (ab_W3.cell bkL_W2).trans bk0_W2
  have bk1_W3 := (ab_W3.cell bkL_W2).trans bk1_W2
  have bk2_W3 := (ab_W3.cell bkL_W2).trans bk2_W2
  have bkF_W3 : ∀ o, W3.frozen? ⟨w.heap.size, o, none⟩ = false := fun o => (ab_W3.frozen bkL_W2).trans (bkF_W2 o)
  have bkL_W3 : w.heap.size < W3.heap.size := Nat.lt_of_lt_of_le bkL_W2 ab_W3.size
  have at0_W3 := (ab_W3.cell atL_W2).trans at0_W2
  have at1_W3 := (ab_W3.cell atL_W2).trans at1_W2
  have at2_W3 := (ab_W3.cell atL_W2).trans at2_W2
  have atF_W3 : ∀ o, W3.frozen? ⟨w.heap.size + 1, o, none⟩ = false := fun o => (ab_W3.frozen atL_W2).trans (atF_W2 o)
  have atL_W3 : w.heap.size + 1 < W3.heap.size := Nat.lt_of_lt_of_le atL_W2 ab_W3.size
  have acc_W3 := hidP (acc_W2.out.trans (ab_W3.mono acc_W2.out.size))
  have sz_W3 : Hid (W2.heap.size ≤ W3.heap.size) := hidP ab_W3.size
  clear ab_W3 bk0_W2 bk1_W2 bk2_W2 bkF_W2 bkL_W2 at0_W2 at1_W2 at2_W2 atF_W2 atL_W2 acc_W2
  rw [as_W2.out, as_W1.out] at rs0_W3 rs1_W3 rs2_W3 rsL_W3
  have rsF_W3' : ∀ o, W3.frozen? ⟨w.heap.size + 1 + 1, o, none⟩ = false := fun o => by have := rsF_W3 o; rw [as_W2.out, as_W1.out] at this; exact this
  clear rsF_W3
  have rsF_W3 := rsF_W3'
  clear rsF_W3'
  refine (HOw.out _ acc_W3.out).mono ?_
  rintro e w4 ⟨a3, c3, rfl, og3, hb4⟩
  have og3' := hidP og3
  clear og3
  have bk0_w4 := (hb4.cell bkL_W3).trans bk0_W3
  have bk1_w4 := (hb4.cell bkL_W3).trans bk1_W3
  have bk2_w4 := (hb4.cell bkL_W3).trans bk2_W3
  have bkF_w4 : ∀ o, w4.frozen? ⟨w.heap.size, o, none⟩ = false := fun o => (hb4.frozen bkL_W3).trans (bkF_W3 o)
  have bkL_w4 : w.heap.size < w4.heap.size := Nat.lt_of_lt_of_le bkL_W3 hb4.size
  have at0_w4 := (hb4.cell atL_W3).trans at0_W3
  have at1_w4 := (hb4.cell atL_W3).trans at1_W3
  have at2_w4 := (hb4.cell atL_W3).trans at2_W3
  have atF_w4 : ∀ o, w4.frozen? ⟨w.heap.size + 1, o, none⟩ = false := fun o => (hb4.frozen atL_W3).trans (atF_W3 o)
  have atL_w4 : w.heap.size + 1 < w4.heap.size := Nat.lt_of_lt_of_le atL_W3 hb4.size
  have rs0_w4 := (hb4.cell rsL_W3).trans rs0_W3
  have rs1_w4 := (hb4.cell rsL_W3).trans rs1_W3
  have rs2_w4 := (hb4.cell rsL_W3).trans rs2_W3
  have rsF_w4 : ∀ o, w4.frozen? ⟨w.heap.size + 1 + 1, o, none⟩ = false := fun o => (hb4.frozen rsL_W3).trans (rsF_W3 o)
  have rsL_w4 : w.heap.size + 1 + 1 < w4.heap.size := Nat.lt_of_lt_of_le rsL_W3 hb4.size
  have acc_w4 := hidP (acc_W3.out.trans (hb4.mono acc_W3.out.size))
  have sz_w4 : Hid (W3.heap.size ≤ w4.heap.size) := hidP hb4.size
  clear hb4 bk0_W3 bk1_W3 bk2_W3 bkF_W3 bkL_W3 at0_W3 at1_W3 at2_W3 atF_W3 atL_W3 rs0_W3 rs1_W3 rs2_W3 rsF_W3 rsL_W3 acc_W3
  have oL_w4 := hidP (og3'.out)
  have lhL : Hid (∀ k, (Value.slice a3 n c3).ownBlock = some k → W3.heap.size ≤ k ∧ k < w4.heap.size) := hidP (fun k hk => OwnG.lt oL_w4.out k hk)
  clear og3'
  go_wp2_with fail
  obtain ⟨ou0_W5, ou1_W5, ou2_W5⟩ := box3B w4 26 (.slice a3 n c3) (.int .i64 T) (.int .i64 N)
  have ouF_W5 : ∀ o, (w4.alloc (.cells #[.slice a3 n c3, .int .i64 T, .int .i64 N] 26)).frozen? ⟨w4.heap.size, o, none⟩ = false := fun o => by simp [go_sem]
  have ouL_W5 : w4.heap.size < (w4.alloc (.cells #[.slice a3 n c3, .int .i64 T, .int .i64 N] 26)).heap.size := by simp
  have ab_W5 := alloc_below w4 (.cells #[.slice a3 n c3, .int .i64 T, .int .i64 N] 26)
  have as_W5 : Hid ((w4.alloc (.cells #[.slice a3 n c3, .int .i64 T, .int .i64 N] 26)).heap.size = w4.heap.size + 1) := hidP (by simp)
  generalize w4.alloc (.cells #[.slice a3 n c3, .int .i64 T, .int .i64 N] 26) = W5 at *
  have bk0_W5 := (ab_W5.cell bkL_w4).trans bk0_w4
  have bk1_W5 := (ab_W5.cell bkL_w4).trans bk1_w4
  have bk2_W5 := (ab_W5.cell bkL_w4).trans bk2_w4
  have bkF_W5 : ∀ o, W5.frozen? ⟨w.heap.size, o, none⟩ = false := fun o => (ab_W5.frozen bkL_w4).trans (bkF_w4 o)
  have bkL_W5 : w.heap.size < W5.heap.size := Nat.lt_of_lt_of_le bkL_w4 ab_W5.size
  have at0_W5 := (ab_W5.cell atL_w4).trans at0_w4
  have at1_W5 := (ab_W5.cell atL_w4).trans at1_w4
  have at2_W5 := (ab_W5.cell atL_w4).trans at2_w4
  have atF_W5 : ∀ o, W5.frozen? ⟨w.heap.size + 1, o, none⟩ = false := fun o => (ab_W5.frozen atL_w4).trans (atF_w4 o)
  have atL_W5 : w.heap.size + 1 < W5.heap.size := Nat.lt_of_lt_of_le atL_w4 ab_W5.size
  have rs0_W5 := (ab_W5.cell rsL_w4).trans rs0_w4
  have rs1_W5 := (ab_W5.cell rsL_w4).trans rs1_w4
  have rs2_W5 := (ab_W5.cell rsL_w4).trans rs2_w4
  have rsF_W5 : ∀ o, W5.frozen? ⟨w.heap.size + 1 + 1, o, none⟩ = false := fun o => (ab_W5.frozen rsL_w4).trans (rsF_w4 o)
  have rsL_W5 : w.heap.size + 1 + 1 < W5.heap.size := Nat.lt_of_lt_of_le rsL_w4 ab_W5.size
  have oL_W5 := hidP (OwnG.later oL_w4.out ab_W5)
  have acc_W5 := hidP (acc_w4.out.trans (ab_W5.mono acc_w4.out.size))
  have sz_W5 : Hid (w4.heap.size ≤ W5.heap.size) := hidP ab_W5.size
  clear ab_W5 bk0_w4 bk1_w4 bk2_w4 bkF_w4 bkL_w4 at0_w4 at1_w4 at2_w4 atF_w4 atL_w4 rs0_w4 rs1_w4 rs2_w4 rsF_w4 rsL_w4 oL_w4 acc_w4
  refine (HSp.out _ acc_W5.out).mono ?_
  rintro e w6 ⟨rfl, hb6⟩
  have bk0_w6 := (hb6.cell bkL_W5).trans bk0_W5
  have bk1_w6 := (hb6.cell bkL_W5).trans bk1_W5
  have bk2_w6 := (hb6.cell bkL_W5).trans bk2_W5
  have bkF_w6 : ∀ o, w6.frozen? ⟨w.heap.size, o, none⟩ = false := fun o => (hb6.frozen bkL_W5).trans (bkF_W5 o)
  have bkL_w6 : w.heap.size < w6.heap.size := Nat.lt_of_lt_of_le bkL_W5 hb6.size
  have at0_w6 := (hb6.cell atL_W5).trans at0_W5
  have at1_w6 := (hb6.cell atL_W5).trans at1_W5
  have at2_w6 := (hb6.cell atL_W5).trans at2_W5
  have atF_w6 : ∀ o, w6.frozen? ⟨w.heap.size + 1, o, none⟩ = false := fun o => (hb6.frozen atL_W5).trans (atF_W5 o)
  have atL_w6 : w.heap.size + 1 < w6.heap.size := Nat.lt_of_lt_of_le atL_W5 hb6.size
  have rs0_w6 := (hb6.cell rsL_W5).trans rs0_W5
  have rs1_w6 := (hb6.cell rsL_W5).trans rs1_W5
  have rs2_w6 := (hb6.cell rsL_W5).trans rs2_W5
  have rsF_w6 : ∀ o, w6.frozen? ⟨w.heap.size + 1 + 1, o, none⟩ = false := fun o => (hb6.frozen rsL_W5).trans (rsF_W5 o)
  have rsL_w6 : w.heap.size + 1 + 1 < w6.heap.size := Nat.lt_of_lt_of_le rsL_W5 hb6.size
  have ou0_w6 := (hb6.cell ouL_W5).trans ou0_W5
  have ou1_w6 := (hb6.cell ouL_W5).trans ou1_W5
  have ou2_w6 := (hb6.cell ouL_W5).trans ou2_W5
  have ouF_w6 : ∀ o, w6.frozen? ⟨w4.heap.size, o, none⟩ = false := fun o => (hb6.frozen ouL_W5).trans (ouF_W5 o)
  have ouL_w6 : w4.heap.size < w6.heap.size := Nat.lt_of_lt_of_le ouL_W5 hb6.size
  have oL_w6 := hidP (OwnG.later oL_W5.out hb6)
  have acc_w6 := hidP (acc_W5.out.trans (hb6.mono acc_W5.out.size))
  have sz_w6 : Hid (W5.heap.size ≤ w6.heap.size) := hidP hb6.size
  clear hb6 bk0_W5 bk1_W5 bk2_W5 bkF_W5 bkL_W5 at0_W5 at1_W5 at2_W5 atF_W5 atL_W5 rs0_W5 rs1_W5 rs2_W5 rsF_W5 rsL_W5 ou0_W5 ou1_W5 ou2_W5 ouF_W5 ouL_W5 oL_W5 acc_W5
  go_wp2_with fail
  refine (HAd.out _).mono ?_
  rintro e w7 ⟨rfl, hb7⟩
  have bk0_w7 := (hb7.cell bkL_w6).trans bk0_w6
  have bk1_w7 := (hb7.cell bkL_w6).trans bk1_w6
  have bk2_w7 := (hb7.cell bkL_w6).trans bk2_w6
  have bkF_w7 : ∀ o, w7.frozen? ⟨w.heap.size, o, none⟩ = false := fun o => (hb7.frozen bkL_w6).trans (bkF_w6 o)
  have bkL_w7 : w.heap.size < w7.heap.size := Nat.lt_of_lt_of_le bkL_w6 hb7.size
  have at0_w7 := (hb7.cell atL_w6).trans at0_w6
  have at1_w7 := (hb7.cell atL_w6).trans at1_w6
  have at2_w7 := (hb7.cell atL_w6).trans at2_w6
  have atF_w7 : ∀ o, w7.frozen? ⟨w.heap.size + 1, o, none⟩ = false := fun o => (hb7.frozen atL_w6).trans (atF_w6 o)
  have atL_w7 : w.heap.size + 1 < w7.heap.size := Nat.lt_of_lt_of_le atL_w6 hb7.size
  have rs0_w7 := (hb7.cell rsL_w6).trans rs0_w6
  have rs1_w7 := (hb7.cell rsL_w6).trans rs1_w6
  have rs2_w7 := (hb7.cell rsL_w6).trans rs2_w6
  have rsF_w7 : ∀ o, w7.frozen? ⟨w.heap.size + 1 + 1, o, none⟩ = false := fun o => (hb7.frozen rsL_w6).trans (rsF_w6 o)
  have rsL_w7 : w.heap.size + 1 + 1 < w7.heap.size := Nat.lt_of_lt_of_le rsL_w6 hb7.size
  have ou0_w7 := (hb7.cell ouL_w6).trans ou0_w6
  have ou1_w7 := (hb7.cell ouL_w6).trans ou1_w6
  have ou2_w7 := (hb7.cell ouL_w6).trans ou2_w6
  have ouF_w7 : ∀ o, w7.frozen? ⟨w4.heap.size, o, none⟩ = false := fun o => (hb7.frozen ouL_w6).trans (ouF_w6 o)
  have ouL_w7 : w4.heap.size < w7.heap.size := Nat.lt_of_lt_of_le ouL_w6 hb7.size
  have oL_w7 := hidP (OwnG.later oL_w6.out hb7)
  have acc_w7 := hidP (acc_w6.out.trans (hb7.mono acc_w6.out.size))
  have sz_w7 : Hid (w6.heap.size ≤ w7.heap.size) := hidP hb7.size
  clear hb7 bk0_w6 bk1_w6 bk2_w6 bkF_w6 bkL_w6 at0_w6 at1_w6 at2_w6 atF_w6 atL_w6 rs0_w6 rs1_w6 rs2_w6 rsF_w6 rsL_w6 ou0_w6 ou1_w6 ou2_w6 ouF_w6 ouL_w6 oL_w6 acc_w6
  go_wp2_with fail
  refine (HOn.out _).mono ?_
  rintro e w8' ⟨rfl, hw8'⟩
  rw [hw8']
  clear hw8' w8'
  go_wp2_with fail
  refine (HI.out _).mono ?_
  rintro e w9' ⟨rfl, hw9'⟩
  rw [hw9']
  clear hw9' w9'
  go_wp2_with fail
  refine (HFi.out _ acc_w7.out).mono ?_
  rintro e w8 ⟨rfl, hb8⟩
  have bk0_w8 := (hb8.cell bkL_w7).trans bk0_w7
  have bk1_w8 := (hb8.cell bkL_w7).trans bk1_w7
  have bk2_w8 := (hb8.cell bkL_w7).trans bk2_w7
  have bkF_w8 : ∀ o, w8.frozen? ⟨w.heap.size, o, none⟩ = false := fun o => (hb8.frozen bkL_w7).trans (bkF_w7 o)
  have bkL_w8 : w.heap.size < w8.heap.size := Nat.lt_of_lt_of_le bkL_w7 hb8.size
  have at0_w8 := (hb8.cell atL_w7).trans at0_w7
  have at1_w8 := (hb8.cell atL_w7).trans at1_w7
  have at2_w8 := (hb8.cell atL_w7).trans at2_w7
  have atF_w8 : ∀ o, w8.frozen? ⟨w.heap.size + 1, o, none⟩ = false := fun o => (hb8.frozen atL_w7).trans (atF_w7 o)
  have atL_w8 : w.heap.size + 1 < w8.heap.size := Nat.lt_of_lt_of_le atL_w7 hb8.size
  have rs0_w8 := (hb8.cell rsL_w7).trans rs0_w7
  have rs1_w8 := (hb8.cell rsL_w7).trans rs1_w7
  have rs2_w8 := (hb8.cell rsL_w7).trans rs2_w7
  have rsF_w8 : ∀ o, w8.frozen? ⟨w.heap.size + 1 + 1, o, none⟩ = false := fun o => (hb8.frozen rsL_w7).trans (rsF_w7 o)
  have rsL_w8 : w.heap.size + 1 + 1 < w8.heap.size := Nat.lt_of_lt_of_le rsL_w7 hb8.size
  have ou0_w8 := (hb8.cell ouL_w7).trans ou0_w7
  have ou1_w8 := (hb8.cell ouL_w7).trans ou1_w7
  have ou2_w8 := (hb8.cell ouL_w7).trans ou2_w7
  have ouF_w8 : ∀ o, w8.frozen? ⟨w4.heap.size, o, none⟩ = false := fun o => (hb8.frozen ouL_w7).trans (ouF_w7 o)
  have ouL_w8 : w4.heap.size < w8.heap.size := Nat.lt_of_lt_of_le ouL_w7 hb8.size
  have oL_w8 := hidP (OwnG.later oL_w7.out hb8)
  have acc_w8 := hidP (acc_w7.out.trans (hb8.mono acc_w7.out.size))
  have sz_w8 : Hid (w7.heap.size ≤ w8.heap.size) := hidP hb8.size
  clear hb8 bk0_w7 bk1_w7 bk2_w7 bkF_w7 bkL_w7 at0_w7 at1_w7 at2_w7 atF_w7 atL_w7 rs0_w7 rs1_w7 rs2_w7 rsF_w7 rsL_w7 ou0_w7 ou1_w7 ou2_w7 ouF_w7 ouL_w7 oL_w7 acc_w7
  have hfi : fxI ls ad = -1 := by unfold fxI; rw [hx]
  rw [hfi]
  have e80 : ((n : Int) == 80) = true := by rw [H80.out]; rfl
  clear hfi
  go_wp2_with fail
  refine bodyPost_ret (v := .tuple #[.agg #[.slice a3 n c3, .int .i64 T, .int .i64 N], .int .i64 0, .int .i64 12]) (by simp [results, Tryz.results8, go_sem, rs0_w8, rs1_w8, rs2_w8]) rfl ⟨_, _, rfl, ?_, ?_⟩
  · refine OwnG.mono (B := W3.heap.size) ?_ (by have := as_W1.out; have := sz_W1.out; have := as_W2.out; have := sz_W2.out; have := as_W3.out; have := sz_W3.out; have := sz_w4.out; have := as_W5.out; have := sz_W5.out; have := sz_w6.out; have := sz_w7.out; have := sz_w8.out; omega)
    iterate 3 (with_reducible refine OwnG.grown ?_ (grown_cellG _ _ _ _) ?_; rotate_left; (focus (exact OwnG.ne_of oL_w8.out (by have := as_W1.out; have := sz_W1.out; have := as_W2.out; have := sz_W2.out; have := as_W3.out; have := sz_W3.out; have := sz_w4.out; have := as_W5.out; have := sz_W5.out; have := sz_w6.out; have := sz_w7.out; have := sz_w8.out; omega))))
    with_reducible exact oL_w8.out
  · repeat (with_reducible refine Below.setCell ?_ ?_ _; rotate_left; (focus (first | (simp; done) | (simp; omega))))
    exact acc_w8.out

end Go.Proofs.YtddnofonodgneaaGreatDoor
namespace Go.Proofs.YtddnofonodgneaaGreatDoor
open Go.RowKit

theorem low_upto {ls : List Ls} {ad : Ad} (hs : SrtL ls) : ∀ k, k ≤ ls.length → ∃ i, i ≤ k ∧ (∀ (j : Nat) (q : Ls), j < i → ls[j]? = some q → q.a.key < ad.key) ∧ (∀ (j : Nat) (q : Ls), i ≤ j → j < k → ls[j]? = some q → ad.key ≤ q.a.key)
  | 0, _ => ⟨0, Nat.le_refl _, fun j q h => absurd h (Nat.not_lt_zero _), fun j q _ h => absurd h (Nat.not_lt_zero _)⟩
  | k + 1, hk => by
      obtain ⟨i, hi, h1, h2⟩ := low_upto (ad := ad) hs k (by omega)
      have hq : ls[k]? = some ls[k] := List.getElem?_eq_getElem (by omega)
      by_cases hlt : ls[k].a.key < ad.key
      · refine ⟨k + 1, Nat.le_refl _, fun j q hj hjq => ?_, fun j q h1 h2 => by omega⟩
        by_cases hjk : j = k
        · subst hjk
          rw [hq] at hjq
          cases hjq
          exact hlt
        · have := hs.1 j k q ls[k] (by omega) hjq hq
          omega
      · refine ⟨i, by omega, h1, fun j q hj hjk hjq => ?_⟩
        by_cases hjk' : j = k
        · subst hjk'
          rw [hq] at hjq
          cases hjq
          omega
        · exact h2 j q hj (by omega) hjq
theorem low_ex {ls : List Ls} {ad : Ad} (hs : SrtL ls) : ∃ i, LowAt ls ad i := by
  obtain ⟨i, hi, h1, h2⟩ := low_upto (ad := ad) hs ls.length (Nat.le_refl _)
  exact ⟨i, hi, h1, fun j q hj hq => h2 j q hj (List.getElem?_eq_some_iff.1 hq).1 hq⟩

/-- The loop's list: the last one is laid behind, those behind the place m are moved. -/
theorem set_newL {α : Type} (ps : List α) (q : α) (m : Nat) (h : m ≤ ps.length) : ((ps ++ [q]).take (m + 1) ++ ps.drop m).set m q = ps.take m ++ [q] ++ ps.drop m := by
  have hl : ((ps ++ [q]).take m).length = m := by rw [List.length_take, List.length_append]; simp; omega
  rw [List.take_succ_eq_append_getElem (by simp; omega), List.append_assoc, List.set_append_right _ _ (by omega), hl, Nat.sub_self, List.take_append_of_le_length h]
  simp
theorem set_mvL {α : Type} (ps : List α) (p q : α) (i : Nat) (hq : ps[i]? = some q) : ((ps ++ [p]).take (i + 1 + 1) ++ ps.drop (i + 1)).set (i + 1) q = (ps ++ [p]).take (i + 1) ++ ps.drop i := by
  have hi : i < ps.length := (List.getElem?_eq_some_iff.1 hq).1
  have hl : ((ps ++ [p]).take (i + 1)).length = i + 1 := by rw [List.length_take, List.length_append]; simp; omega
  rw [List.take_succ_eq_append_getElem (i := i + 1) (by simp; omega), List.append_assoc, List.set_append_right _ _ (by omega), hl, Nat.sub_self, List.drop_eq_getElem_cons hi, (List.getElem?_eq_some_iff.1 hq).2]
  rfl
theorem ins_first {α : Type} (ps : List α) (p : α) : (ps ++ [p]).take (ps.length + 1) ++ ps.drop ps.length = ps ++ [p] := by
  rw [List.drop_length, List.append_nil, List.take_of_length_le (by simp)]

/-- The program's Grant, whatever comes. -/
theorem gr_ok {ls : List Ls} {T N : Int} {ad : Ad} {own : ByteArray} {span : Int} (hr : gokB ls T N ad own span = true) : bkB ls T N = true ∧ IntKind.i64.wrap (N + span) = N + span ∧ T ≠ 1000000000 := by
  unfold gokB at hr
  simp only [Bool.and_eq_true] at hr
  obtain ⟨hb, _, _, ⟨⟨h1, h1b⟩, _⟩, hT0⟩ := hr
  have h1c : (decide (1 ≤ span) && decide (span ≤ 1000)) = true := by rw [h1, h1b]; rfl
  exact ⟨hb, (sp_wrap (bk_now hb) h1c).1, by simpa using hT0⟩
theorem bk_tok {ls : List Ls} {T N : Int} (h : bkB ls T N = true) : 0 ≤ T ∧ T ≤ 1000000000 := by
  unfold bkB at h
  simp only [Bool.and_eq_true, decide_eq_true_eq] at h
  exact h.1.2.1

end Go.Proofs.YtddnofonodgneaaGreatDoor
namespace Go.Proofs.YtddnofonodgneaaGreatDoor
open Go.RowKit

/-- copy, where a thing has k cells. -/
theorem run_copyG {P : Program} (w : World) (dT sT ty e : TypeId) (k m : Nat) (b o dLen dCap : Nat) (a : Addr) (sLen sCap : Nat) (cs : List Value)
    (hu : P.underlying dT = some (.slice e)) (hs : (P.info? e).map (·.size) = some k) (hm : Nat.min sLen dLen = m) (hn : cs.length = m * k)
    (hsrc : ∀ j v, cs[j]? = some v → w.cell? (a.add j) = some v) (hc : ∀ j, j < cs.length → (w.cell? ⟨b, o + j, none⟩).isSome = true) (hf : ∀ j, j < cs.length → w.frozen? ⟨b, o + j, none⟩ = false) (h1 : ∀ v ∈ cs, v.oneCell' = true) :
    (Builtin.copy_ #[dT, sT] ty #[.slice (some ⟨b, o, none⟩) dLen dCap, .slice (some a) sLen sCap]).run P w = .ok (goInt m) (w.setCells b o cs) := by
  have hl := run_firstCells_some (P := P) w k m a sLen sCap cs hn hsrc
  have hst := run_storeCells_cells (P := P) b o cs 0 w (by simpa using hc) (by simpa using hf) h1
  cases hq : P.info? e with
  | none => simp [hq] at hs
  | some i =>
    have hi : i.size = k := by simpa [hq] using hs
    simp [Builtin.copy_, run_underlying hu, Builtin.lenOf, sizeOf, typeInfo, hq, hi, hm, hl, hst]

theorem sets_two (A Y Z V D : List Value) (h1 : Y.length = V.length) (h2 : Z.length = D.length) : sets (sets (A ++ (Y ++ Z)) A.length V) (A.length + V.length) D = A ++ (V ++ D) := by
  have e1 := sets_right A (Y ++ Z) V 0
  rw [Nat.add_zero, sets_all V Y Z h1] at e1
  have e2 := sets_right A (V ++ Z) D V.length
  have e3 := sets_right V Z D 0
  have e4 := sets_all D Z [] h2
  rw [List.append_nil, List.append_nil] at e4
  rw [Nat.add_zero, e4] at e3
  rw [e1, e2, e3]
theorem sets_two' (A Y Z V D : List Value) (h1 : Y.length = V.length) (h2 : Z.length = D.length) : sets (sets (A ++ (Y ++ Z)) (A.length + V.length) D) A.length V = A ++ (V ++ D) := by
  have e2 := sets_right A (Y ++ Z) D V.length
  have e3 := sets_right Y Z D 0
  have e4 := sets_all D Z [] h2
  rw [List.append_nil, List.append_nil] at e4
  rw [Nat.add_zero, e4, h1] at e3
  have e1 := sets_right A (Y ++ D) V 0
  rw [Nat.add_zero, sets_all V Y D h1] at e1
  rw [e2, e3, e1]
theorem gflat_ins {α : Type} (K : Kd α) (ps : List α) (i : Nat) (q : α) : gflat K (ps.take i ++ [q] ++ ps.drop i) = gflat K (ps.take i) ++ (K.cs q ++ gflat K (ps.drop i)) := by
  rw [gflat_app, gflat_app, List.append_assoc]
  congr 2
  show K.cs q ++ [] = K.cs q
  rw [List.append_nil]
theorem ins_len {α : Type} (ps : List α) (i : Nat) (q : α) (hi : i ≤ ps.length) : (ps.take i ++ [q] ++ ps.drop i).length = ps.length + 1 := by
  simp only [List.length_append, List.length_take, List.length_singleton, List.length_drop]; omega
theorem ins_cut {α : Type} (K : Kd α) (ps : List α) (i : Nat) (q : α) (R : List Value) (hi : i ≤ ps.length) (hl : R.length = (ps.length + 1) * K.k) (hR : R.take (i * K.k) = gflat K (ps.take i)) :
    ∃ Y Z, R = gflat K (ps.take i) ++ (Y ++ Z) ∧ Y.length = (K.cs q).length ∧ Z.length = (gflat K (ps.drop i)).length ∧ (gflat K (ps.take i)).length = i * K.k ∧ (K.cs q).length = K.k := by
  have hm : (i + 1) * K.k ≤ (ps.length + 1) * K.k := Nat.mul_le_mul_right _ (by omega)
  have hd : (ps.length - i) * K.k = ps.length * K.k - i * K.k := Nat.sub_mul _ _ _
  rw [Nat.add_mul] at hm
  refine ⟨(R.drop (i * K.k)).take K.k, (R.drop (i * K.k)).drop K.k, ?_, ?_, ?_, ?_, K.len q⟩
  · rw [← hR, List.take_append_drop, List.take_append_drop]
  · rw [K.len, List.length_take, List.length_drop, hl]; omega
  · rw [gflat_len, List.length_drop, List.length_drop, List.length_drop, hl, hd, Nat.add_mul]; omega
  · rw [gflat_len, List.length_take, Nat.min_eq_left hi]
/-- A row of n + 1 whose first i are right: what is behind is laid, then the new one. -/
theorem ins_rawA {α : Type} {K : Kd α} {t : TypeId} {w : World} {B g cap i : Nat} {ps : List α} {R : List Value} (raw : w.ownsRow B t K.k (.slice (some ⟨g, 0, none⟩) (ps.length + 1) cap) (ps.length + 1) R) (hi : i ≤ ps.length) (hR : R.take (i * K.k) = gflat K (ps.take i)) (q : α) :
    OwnG K t ((w.setCells g ((i + 1) * K.k) (gflat K (ps.drop i))).setCells g (i * K.k) (K.cs q)) B (.slice (some ⟨g, 0, none⟩) (ps.length + 1) cap) (ps.take i ++ [q] ++ ps.drop i) := by
  obtain ⟨Y, Z, e, h1, h2, h3, h4⟩ := ins_cut K ps i q R hi raw.1 hR
  have p1 := puts_own (gflat K (ps.drop i)) w R ((i + 1) * K.k) raw
  have p2 := puts_own (K.cs q) _ _ (i * K.k) p1
  unfold OwnG
  rw [setCells_puts, setCells_puts, ins_len ps i q hi, gflat_ins]
  rw [e, show (i + 1) * K.k = (gflat K (ps.take i)).length + (K.cs q).length by rw [h3, h4, Nat.add_mul, Nat.one_mul], show i * K.k = (gflat K (ps.take i)).length from h3.symm, sets_two' _ Y Z _ _ h1 h2] at p2
  rw [show (i + 1) * K.k = (gflat K (ps.take i)).length + (K.cs q).length by rw [h3, h4, Nat.add_mul, Nat.one_mul], show i * K.k = (gflat K (ps.take i)).length from h3.symm]
  exact p2
/-- .. and the other way round. -/
theorem ins_rawB {α : Type} {K : Kd α} {t : TypeId} {w : World} {B g cap i : Nat} {ps : List α} {R : List Value} (raw : w.ownsRow B t K.k (.slice (some ⟨g, 0, none⟩) (ps.length + 1) cap) (ps.length + 1) R) (hi : i ≤ ps.length) (hR : R.take (i * K.k) = gflat K (ps.take i)) (q : α) :
    OwnG K t ((w.setCells g (i * K.k) (K.cs q)).setCells g ((i + 1) * K.k) (gflat K (ps.drop i))) B (.slice (some ⟨g, 0, none⟩) (ps.length + 1) cap) (ps.take i ++ [q] ++ ps.drop i) := by
  obtain ⟨Y, Z, e, h1, h2, h3, h4⟩ := ins_cut K ps i q R hi raw.1 hR
  have p1 := puts_own (K.cs q) w R (i * K.k) raw
  have p2 := puts_own (gflat K (ps.drop i)) _ _ ((i + 1) * K.k) p1
  unfold OwnG
  rw [setCells_puts, setCells_puts, ins_len ps i q hi, gflat_ins]
  rw [e, show (i + 1) * K.k = (gflat K (ps.take i)).length + (K.cs q).length by rw [h3, h4, Nat.add_mul, Nat.one_mul], show i * K.k = (gflat K (ps.take i)).length from h3.symm, sets_two _ Y Z _ _ h1 h2] at p2
  rw [show (i + 1) * K.k = (gflat K (ps.take i)).length + (K.cs q).length by rw [h3, h4, Nat.add_mul, Nat.one_mul], show i * K.k = (gflat K (ps.take i)).length from h3.symm]
  exact p2
theorem OwnG.rawMore {α : Type} {K : Kd α} {t : TypeId} {w : World} {B g n cap i : Nat} {ps : List α} (h : OwnG K t w B (.slice (some ⟨g, 0, none⟩) n cap) ps) (hi : i ≤ n) (hroom : n + 1 ≤ cap) :
    ∃ R, w.ownsRow B t K.k (.slice (some ⟨g, 0, none⟩) (ps.length + 1) cap) (ps.length + 1) R ∧ R.take (i * K.k) = gflat K (ps.take i) := by
  have hn := h.caps.1
  subst hn
  rcases h.2 with ⟨hv, _⟩ | ⟨g', c', cur, hv, hb, hg, h1, h2, h3, h4⟩
  · simp at hv
  · simp at hv
    obtain ⟨e1, e2⟩ := hv
    subst e1 e2
    have hm : (ps.length + 1) * K.k ≤ cap * K.k := Nat.mul_le_mul_right _ hroom
    have hm2 : i * K.k ≤ ps.length * K.k := Nat.mul_le_mul_right _ hi
    refine ⟨cur.toList.take ((ps.length + 1) * K.k), ⟨?_, Or.inr ⟨g, cap, cur, rfl, hb, hg, hroom, h2, h3, rfl⟩⟩, ?_⟩
    · have hx : cur.toList.length = cap * K.k := by rw [Array.length_toList, h3]
      rw [List.length_take, hx]; omega
    · rw [gflat_take, ← h4, List.take_take, List.take_take]
      congr 1
      rw [Nat.add_mul]; omega
theorem setCells_grown {w0 : World} {g : Nat} (vs : List Value) (w : World) (off : Nat) (h : w0.grownBy w (some g)) : w0.grownBy (w.setCells g off vs) (some g) := by
  rw [setCells_puts]; exact puts_grown vs w off h

end Go.Proofs.YtddnofonodgneaaGreatDoor
namespace Go.Proofs.YtddnofonodgneaaGreatDoor
open Go.RowKit

theorem Tryz.sizeLs (w : World) : (sizeOf 35).run Tryz.prog w = .ok 6 w := by
  obtain ⟨i0, hi, hz0, hz1, hz2⟩ := info_parts Tryz.tyLs.2.1
  simp [sizeOf, typeInfo, hi]
  exact hz1
theorem Tryz.szLs : (Tryz.prog.info? 35).map (·.size) = some 6 := by
  obtain ⟨i0, hi, hz0, hz1, hz2⟩ := info_parts Tryz.tyLs.2.1
  rw [hi]; simp; exact hz1
theorem ls_len (q : Ls) : (KLs.cs q).length = 6 := KLs.len q
/-- What is known of the new one's block. -/
theorem blk_facts {w : World} {vb : Nat} {q : Ls} {t : TypeId} (hv : w.heap[vb]? = some (.cells (KLs.cs q).toArray t)) :
    (∀ j v, (KLs.cs q)[j]? = some v → w.cell? ⟨vb, j, none⟩ = some v) ∧ w.shape? vb = some (t, 6) ∧ (∀ j, w.frozen? ⟨vb, j, none⟩ = false) ∧ vb < w.heap.size := by
  have hl := ls_len q
  refine ⟨fun j v h => ?_, ?_, fun j => ?_, ?_⟩
  · simp [World.cell?, hv, h]
  · simp [World.shape?, hv, hl]
  · simp [World.frozen?, hv]
  · rcases Nat.lt_or_ge vb w.heap.size with h' | h'
    · exact h'
    · rw [Array.getElem?_eq_none h'] at hv; cases hv
theorem own_blk {t : TypeId} {w : World} {B g n cap : Nat} {ps : List Ls} (h : OwnG KLs t w B (.slice (some ⟨g, 0, none⟩) n cap) ps) : w.shape? g = some (t, cap * 6) ∧ g < w.heap.size := by
  rcases h.2 with ⟨hv, _⟩ | ⟨g', c', cur, hv, hb, hg, h1, h2, h3, h4⟩
  · simp at hv
  · simp at hv
    obtain ⟨e1, _, e2⟩ := hv
    subst e1 e2
    refine ⟨by simp [World.shape?, hg]; exact h3, ?_⟩
    rcases Nat.lt_or_ge g w.heap.size with h' | h'
    · exact h'
    · rw [Array.getElem?_eq_none h'] at hg; cases hg
theorem own_cells {t : TypeId} {w : World} {B g n cap : Nat} {ps : List Ls} (h : OwnG KLs t w B (.slice (some ⟨g, 0, none⟩) n cap) ps) (i : Nat) (hi : i ≤ n) : ∀ j v, (gflat KLs (ps.drop i))[j]? = some v → w.cell? ⟨g, i * 6 + j, none⟩ = some v := fun j v hv => by
  have hn := h.caps.1
  subst hn
  have hlj : j < (gflat KLs (ps.drop i)).length := by
    rcases Nat.lt_or_ge j (gflat KLs (ps.drop i)).length with h' | h'
    · exact h'
    · rw [List.getElem?_eq_none h'] at hv; cases hv
  rw [gflat_len, List.length_drop] at hlj
  have hlj' : j < (ps.length - i) * 6 := hlj
  have e : gflat KLs ps = gflat KLs (ps.take i) ++ gflat KLs (ps.drop i) := by rw [← gflat_app, List.take_append_drop]
  have hl : (gflat KLs (ps.take i)).length = i * 6 := by rw [gflat_len, List.length_take, Nat.min_eq_left hi]; rfl
  have := World.ownsRow.cellAt h (i * 6 + j) (show i * 6 + j < ps.length * 6 by omega)
  rw [this, e, List.getElem?_append_right (by omega), hl, Nat.add_sub_cancel_left]
  exact hv

set_option maxRecDepth 100000 in
set_option maxHeartbeats 4000000 in
/-- There is room: in place. -/
theorem insert_room (g n cap B vb i : Nat) (ps : List Ls) (q : Ls) (w : World) (hn : n = ps.length) (hi : i < n) (hl : n ≤ 1048576) (h : OwnG KLs 35 w B (.slice (some ⟨g, 0, none⟩) n cap) ps)
    (hv : w.heap[vb]? = some (.cells (KLs.cs q).toArray 35)) (hvb : vb ≠ g) (hroom : n + 1 ≤ cap) :
    Calls Tryz.prog 27 #[.slice (some ⟨g, 0, none⟩) n cap, .int .i64 i, .slice (some ⟨vb, 0, none⟩) 1 1] w fun e w' => e = .returned (.slice (some ⟨g, 0, none⟩) (n + 1) cap) ∧ w' = (w.drew.setCells g ((i + 1) * 6) (gflat KLs (ps.drop i))).setCells g (i * 6) (KLs.cs q) := by
  have hc9 : cap ≤ 9223372036854775807 := h.caps.2.2.1
  obtain ⟨hvc, hvs, hvf, hvl⟩ := blk_facts hv
  obtain ⟨hgs, hgl⟩ := own_blk h
  have hgc := own_cells h i (by omega)
  have hgi := fun j (hj : j < cap * 6) => OwnG.cellIn h j hj
  have hgf := fun j => OwnG.frozen h j
  have hov : ∀ lb cb, (callFunc 49 #[.slice (some ⟨vb, 0, none⟩) 1 1, .slice (some ⟨g, (i + 1) * 6, none⟩) lb cb]).run Tryz.prog w = .ok (.value (.bool false)) w := fun lb cb => by
    rw [run_callFunc_extern Tryz.func49 (by kernel_rfl) (by kernel_rfl) (by kernel_rfl) (e := Extern.SlicesOverlaps.overlaps #[24, 24] #[4]) (by kernel_rfl),
      Lib.run_overlaps_apart w 24 4 35 Tryz.tyLs.1 6 Tryz.sizeLs ⟨vb, 0, none⟩ ⟨g, (i + 1) * 6, none⟩ 1 1 lb cb hvb _ _ 6 (cap * 6) hvs hgs (by omega) (hvf 0) (hvf 6)]
    rfl
  have hdl : (gflat KLs (ps.drop i)).length = (n - i) * 6 := by rw [gflat_len, List.length_drop, hn]; rfl
  have mixed : Tryz.prog.follows Departure.mixedOrders = true := by kernel_rfl
  have hz2 : ¬ ((i : Int) = (n : Int)) := by omega
  have hz3 : ¬ ((cap : Int) < (n : Int) + 1) := by omega
  have hb1 : (0 : Int) ≤ (i : Int) + 1 := by omega
  have hin : i ≤ n := by omega
  have htn : ((i : Int) + 1).toNat = i + 1 := by omega
  have hb2 : ¬ (cap = i + 1) := by omega
  have hb3 : (i : Int) ≤ (n : Int) + 1 := by omega
  have hb4 : ¬ (cap = i) := by omega
  have hw1 : IntKind.i64.wrap ((i : Int) + 1) = (i : Int) + 1 := by rw [IntKind.wrap_i64]; omega
  have hb5 : (i : Int) + 1 ≤ (n : Int) + 1 := by omega
  have hcp1 : ∀ ty dc sc, (Builtin.copy_ #[24, 24] ty #[.slice (some ⟨g, (i + 1) * 6, none⟩) (n - i) dc, .slice (some ⟨g, i * 6, none⟩) (n + 1 - i) sc]).run Tryz.prog w.drew = .ok (goInt ((n - i : Nat) : Int)) (w.drew.setCells g ((i + 1) * 6) (gflat KLs (ps.drop i))) := fun ty dc sc =>
    run_copyG w.drew _ _ ty 35 6 (n - i) g ((i + 1) * 6) (n - i) dc ⟨g, i * 6, none⟩ (n + 1 - i) sc (gflat KLs (ps.drop i)) Tryz.tyLs.1 Tryz.szLs (by simp only [Nat.min_def]; split <;> omega) hdl
      (fun j v hj => by rw [Addr.add_lit]; exact hgc j v hj)
      (fun j hj => hgi _ (by rw [hdl] at hj; omega)) (fun j _ => hgf _) (gflat_one KLs _)
  obtain ⟨W1, hW1⟩ : ∃ W1, W1 = w.drew.setCells g ((i + 1) * 6) (gflat KLs (ps.drop i)) := ⟨_, rfl⟩
  have hsp1 : ∀ k, k < cap * 6 → (W1.cell? ⟨g, k, none⟩).isSome = true := fun k hk => by
    rw [hW1]
    exact isSome_setCells g (gflat KLs (ps.drop i)) ((i + 1) * 6) w.drew (fun j hj => hgi ((i + 1) * 6 + j) (by rw [hdl] at hj; omega)) k (hgi k hk)
  have hcp2 : ∀ (W : World), (∀ x, W.cell? x = W1.cell? x) → (∀ x, W.frozen? x = W1.frozen? x) → ∀ ty dc, (Builtin.copy_ #[24, 24] ty #[.slice (some ⟨g, i * 6, none⟩) (n + 1 - i) dc, .slice (some ⟨vb, 0, none⟩) 1 1]).run Tryz.prog W = .ok (goInt ((1 : Nat) : Int)) (W.setCells g (i * 6) (KLs.cs q)) := fun W hWc hWf ty dc =>
    run_copyG W _ _ ty 35 6 1 g (i * 6) (n + 1 - i) dc ⟨vb, 0, none⟩ 1 1 (KLs.cs q) Tryz.tyLs.1 Tryz.szLs (by simp only [Nat.min_def]; split <;> omega) (ls_len q)
      (fun j v hj => by
        rw [Addr.add_lit, Nat.zero_add, hWc, hW1, World.cell?_setCells_out g _ _ _ _ (fun h _ => absurd h hvb)]
        exact hvc j v hj)
      (fun j hj => by rw [hWc]; exact hsp1 _ (by rw [ls_len] at hj; omega)) (fun j hj => by rw [hWf, hW1, World.frozen?_setCells]; exact hgf _) (KLs.one q)
  rw [← hW1] at hcp1
  have HN := hidP (And.intro hn h)
  clear hn h hgc hgi hgf hvc hvs hvf hgs hsp1 hv hdl
  go_enter Tryz.func27, Tryz.ntmps27
  go_wp2_with (simp only [hov])
  go_region_law_o (refine step_copy_runI rfl _ _ 24 24 rfl _ _ (by simp [Act.eval, Act.put]) (by simp [Act.eval, Act.put]) (hcp1 _ _ _) ?_)
  go_wp2_with (at_builtin; refine wpList_copy_runI _ rfl _ _ 24 24 rfl _ _ rfl rfl (hcp2 _ (fun _ => rfl) (fun _ => rfl) _ _) ?_)
  go_ret
  first | exact ⟨rfl, rfl⟩ | exact ⟨rfl, by rw [hW1]⟩

end Go.Proofs.YtddnofonodgneaaGreatDoor
namespace Go.Proofs.YtddnofonodgneaaGreatDoor
open Go.RowKit

theorem alloc_drew (w : World) (o : Obj) : (w.alloc o).drew = w.drew.alloc o := rfl
theorem cell_drew (w : World) (x : Addr) : w.drew.cell? x = w.cell? x := rfl
theorem frz_drew (w : World) (x : Addr) : w.drew.frozen? x = w.frozen? x := rfl
def zLs : Value := .agg #[.bool false, .int .i64 0, .int .i64 0, .string ⟨#[]⟩, .int .i64 0, .int .i64 0]
theorem zeros_size (m : Nat) : (Builtin.zeroCells zLs.cells m).size = m * 6 := by simp [Builtin.zeroCells, zLs, Value.cells]
def insRow (w : World) (i n cap : Nat) (ps : List Ls) : Array Value := (gflat KLs (ps.take i)).toArray ++ Builtin.zeroCells zLs.cells (n + 1 - i) ++ Builtin.zeroCells zLs.cells (grownCap w (n + 1) cap 35 - (n + 1))

set_option maxRecDepth 100000 in
set_option maxHeartbeats 2000000 in
/-- There is no room: a new row. -/
theorem insert_grow (g n cap B vb i : Nat) (ps : List Ls) (q : Ls) (w : World) (hn : n = ps.length) (hi : i < n) (hl : n ≤ 1048576) (h : OwnG KLs 35 w B (.slice (some ⟨g, 0, none⟩) n cap) ps)
    (hv : w.heap[vb]? = some (.cells (KLs.cs q).toArray 35)) (hroom : cap < n + 1) :
    Calls Tryz.prog 27 #[.slice (some ⟨g, 0, none⟩) n cap, .int .i64 i, .slice (some ⟨vb, 0, none⟩) 1 1] w fun e w' => e = .returned (.slice (some ⟨w.heap.size, 0, none⟩) (n + 1) (grownCap w (n + 1) cap 35)) ∧
      w' = (((w.alloc (.cells (insRow w i n cap ps) 35)).drew.setCells w.heap.size (i * 6) (KLs.cs q)).drew).setCells w.heap.size ((i + 1) * 6) (gflat KLs (ps.drop i)) := by
  obtain ⟨i0, hi0, hz0, hzs, hzb⟩ := info_parts Tryz.tyLs.2.1
  have hzs' : i0.size = 6 := hzs
  have hnc : n ≤ cap := by have := h.caps.2.1; omega
  obtain ⟨hvc, hvs, hvf, hvl⟩ := blk_facts hv
  obtain ⟨hgs, hgl⟩ := own_blk h
  have hgc := own_cells h i (by omega)
  have hg0 := own_cells (OwnG.cut h i (by omega)) 0 (by omega)
  have hdl : (gflat KLs (ps.drop i)).length = (n - i) * 6 := by rw [gflat_len, List.length_drop, hn]; rfl
  have htl : (gflat KLs (ps.take i)).length = i * 6 := by rw [gflat_len, List.length_take, Nat.min_eq_left (by omega)]; rfl
  have hkk : (n : Int) + 1 - (i : Int) = ((n + 1 - i : Nat) : Int) := by omega
  have hik : i + (n + 1 - i) = n + 1 := by omega
  have hold : (Builtin.firstCells i0.size i (.slice (some ⟨g, 0, none⟩) i cap)).run Tryz.prog w.drew = .ok (gflat KLs (ps.take i)).toArray w.drew := by
    rw [hzs']
    exact run_firstCells_some w.drew 6 i ⟨g, 0, none⟩ i cap (gflat KLs (ps.take i)) htl (fun j v hj => by
      rw [Addr.add_lit]
      have := hg0 j v (by rw [List.drop_zero]; exact hj)
      rw [Nat.zero_mul] at this
      exact this)
  have hrz : ∀ ty, (Builtin.append_ #[24, 3] ty #[.slice (some ⟨g, 0, none⟩) i cap, .int .i64 ((n : Int) + 1 - (i : Int))]).run Tryz.prog w =
      .ok (.slice (some ⟨w.heap.size, 0, none⟩) (n + 1) (grownCap w (n + 1) cap 35)) (w.drew.alloc (.cells (insRow w i n cap ps) 35)) := fun ty => by
    have h := Lib.run_append_grow_zeros w 24 3 ty 35 i0 _ .i64 .i64 Tryz.tyLs.1 Tryz.underlying3 hi0 hz0 (some ⟨g, 0, none⟩) i cap (gflat KLs (ps.take i)) hold (n + 1 - i) (by omega) (by omega) (by omega) (by omega) (by rw [hzb]; omega) (by rw [hzb, hik]; exact growslice_fits hroom (by omega))
    rw [hik] at h
    rw [hkk]
    exact h
  obtain ⟨G, hG⟩ : ∃ G, G = grownCap w (n + 1) cap 35 := ⟨_, rfl⟩
  obtain ⟨ROW, hROW⟩ : ∃ ROW : Array Value, ROW = insRow w i n cap ps := ⟨_, rfl⟩
  rw [← hG] at hrz ⊢
  rw [← hROW] at hrz ⊢
  have hRl : (n + 1) * 6 ≤ ROW.size := by
    rw [hROW]
    unfold insRow
    rw [Array.size_append, Array.size_append, zeros_size, zeros_size, List.size_toArray, htl]
    omega
  obtain ⟨W1, hW1⟩ : ∃ W1, W1 = w.drew.alloc (.cells ROW 35) := ⟨_, rfl⟩
  rw [← hW1] at hrz
  have hN : ∀ j, j < (n + 1) * 6 → (W1.cell? ⟨w.heap.size, j, none⟩).isSome = true := fun j hj => by
    rw [hW1, World.cell?_alloc_at (w := w.drew) ROW _ w.heap.size j rfl, Array.getElem?_eq_getElem (by omega)]; rfl
  have hNf : ∀ j, W1.frozen? ⟨w.heap.size, j, none⟩ = false := fun j => by rw [hW1]; exact World.frozen?_alloc_at (w := w.drew) ROW _ w.heap.size j rfl
  have hOb : ∀ j v, w.cell? ⟨g, j, none⟩ = some v → W1.cell? ⟨g, j, none⟩ = some v := fun j v h => by rw [hW1, World.cell?_alloc_past (w := w.drew) _ g j hgl]; exact h
  have hOv : ∀ j v, w.cell? ⟨vb, j, none⟩ = some v → W1.cell? ⟨vb, j, none⟩ = some v := fun j v h => by rw [hW1, World.cell?_alloc_past (w := w.drew) _ vb j hvl]; exact h
  have hcpA : ∀ (W : World), (∀ x, W.cell? x = W1.cell? x) → (∀ x, W.frozen? x = W1.frozen? x) → ∀ ty dc, (Builtin.copy_ #[24, 24] ty #[.slice (some ⟨w.heap.size, i * 6, none⟩) (n + 1 - i) dc, .slice (some ⟨vb, 0, none⟩) 1 1]).run Tryz.prog W = .ok (goInt ((1 : Nat) : Int)) (W.setCells w.heap.size (i * 6) (KLs.cs q)) := fun W hWc hWf ty dc =>
    run_copyG W _ _ ty 35 6 1 w.heap.size (i * 6) (n + 1 - i) dc ⟨vb, 0, none⟩ 1 1 (KLs.cs q) Tryz.tyLs.1 Tryz.szLs (by simp only [Nat.min_def]; split <;> omega) (ls_len q)
      (fun j v hj => by rw [Addr.add_lit, Nat.zero_add, hWc]; exact hOv _ v (hvc j v hj))
      (fun j hj => by rw [hWc]; exact hN _ (by rw [ls_len] at hj; omega)) (fun j hj => by rw [hWf]; exact hNf _) (KLs.one q)
  have hGn : n + 1 ≤ G := by rw [hG]; exact grownCap_ge w _ _ _
  have hG63 : G ≤ 9223372036854775807 := by
    have := grownCap_le_maxLen w (n + 1) cap 35 (by unfold maxLen; omega)
    rw [← hG] at this
    unfold maxLen at this
    omega
  have hGi : ¬ (G = i) := by omega
  have hGim : ¬ (G = i + 1) := by omega
  have hci : ¬ (cap = i) := by omega
  have hbN : g ≠ w.heap.size := by omega
  have hcpB : ∀ (W : World), (∀ x, W.cell? x = (W1.setCells w.heap.size (i * 6) (KLs.cs q)).cell? x) → (∀ x, W.frozen? x = (W1.setCells w.heap.size (i * 6) (KLs.cs q)).frozen? x) → ∀ ty dc sc, (Builtin.copy_ #[24, 24] ty #[.slice (some ⟨w.heap.size, (i + 1) * 6, none⟩) (n - i) dc, .slice (some ⟨g, i * 6, none⟩) (n - i) sc]).run Tryz.prog W = .ok (goInt ((n - i : Nat) : Int)) (W.setCells w.heap.size ((i + 1) * 6) (gflat KLs (ps.drop i))) := fun W hWc hWf ty dc sc =>
    run_copyG W _ _ ty 35 6 (n - i) w.heap.size ((i + 1) * 6) (n - i) dc ⟨g, i * 6, none⟩ (n - i) sc (gflat KLs (ps.drop i)) Tryz.tyLs.1 Tryz.szLs (by simp only [Nat.min_def]; split <;> omega) hdl
      (fun j v hj => by
        rw [Addr.add_lit, hWc, World.cell?_setCells_out _ _ _ _ _ (fun h _ => absurd h hbN)]
        exact hOb _ v (hgc j v hj))
      (fun j hj => by
        rw [hWc]
        exact isSome_setCells w.heap.size (KLs.cs q) (i * 6) W1 (fun t ht => hN (i * 6 + t) (by rw [ls_len] at ht; omega)) ((i + 1) * 6 + j) (hN _ (by rw [hdl] at hj; omega)))
      (fun j hj => by rw [hWf, World.frozen?_setCells]; exact hNf _) (gflat_one KLs _)
  clear hv hvc hOv
  generalize KLs.cs q = VS at *
  subst hW1
  have hE1 : ∀ x, ((w.alloc (.cells ROW 35)).drew).cell? x = (w.drew.alloc (.cells ROW 35)).cell? x := fun x => by rw [alloc_drew]
  have hE2 : ∀ x, ((w.alloc (.cells ROW 35)).drew).frozen? x = (w.drew.alloc (.cells ROW 35)).frozen? x := fun x => by rw [alloc_drew]
  have hF1 : ∀ x, (((w.alloc (.cells ROW 35)).drew.setCells w.heap.size (i * 6) VS).drew).cell? x = ((w.drew.alloc (.cells ROW 35)).setCells w.heap.size (i * 6) VS).cell? x := fun x => by rw [cell_drew, alloc_drew]
  have hF2 : ∀ x, (((w.alloc (.cells ROW 35)).drew.setCells w.heap.size (i * 6) VS).drew).frozen? x = ((w.drew.alloc (.cells ROW 35)).setCells w.heap.size (i * 6) VS).frozen? x := fun x => by rw [frz_drew, alloc_drew]
  have mixed : Tryz.prog.follows Departure.mixedOrders = true := by kernel_rfl
  have hz2 : ¬ ((i : Int) = (n : Int)) := by omega
  have hz3 : (cap : Int) < (n : Int) + 1 := by omega
  have hw1 : IntKind.i64.wrap ((i : Int) + 1) = (i : Int) + 1 := by rw [IntKind.wrap_i64]; omega
  have hb1 : (0 : Int) ≤ (i : Int) + 1 := by omega
  have hb5 : (i : Int) + 1 ≤ (n : Int) + 1 := by omega
  have hin : i ≤ n := by omega
  have htn : ((i : Int) + 1).toNat = i + 1 := by omega
  have hb3 : (i : Int) ≤ (n : Int) := by omega
  have HN := hidP (And.intro hn h)
  clear hkk hik hold hROW hG hRl hn h hgc hg0 hvs hvf hgs hdl htl hN hNf hOb hi0 hz0 hzs hzb hzs'
  go_enter Tryz.func27, Tryz.ntmps27
  go_wp2_with (first
    | (at_builtin; refine Lib.wpList_append_run _ rfl _ _ _ _ rfl _ _ rfl rfl _ _ (hrz _) ?_)
    | (at_builtin; refine wpList_copy_runI _ rfl _ _ 24 24 rfl _ _ rfl rfl (hcpA _ hE1 hE2 _ _) ?_))
  go_region_law_o (refine step_copy_runI rfl _ _ 24 24 rfl (.slice (some ⟨w.heap.size, (i + 1) * 6, none⟩) (n - i) (G - (i + 1))) (.slice (some ⟨g, i * 6, none⟩) (n - i) (cap - i)) (by simp [Act.eval, Act.put]) (by simp [Act.eval, Act.put]) (hcpB _ hF1 hF2 3 (G - (i + 1)) (cap - i)) ?_)
  go_wp2
  go_ret
  exact ⟨rfl, rfl⟩

end Go.Proofs.YtddnofonodgneaaGreatDoor
namespace Go.Proofs.YtddnofonodgneaaGreatDoor
open Go.RowKit

theorem row_blk {w : World} {vb : Nat} {q : Ls} {t : TypeId} (hv : w.heap[vb]? = some (.cells (KLs.cs q).toArray t)) : RowG KLs w (some ⟨vb, 0, none⟩) [q] := fun j hj => by
  obtain ⟨hvc, _, _, hvl⟩ := blk_facts hv
  have hj0 : j = 0 := by simp at hj; omega
  subst hj0
  refine ⟨vb, 0, q, rfl, hvl, rfl, fun i v h => ?_⟩
  rw [Nat.zero_mul, Nat.zero_add]
  exact hvc i v h

set_option maxRecDepth 100000 in
set_option maxHeartbeats 2000000 in
/-- Behind the last. -/
theorem insert_end (a : Option Addr) (n cap B vb : Nat) (ps : List Ls) (q : Ls) (w : World) (hn : n = ps.length) (hl : n ≤ 1048576) (h : OwnG KLs 35 w B (.slice a n cap) ps)
    (hv : w.heap[vb]? = some (.cells (KLs.cs q).toArray 35)) (hB : B ≤ w.heap.size) :
    Calls Tryz.prog 27 #[.slice a n cap, .int .i64 n, .slice (some ⟨vb, 0, none⟩) 1 1] w fun e w' => ∃ a' c', e = .returned (.slice a' (n + 1) c') ∧ OwnG KLs 35 w' B (.slice a' (n + 1) c') (ps ++ [q]) ∧ w.grownBy w' (Value.slice a n cap).ownBlock := by
  have hcap := h.caps
  have hnc : n ≤ cap := by omega
  have hc9 : cap ≤ 9223372036854775807 := hcap.2.2.1
  have hsrc := hidP (src_rowG Tryz.tyLs.1 (K := KLs) 1 1 (by show 0 < 6; omega) rfl (row_blk hv) (fun h => by cases h))
  have HO := hidP h
  have HN := hidP hn
  have HB := hidP hB
  have hzz : ((n : Int) == (n : Int)) = true := by simp
  rcases h.2 with ⟨hv', hn0⟩ | ⟨g, c', cur, hv', hb, hg, _⟩
  · simp at hv'
    obtain ⟨rfl, rfl, rfl⟩ := hv'
    clear h hn hv hB hcap hn0
    go_enter Tryz.func27, Tryz.ntmps27
    go_wp2_with (at_builtin; refine wpList_appG Tryz.tyLs _ rfl (.tmp 23) (.tmp 24) 24 rfl B none 0 0 1 ps [q] (.slice (some ⟨vb, 0, none⟩) 1 1) rfl HN.out rfl HO.out rfl hsrc.out (by omega) HB.out ?_; intro a' c' w' ho' hg' hx')
    go_ret
    exact ⟨_, _, rfl, ho', hg'⟩
  · simp at hv'
    obtain ⟨rfl, e1, e2⟩ := hv'
    clear h hn hv hB hcap hb hg e1 e2
    go_enter Tryz.func27, Tryz.ntmps27
    go_wp2_with (at_builtin; refine wpList_appG Tryz.tyLs _ rfl (.tmp 23) (.tmp 24) 24 rfl B (some ⟨g, 0, none⟩) n cap 1 ps [q] (.slice (some ⟨vb, 0, none⟩) 1 1) rfl HN.out rfl HO.out rfl hsrc.out (by omega) HB.out ?_; intro a' c' w' ho' hg' hx')
    all_goals (go_ret; exact ⟨_, _, rfl, ho', hg'⟩)

set_option maxHeartbeats 1000000 in
theorem insert_any (a : Option Addr) (n cap B vb i : Nat) (ps : List Ls) (q : Ls) (w : World) (hn : n = ps.length) (hi : i ≤ n) (hl : n ≤ 1048576) (h : OwnG KLs 35 w B (.slice a n cap) ps)
    (hv : w.heap[vb]? = some (.cells (KLs.cs q).toArray 35)) (hvb : ∀ k, (Value.slice a n cap).ownBlock = some k → vb ≠ k) (hB : B ≤ w.heap.size) :
    Calls Tryz.prog 27 #[.slice a n cap, .int .i64 i, .slice (some ⟨vb, 0, none⟩) 1 1] w fun e w' => ∃ a' c', e = .returned (.slice a' (n + 1) c') ∧ OwnG KLs 35 w' B (.slice a' (n + 1) c') (ps.take i ++ [q] ++ ps.drop i) ∧ w.grownBy w' (Value.slice a n cap).ownBlock := by
  have hk6 : KLs.k = 6 := rfl
  by_cases hin : i = n
  · subst hin
    refine (insert_end a i cap B vb ps q w hn hl h hv hB).mono ?_
    rintro e w' ⟨a', c', he, ho, hg⟩
    refine ⟨a', c', he, ?_, hg⟩
    rw [hn, List.take_length, List.drop_length, List.append_nil]
    rw [hn] at ho
    exact ho
  · have hi' : i < n := by omega
    rcases h.2 with ⟨hv', hn0⟩ | ⟨g, c', cur, hv', hb, hg, _⟩
    · simp at hv'
      obtain ⟨_, h0, _⟩ := hv'
      omega
    · simp at hv'
      obtain ⟨rfl, e1, e2⟩ := hv'
      have hgl := (own_blk h).2
      by_cases hroom : n + 1 ≤ cap
      · refine (insert_room g n cap B vb i ps q w hn hi' hl h hv (hvb g rfl) hroom).mono ?_
        rintro e w' ⟨he, hw⟩
        subst hw
        refine ⟨_, _, he, ?_, setCells_grown _ _ _ (setCells_grown _ _ _ (grown_of' (Below.refl _ w).drew (some g)))⟩
        obtain ⟨R, raw, hR⟩ := OwnG.rawMore (OwnG.drewG h) hi hroom
        have := ins_rawA raw (by omega) hR q
        rw [← hn, hk6] at this
        exact this
      · refine (insert_grow g n cap B vb i ps q w hn hi' hl h hv (by omega)).mono ?_
        rintro e w' ⟨he, hw⟩
        subst hw
        refine ⟨_, _, he, ?_, ?_⟩
        · have htl : (gflat KLs (ps.take i)).length = i * 6 := by rw [gflat_len, List.length_take, Nat.min_eq_left (by omega)]; rfl
          have hG := grownCap_ge w (n + 1) cap 35
          have hGm := grownCap_le_maxLen w (n + 1) cap 35 (by unfold maxLen; omega)
          have hsz : (insRow w i n cap ps).size = grownCap w (n + 1) cap 35 * 6 := by
            unfold insRow
            rw [Array.size_append, Array.size_append, zeros_size, zeros_size, List.size_toArray, htl]
            omega
          have hszl : (insRow w i n cap ps).toList.length = grownCap w (n + 1) cap 35 * 6 := by rw [Array.length_toList, hsz]
          have raw : ((w.alloc (.cells (insRow w i n cap ps) 35)).drew.drew).ownsRow B 35 KLs.k (.slice (some ⟨w.heap.size, 0, none⟩) (ps.length + 1) (grownCap w (n + 1) cap 35)) (ps.length + 1) ((insRow w i n cap ps).toList.take ((ps.length + 1) * 6)) :=
            ⟨by rw [List.length_take, hszl]; show min ((ps.length + 1) * 6) _ = (ps.length + 1) * 6; omega, Or.inr ⟨w.heap.size, _, insRow w i n cap ps, rfl, hB, heap_alloc_new w _, by omega, hGm, hsz, rfl⟩⟩
          have hR : ((insRow w i n cap ps).toList.take ((ps.length + 1) * 6)).take (i * KLs.k) = gflat KLs (ps.take i) := by
            rw [List.take_take]
            have : min (i * KLs.k) ((ps.length + 1) * 6) = (gflat KLs (ps.take i)).length := by rw [htl]; show min (i * 6) _ = i * 6; omega
            rw [this]
            unfold insRow
            rw [Array.toList_append, Array.toList_append, List.append_assoc]
            exact List.take_left
          have := ins_rawB raw (by omega) hR q
          rw [← hn, hk6] at this
          rw [drew_setCells]
          exact this
        · refine grown_of' ?_ _
          rw [setCells_puts, setCells_puts]
          exact puts_below (Nat.le_refl _) _ _ _ (puts_below (Nat.le_refl _) _ _ _ (alloc_below w _).drew).drew

end Go.Proofs.YtddnofonodgneaaGreatDoor
