/-
  The program's placeToGrant.
-/
import Derived.Test.YtafbekjpmjjlpaaGreatDoorV6Hld
import Derived.Test.YtafbekjpmjjlpaaGreatDoorV6IRn
namespace Go.Proofs.YtafbekjpmjjlpaaGreatDoor
open Go.RowKit

def gokB (ls : List Ls) (T N : Int) (ad : Ad) (own : ByteArray) (span : Int) : Bool := bkB ls T N && (ad.ok && (ownB own && (((decide (1 ≤ span) && decide (span ≤ 1000)) && decide (N + span ≤ 1000000000)) && !(T == 1000000000))))
/-- The place where an address comes in. -/
def LowAt (ls : List Ls) (ad : Ad) (i : Nat) : Prop := i ≤ ls.length ∧ (∀ (j : Nat) (q : Ls), j < i → ls[j]? = some q → q.a.key < ad.key) ∧ (∀ (j : Nat) (q : Ls), i ≤ j → ls[j]? = some q → ad.key ≤ q.a.key)
theorem low_le {ls : List Ls} {ad : Ad} {i j : Nat} (h : LowAt ls ad i) (g : LowAt ls ad j) : i ≤ j := by
  rcases Nat.lt_or_ge j i with hl | hl
  · have hj : j < ls.length := by have := h.1; omega
    have h1 := h.2.1 j ls[j] hl (List.getElem?_eq_getElem hj)
    have h2 := g.2.2 j ls[j] (Nat.le_refl _) (List.getElem?_eq_getElem hj)
    omega
  · exact hl
theorem low_one {ls : List Ls} {ad : Ad} {i j : Nat} (h : LowAt ls ad i) (g : LowAt ls ad j) : i = j := Nat.le_antisymm (low_le h g) (low_le g h)

set_option maxRecDepth 10000 in
set_option maxHeartbeats 2000000 in
theorem ptg_form (a : Option Addr) (n c : Nat) (T N : Int) (ls : List Ls) (ad : Ad) (own : ByteArray) (span : Int) (w : World) (hn : n = ls.length) (hB : RowG KLs w a ls) (hl : n ≤ 1048576) (hst : ∀ q ∈ ls, q.t.size ≤ 9223372036854775807) (hos : own.size ≤ 9223372036854775807) (hr : gokB ls T N ad own span = false) :
    Calls Tryz.prog 22 #[.agg #[.slice a n c, .int .i64 T, .int .i64 N], .agg #[.bool ad.s, .int .i64 ad.H.toInt, .int .i64 ad.L.toInt], .string own, .int .i64 span] w fun e w' => e = .returned (.tuple #[.int .i64 0, .iface 67 (.agg #[.int .i64 10])]) ∧ Below w.heap.size w w' := by
  have HIm := hidP (fun W h => iBookOk_any a n c T N ls W hn (hB.later h) hl hst)
  have HAd := hidP (iAddrOk_any ad.s ad.H.toInt ad.L.toInt)
  have HOn := hidP (fun W => iOwnerOk_any own W hos)
  have HSn := hidP (spanOk_any a n c T N span)
  have hok : ad.ok = okB ad.s ad.H.toInt ad.L.toInt := rfl
  unfold gokB at hr
  rw [hok] at hr
  clear hB hn hst hok hos
  cases hb : bkB ls T N
  · rw [hb] at HIm
    clear hr
    go_enter Tryz.func22, Tryz.ntmps22
    go_wp2_with fail
    obtain ⟨bk0_W1, bk1_W1, bk2_W1⟩ := box3B w 30 (.slice a n c) (.int .i64 T) (.int .i64 N)
    have bkF_W1 : ∀ o, (w.alloc (.cells #[.slice a n c, .int .i64 T, .int .i64 N] 30)).frozen? ⟨w.heap.size, o, none⟩ = false := fun o => by simp [go_sem]
    have bkL_W1 : w.heap.size < (w.alloc (.cells #[.slice a n c, .int .i64 T, .int .i64 N] 30)).heap.size := by simp
    have ab_W1 := alloc_below w (.cells #[.slice a n c, .int .i64 T, .int .i64 N] 30)
    have as_W1 : Hid ((w.alloc (.cells #[.slice a n c, .int .i64 T, .int .i64 N] 30)).heap.size = w.heap.size + 1) := hidP (by simp)
    generalize w.alloc (.cells #[.slice a n c, .int .i64 T, .int .i64 N] 30) = W1 at *
    have acc_W1 := hidP (ab_W1)
    have sz_W1 : Hid (w.heap.size ≤ W1.heap.size) := hidP ab_W1.size
    clear ab_W1 
    obtain ⟨at0_W2, at1_W2, at2_W2⟩ := box3B W1 34 (.bool ad.s) (.int .i64 ad.H.toInt) (.int .i64 ad.L.toInt)
    have atF_W2 : ∀ o, (W1.alloc (.cells #[.bool ad.s, .int .i64 ad.H.toInt, .int .i64 ad.L.toInt] 34)).frozen? ⟨W1.heap.size, o, none⟩ = false := fun o => by simp [go_sem]
    have atL_W2 : W1.heap.size < (W1.alloc (.cells #[.bool ad.s, .int .i64 ad.H.toInt, .int .i64 ad.L.toInt] 34)).heap.size := by simp
    have ab_W2 := alloc_below W1 (.cells #[.bool ad.s, .int .i64 ad.H.toInt, .int .i64 ad.L.toInt] 34)
    have as_W2 : Hid ((W1.alloc (.cells #[.bool ad.s, .int .i64 ad.H.toInt, .int .i64 ad.L.toInt] 34)).heap.size = W1.heap.size + 1) := hidP (by simp)
    generalize W1.alloc (.cells #[.bool ad.s, .int .i64 ad.H.toInt, .int .i64 ad.L.toInt] 34) = W2 at *
    have bk0_W2 := (ab_W2.cell bkL_W1).trans bk0_W1
    have bk1_W2 := (ab_W2.cell bkL_W1).trans bk1_W1
    have bk2_W2 := (ab_W2.cell bkL_W1).trans bk2_W1
    have bkF_W2 : ∀ o, W2.frozen? ⟨w.heap.size, o, none⟩ = false := fun o => (ab_W2.frozen bkL_W1).trans (bkF_W1 o)
    have bkL_W2 : w.heap.size < W2.heap.size := Nat.lt_of_lt_of_le bkL_W1 ab_W2.size
    have acc_W2 := hidP (acc_W1.out.trans (ab_W2.mono acc_W1.out.size))
    have sz_W2 : Hid (W1.heap.size ≤ W2.heap.size) := hidP ab_W2.size
    clear ab_W2 bk0_W1 bk1_W1 bk2_W1 bkF_W1 bkL_W1 acc_W1
    rw [as_W1.out] at at0_W2 at1_W2 at2_W2 atL_W2
    have atF_W2' : ∀ o, W2.frozen? ⟨w.heap.size + 1, o, none⟩ = false := fun o => by have := atF_W2 o; rw [as_W1.out] at this; exact this
    clear atF_W2
    have atF_W2 := atF_W2'
    clear atF_W2'
    refine (HIm.out _ acc_W2.out).mono ?_
    rintro e w3 ⟨rfl, hb3⟩
    have bk0_w3 := (hb3.cell bkL_W2).trans bk0_W2
    have bk1_w3 := (hb3.cell bkL_W2).trans bk1_W2
    have bk2_w3 := (hb3.cell bkL_W2).trans bk2_W2
    have bkF_w3 : ∀ o, w3.frozen? ⟨w.heap.size, o, none⟩ = false := fun o => (hb3.frozen bkL_W2).trans (bkF_W2 o)
    have bkL_w3 : w.heap.size < w3.heap.size := Nat.lt_of_lt_of_le bkL_W2 hb3.size
    have at0_w3 := (hb3.cell atL_W2).trans at0_W2
    have at1_w3 := (hb3.cell atL_W2).trans at1_W2
    have at2_w3 := (hb3.cell atL_W2).trans at2_W2
    have atF_w3 : ∀ o, w3.frozen? ⟨w.heap.size + 1, o, none⟩ = false := fun o => (hb3.frozen atL_W2).trans (atF_W2 o)
    have atL_w3 : w.heap.size + 1 < w3.heap.size := Nat.lt_of_lt_of_le atL_W2 hb3.size
    have acc_w3 := hidP (acc_W2.out.trans (hb3.mono acc_W2.out.size))
    have sz_w3 : Hid (W2.heap.size ≤ w3.heap.size) := hidP hb3.size
    clear hb3 bk0_W2 bk1_W2 bk2_W2 bkF_W2 bkL_W2 at0_W2 at1_W2 at2_W2 atF_W2 atL_W2 acc_W2
    go_wp2_with fail
    refine bodyPost_ret (v := .tuple #[.int .i64 0, .iface 67 (.agg #[.int .i64 10])]) (by simp [results, Tryz.results22, go_sem]) rfl ?_
    exact ⟨rfl, acc_w3.out⟩
  · have hnow := bk_now hb
    rw [hb] at HIm hr
    rw [Bool.true_and] at hr
    clear hb
    cases ho : okB ad.s ad.H.toInt ad.L.toInt
    · rw [ho] at HAd
      clear hr
      go_enter Tryz.func22, Tryz.ntmps22
      go_wp2_with fail
      obtain ⟨bk0_W1, bk1_W1, bk2_W1⟩ := box3B w 30 (.slice a n c) (.int .i64 T) (.int .i64 N)
      have bkF_W1 : ∀ o, (w.alloc (.cells #[.slice a n c, .int .i64 T, .int .i64 N] 30)).frozen? ⟨w.heap.size, o, none⟩ = false := fun o => by simp [go_sem]
      have bkL_W1 : w.heap.size < (w.alloc (.cells #[.slice a n c, .int .i64 T, .int .i64 N] 30)).heap.size := by simp
      have ab_W1 := alloc_below w (.cells #[.slice a n c, .int .i64 T, .int .i64 N] 30)
      have as_W1 : Hid ((w.alloc (.cells #[.slice a n c, .int .i64 T, .int .i64 N] 30)).heap.size = w.heap.size + 1) := hidP (by simp)
      generalize w.alloc (.cells #[.slice a n c, .int .i64 T, .int .i64 N] 30) = W1 at *
      have acc_W1 := hidP (ab_W1)
      have sz_W1 : Hid (w.heap.size ≤ W1.heap.size) := hidP ab_W1.size
      clear ab_W1 
      obtain ⟨at0_W2, at1_W2, at2_W2⟩ := box3B W1 34 (.bool ad.s) (.int .i64 ad.H.toInt) (.int .i64 ad.L.toInt)
      have atF_W2 : ∀ o, (W1.alloc (.cells #[.bool ad.s, .int .i64 ad.H.toInt, .int .i64 ad.L.toInt] 34)).frozen? ⟨W1.heap.size, o, none⟩ = false := fun o => by simp [go_sem]
      have atL_W2 : W1.heap.size < (W1.alloc (.cells #[.bool ad.s, .int .i64 ad.H.toInt, .int .i64 ad.L.toInt] 34)).heap.size := by simp
      have ab_W2 := alloc_below W1 (.cells #[.bool ad.s, .int .i64 ad.H.toInt, .int .i64 ad.L.toInt] 34)
      have as_W2 : Hid ((W1.alloc (.cells #[.bool ad.s, .int .i64 ad.H.toInt, .int .i64 ad.L.toInt] 34)).heap.size = W1.heap.size + 1) := hidP (by simp)
      generalize W1.alloc (.cells #[.bool ad.s, .int .i64 ad.H.toInt, .int .i64 ad.L.toInt] 34) = W2 at *
      have bk0_W2 := (ab_W2.cell bkL_W1).trans bk0_W1
      have bk1_W2 := (ab_W2.cell bkL_W1).trans bk1_W1
      have bk2_W2 := (ab_W2.cell bkL_W1).trans bk2_W1
      have bkF_W2 : ∀ o, W2.frozen? ⟨w.heap.size, o, none⟩ = false := fun o => (ab_W2.frozen bkL_W1).trans (bkF_W1 o)
      have bkL_W2 : w.heap.size < W2.heap.size := Nat.lt_of_lt_of_le bkL_W1 ab_W2.size
      have acc_W2 := hidP (acc_W1.out.trans (ab_W2.mono acc_W1.out.size))
      have sz_W2 : Hid (W1.heap.size ≤ W2.heap.size) := hidP ab_W2.size
      clear ab_W2 bk0_W1 bk1_W1 bk2_W1 bkF_W1 bkL_W1 acc_W1
      rw [as_W1.out] at at0_W2 at1_W2 at2_W2 atL_W2
      have atF_W2' : ∀ o, W2.frozen? ⟨w.heap.size + 1, o, none⟩ = false := fun o => by have := atF_W2 o; rw [as_W1.out] at this; exact this
      clear atF_W2
      have atF_W2 := atF_W2'
      clear atF_W2'
      refine (HIm.out _ acc_W2.out).mono ?_
      rintro e w3 ⟨rfl, hb3⟩
      have bk0_w3 := (hb3.cell bkL_W2).trans bk0_W2
      have bk1_w3 := (hb3.cell bkL_W2).trans bk1_W2
      have bk2_w3 := (hb3.cell bkL_W2).trans bk2_W2
      have bkF_w3 : ∀ o, w3.frozen? ⟨w.heap.size, o, none⟩ = false := fun o => (hb3.frozen bkL_W2).trans (bkF_W2 o)
      have bkL_w3 : w.heap.size < w3.heap.size := Nat.lt_of_lt_of_le bkL_W2 hb3.size
      have at0_w3 := (hb3.cell atL_W2).trans at0_W2
      have at1_w3 := (hb3.cell atL_W2).trans at1_W2
      have at2_w3 := (hb3.cell atL_W2).trans at2_W2
      have atF_w3 : ∀ o, w3.frozen? ⟨w.heap.size + 1, o, none⟩ = false := fun o => (hb3.frozen atL_W2).trans (atF_W2 o)
      have atL_w3 : w.heap.size + 1 < w3.heap.size := Nat.lt_of_lt_of_le atL_W2 hb3.size
      have acc_w3 := hidP (acc_W2.out.trans (hb3.mono acc_W2.out.size))
      have sz_w3 : Hid (W2.heap.size ≤ w3.heap.size) := hidP hb3.size
      clear hb3 bk0_W2 bk1_W2 bk2_W2 bkF_W2 bkL_W2 at0_W2 at1_W2 at2_W2 atF_W2 atL_W2 acc_W2
      go_wp2_with fail
      refine (HAd.out _).mono ?_
      rintro e w4 ⟨rfl, hb4⟩
      have bk0_w4 := (hb4.cell bkL_w3).trans bk0_w3
      have bk1_w4 := (hb4.cell bkL_w3).trans bk1_w3
      have bk2_w4 := (hb4.cell bkL_w3).trans bk2_w3
      have bkF_w4 : ∀ o, w4.frozen? ⟨w.heap.size, o, none⟩ = false := fun o => (hb4.frozen bkL_w3).trans (bkF_w3 o)
      have bkL_w4 : w.heap.size < w4.heap.size := Nat.lt_of_lt_of_le bkL_w3 hb4.size
      have at0_w4 := (hb4.cell atL_w3).trans at0_w3
      have at1_w4 := (hb4.cell atL_w3).trans at1_w3
      have at2_w4 := (hb4.cell atL_w3).trans at2_w3
      have atF_w4 : ∀ o, w4.frozen? ⟨w.heap.size + 1, o, none⟩ = false := fun o => (hb4.frozen atL_w3).trans (atF_w3 o)
      have atL_w4 : w.heap.size + 1 < w4.heap.size := Nat.lt_of_lt_of_le atL_w3 hb4.size
      have acc_w4 := hidP (acc_w3.out.trans (hb4.mono acc_w3.out.size))
      have sz_w4 : Hid (w3.heap.size ≤ w4.heap.size) := hidP hb4.size
      clear hb4 bk0_w3 bk1_w3 bk2_w3 bkF_w3 bkL_w3 at0_w3 at1_w3 at2_w3 atF_w3 atL_w3 acc_w3
      go_wp2_with fail
      refine bodyPost_ret (v := .tuple #[.int .i64 0, .iface 67 (.agg #[.int .i64 10])]) (by simp [results, Tryz.results22, go_sem]) rfl ?_
      exact ⟨rfl, acc_w4.out⟩
    · rw [ho] at HAd hr
      rw [Bool.true_and] at hr
      clear ho
      cases hw : ownB own
      · rw [hw] at HOn
        clear hr
        go_enter Tryz.func22, Tryz.ntmps22
        go_wp2_with fail
        obtain ⟨bk0_W1, bk1_W1, bk2_W1⟩ := box3B w 30 (.slice a n c) (.int .i64 T) (.int .i64 N)
        have bkF_W1 : ∀ o, (w.alloc (.cells #[.slice a n c, .int .i64 T, .int .i64 N] 30)).frozen? ⟨w.heap.size, o, none⟩ = false := fun o => by simp [go_sem]
        have bkL_W1 : w.heap.size < (w.alloc (.cells #[.slice a n c, .int .i64 T, .int .i64 N] 30)).heap.size := by simp
        have ab_W1 := alloc_below w (.cells #[.slice a n c, .int .i64 T, .int .i64 N] 30)
        have as_W1 : Hid ((w.alloc (.cells #[.slice a n c, .int .i64 T, .int .i64 N] 30)).heap.size = w.heap.size + 1) := hidP (by simp)
        generalize w.alloc (.cells #[.slice a n c, .int .i64 T, .int .i64 N] 30) = W1 at *
        have acc_W1 := hidP (ab_W1)
        have sz_W1 : Hid (w.heap.size ≤ W1.heap.size) := hidP ab_W1.size
        clear ab_W1 
        obtain ⟨at0_W2, at1_W2, at2_W2⟩ := box3B W1 34 (.bool ad.s) (.int .i64 ad.H.toInt) (.int .i64 ad.L.toInt)
        have atF_W2 : ∀ o, (W1.alloc (.cells #[.bool ad.s, .int .i64 ad.H.toInt, .int .i64 ad.L.toInt] 34)).frozen? ⟨W1.heap.size, o, none⟩ = false := fun o => by simp [go_sem]
        have atL_W2 : W1.heap.size < (W1.alloc (.cells #[.bool ad.s, .int .i64 ad.H.toInt, .int .i64 ad.L.toInt] 34)).heap.size := by simp
        have ab_W2 := alloc_below W1 (.cells #[.bool ad.s, .int .i64 ad.H.toInt, .int .i64 ad.L.toInt] 34)
        have as_W2 : Hid ((W1.alloc (.cells #[.bool ad.s, .int .i64 ad.H.toInt, .int .i64 ad.L.toInt] 34)).heap.size = W1.heap.size + 1) := hidP (by simp)
        generalize W1.alloc (.cells #[.bool ad.s, .int .i64 ad.H.toInt, .int .i64 ad.L.toInt] 34) = W2 at *
        have bk0_W2 := (ab_W2.cell bkL_W1).trans bk0_W1
        have bk1_W2 := (ab_W2.cell bkL_W1).trans bk1_W1
        have bk2_W2 := (ab_W2.cell bkL_W1).trans bk2_W1
        have bkF_W2 : ∀ o, W2.frozen? ⟨w.heap.size, o, none⟩ = false := fun o => (ab_W2.frozen bkL_W1).trans (bkF_W1 o)
        have bkL_W2 : w.heap.size < W2.heap.size := Nat.lt_of_lt_of_le bkL_W1 ab_W2.size
        have acc_W2 := hidP (acc_W1.out.trans (ab_W2.mono acc_W1.out.size))
        have sz_W2 : Hid (W1.heap.size ≤ W2.heap.size) := hidP ab_W2.size
        clear ab_W2 bk0_W1 bk1_W1 bk2_W1 bkF_W1 bkL_W1 acc_W1
        rw [as_W1.out] at at0_W2 at1_W2 at2_W2 atL_W2
        have atF_W2' : ∀ o, W2.frozen? ⟨w.heap.size + 1, o, none⟩ = false := fun o => by have := atF_W2 o; rw [as_W1.out] at this; exact this
        clear atF_W2
        have atF_W2 := atF_W2'
        clear atF_W2'
        refine (HIm.out _ acc_W2.out).mono ?_
        rintro e w3 ⟨rfl, hb3⟩
        have bk0_w3 := (hb3.cell bkL_W2).trans bk0_W2
        have bk1_w3 := (hb3.cell bkL_W2).trans bk1_W2
        have bk2_w3 := (hb3.cell bkL_W2).trans bk2_W2
        have bkF_w3 : ∀ o, w3.frozen? ⟨w.heap.size, o, none⟩ = false := fun o => (hb3.frozen bkL_W2).trans (bkF_W2 o)
        have bkL_w3 : w.heap.size < w3.heap.size := Nat.lt_of_lt_of_le bkL_W2 hb3.size
        have at0_w3 := (hb3.cell atL_W2).trans at0_W2
        have at1_w3 := (hb3.cell atL_W2).trans at1_W2
        have at2_w3 := (hb3.cell atL_W2).trans at2_W2
        have atF_w3 : ∀ o, w3.frozen? ⟨w.heap.size + 1, o, none⟩ = false := fun o => (hb3.frozen atL_W2).trans (atF_W2 o)
        have atL_w3 : w.heap.size + 1 < w3.heap.size := Nat.lt_of_lt_of_le atL_W2 hb3.size
        have acc_w3 := hidP (acc_W2.out.trans (hb3.mono acc_W2.out.size))
        have sz_w3 : Hid (W2.heap.size ≤ w3.heap.size) := hidP hb3.size
        clear hb3 bk0_W2 bk1_W2 bk2_W2 bkF_W2 bkL_W2 at0_W2 at1_W2 at2_W2 atF_W2 atL_W2 acc_W2
        go_wp2_with fail
        refine (HAd.out _).mono ?_
        rintro e w4 ⟨rfl, hb4⟩
        have bk0_w4 := (hb4.cell bkL_w3).trans bk0_w3
        have bk1_w4 := (hb4.cell bkL_w3).trans bk1_w3
        have bk2_w4 := (hb4.cell bkL_w3).trans bk2_w3
        have bkF_w4 : ∀ o, w4.frozen? ⟨w.heap.size, o, none⟩ = false := fun o => (hb4.frozen bkL_w3).trans (bkF_w3 o)
        have bkL_w4 : w.heap.size < w4.heap.size := Nat.lt_of_lt_of_le bkL_w3 hb4.size
        have at0_w4 := (hb4.cell atL_w3).trans at0_w3
        have at1_w4 := (hb4.cell atL_w3).trans at1_w3
        have at2_w4 := (hb4.cell atL_w3).trans at2_w3
        have atF_w4 : ∀ o, w4.frozen? ⟨w.heap.size + 1, o, none⟩ = false := fun o => (hb4.frozen atL_w3).trans (atF_w3 o)
        have atL_w4 : w.heap.size + 1 < w4.heap.size := Nat.lt_of_lt_of_le atL_w3 hb4.size
        have acc_w4 := hidP (acc_w3.out.trans (hb4.mono acc_w3.out.size))
        have sz_w4 : Hid (w3.heap.size ≤ w4.heap.size) := hidP hb4.size
        clear hb4 bk0_w3 bk1_w3 bk2_w3 bkF_w3 bkL_w3 at0_w3 at1_w3 at2_w3 atF_w3 atL_w3 acc_w3
        go_wp2_with fail
        refine (HOn.out _).mono ?_
        rintro e w5 ⟨rfl, hb5⟩
        rw [hb5]
        clear hb5 w5
        go_wp2_with fail
        refine bodyPost_ret (v := .tuple #[.int .i64 0, .iface 67 (.agg #[.int .i64 10])]) (by simp [results, Tryz.results22, go_sem]) rfl ?_
        exact ⟨rfl, acc_w4.out⟩
      · rw [hw] at HOn hr
        rw [Bool.true_and] at hr
        clear hw
        cases hs : spB N span
        · rw [hs] at HSn
          clear hr
          go_enter Tryz.func22, Tryz.ntmps22
          go_wp2_with fail
          obtain ⟨bk0_W1, bk1_W1, bk2_W1⟩ := box3B w 30 (.slice a n c) (.int .i64 T) (.int .i64 N)
          have bkF_W1 : ∀ o, (w.alloc (.cells #[.slice a n c, .int .i64 T, .int .i64 N] 30)).frozen? ⟨w.heap.size, o, none⟩ = false := fun o => by simp [go_sem]
          have bkL_W1 : w.heap.size < (w.alloc (.cells #[.slice a n c, .int .i64 T, .int .i64 N] 30)).heap.size := by simp
          have ab_W1 := alloc_below w (.cells #[.slice a n c, .int .i64 T, .int .i64 N] 30)
          have as_W1 : Hid ((w.alloc (.cells #[.slice a n c, .int .i64 T, .int .i64 N] 30)).heap.size = w.heap.size + 1) := hidP (by simp)
          generalize w.alloc (.cells #[.slice a n c, .int .i64 T, .int .i64 N] 30) = W1 at *
          have acc_W1 := hidP (ab_W1)
          have sz_W1 : Hid (w.heap.size ≤ W1.heap.size) := hidP ab_W1.size
          clear ab_W1 
          obtain ⟨at0_W2, at1_W2, at2_W2⟩ := box3B W1 34 (.bool ad.s) (.int .i64 ad.H.toInt) (.int .i64 ad.L.toInt)
          have atF_W2 : ∀ o, (W1.alloc (.cells #[.bool ad.s, .int .i64 ad.H.toInt, .int .i64 ad.L.toInt] 34)).frozen? ⟨W1.heap.size, o, none⟩ = false := fun o => by simp [go_sem]
          have atL_W2 : W1.heap.size < (W1.alloc (.cells #[.bool ad.s, .int .i64 ad.H.toInt, .int .i64 ad.L.toInt] 34)).heap.size := by simp
          have ab_W2 := alloc_below W1 (.cells #[.bool ad.s, .int .i64 ad.H.toInt, .int .i64 ad.L.toInt] 34)
          have as_W2 : Hid ((W1.alloc (.cells #[.bool ad.s, .int .i64 ad.H.toInt, .int .i64 ad.L.toInt] 34)).heap.size = W1.heap.size + 1) := hidP (by simp)
          generalize W1.alloc (.cells #[.bool ad.s, .int .i64 ad.H.toInt, .int .i64 ad.L.toInt] 34) = W2 at *
          have bk0_W2 := (ab_W2.cell bkL_W1).trans bk0_W1
          have bk1_W2 := (ab_W2.cell bkL_W1).trans bk1_W1
          have bk2_W2 := (ab_W2.cell bkL_W1).trans bk2_W1
          have bkF_W2 : ∀ o, W2.frozen? ⟨w.heap.size, o, none⟩ = false := fun o => (ab_W2.frozen bkL_W1).trans (bkF_W1 o)
          have bkL_W2 : w.heap.size < W2.heap.size := Nat.lt_of_lt_of_le bkL_W1 ab_W2.size
          have acc_W2 := hidP (acc_W1.out.trans (ab_W2.mono acc_W1.out.size))
          have sz_W2 : Hid (W1.heap.size ≤ W2.heap.size) := hidP ab_W2.size
          clear ab_W2 bk0_W1 bk1_W1 bk2_W1 bkF_W1 bkL_W1 acc_W1
          rw [as_W1.out] at at0_W2 at1_W2 at2_W2 atL_W2
          have atF_W2' : ∀ o, W2.frozen? ⟨w.heap.size + 1, o, none⟩ = false := fun o => by have := atF_W2 o; rw [as_W1.out] at this; exact this
          clear atF_W2
          have atF_W2 := atF_W2'
          clear atF_W2'
          refine (HIm.out _ acc_W2.out).mono ?_
          rintro e w3 ⟨rfl, hb3⟩
          have bk0_w3 := (hb3.cell bkL_W2).trans bk0_W2
          have bk1_w3 := (hb3.cell bkL_W2).trans bk1_W2
          have bk2_w3 := (hb3.cell bkL_W2).trans bk2_W2
          have bkF_w3 : ∀ o, w3.frozen? ⟨w.heap.size, o, none⟩ = false := fun o => (hb3.frozen bkL_W2).trans (bkF_W2 o)
          have bkL_w3 : w.heap.size < w3.heap.size := Nat.lt_of_lt_of_le bkL_W2 hb3.size
          have at0_w3 := (hb3.cell atL_W2).trans at0_W2
          have at1_w3 := (hb3.cell atL_W2).trans at1_W2
          have at2_w3 := (hb3.cell atL_W2).trans at2_W2
          have atF_w3 : ∀ o, w3.frozen? ⟨w.heap.size + 1, o, none⟩ = false := fun o => (hb3.frozen atL_W2).trans (atF_W2 o)
          have atL_w3 : w.heap.size + 1 < w3.heap.size := Nat.lt_of_lt_of_le atL_W2 hb3.size
          have acc_w3 := hidP (acc_W2.out.trans (hb3.mono acc_W2.out.size))
          have sz_w3 : Hid (W2.heap.size ≤ w3.heap.size) := hidP hb3.size
          clear hb3 bk0_W2 bk1_W2 bk2_W2 bkF_W2 bkL_W2 at0_W2 at1_W2 at2_W2 atF_W2 atL_W2 acc_W2
          go_wp2_with fail
          refine (HAd.out _).mono ?_
          rintro e w4 ⟨rfl, hb4⟩
          have bk0_w4 := (hb4.cell bkL_w3).trans bk0_w3
          have bk1_w4 := (hb4.cell bkL_w3).trans bk1_w3
          have bk2_w4 := (hb4.cell bkL_w3).trans bk2_w3
          have bkF_w4 : ∀ o, w4.frozen? ⟨w.heap.size, o, none⟩ = false := fun o => (hb4.frozen bkL_w3).trans (bkF_w3 o)
          have bkL_w4 : w.heap.size < w4.heap.size := Nat.lt_of_lt_of_le bkL_w3 hb4.size
          have at0_w4 := (hb4.cell atL_w3).trans at0_w3
          have at1_w4 := (hb4.cell atL_w3).trans at1_w3
          have at2_w4 := (hb4.cell atL_w3).trans at2_w3
          have atF_w4 : ∀ o, w4.frozen? ⟨w.heap.size + 1, o, none⟩ = false := fun o => (hb4.frozen atL_w3).trans (atF_w3 o)
          have atL_w4 : w.heap.size + 1 < w4.heap.size := Nat.lt_of_lt_of_le atL_w3 hb4.size
          have acc_w4 := hidP (acc_w3.out.trans (hb4.mono acc_w3.out.size))
          have sz_w4 : Hid (w3.heap.size ≤ w4.heap.size) := hidP hb4.size
          clear hb4 bk0_w3 bk1_w3 bk2_w3 bkF_w3 bkL_w3 at0_w3 at1_w3 at2_w3 atF_w3 atL_w3 acc_w3
          go_wp2_with fail
          refine (HOn.out _).mono ?_
          rintro e w5 ⟨rfl, hb5⟩
          rw [hb5]
          clear hb5 w5
          go_wp2_with fail
          refine (HSn.out _).mono ?_
          rintro e w6 ⟨rfl, hb6⟩
          have bk0_w6 := (hb6.cell bkL_w4).trans bk0_w4
          have bk1_w6 := (hb6.cell bkL_w4).trans bk1_w4
          have bk2_w6 := (hb6.cell bkL_w4).trans bk2_w4
          have bkF_w6 : ∀ o, w6.frozen? ⟨w.heap.size, o, none⟩ = false := fun o => (hb6.frozen bkL_w4).trans (bkF_w4 o)
          have bkL_w6 : w.heap.size < w6.heap.size := Nat.lt_of_lt_of_le bkL_w4 hb6.size
          have at0_w6 := (hb6.cell atL_w4).trans at0_w4
          have at1_w6 := (hb6.cell atL_w4).trans at1_w4
          have at2_w6 := (hb6.cell atL_w4).trans at2_w4
          have atF_w6 : ∀ o, w6.frozen? ⟨w.heap.size + 1, o, none⟩ = false := fun o => (hb6.frozen atL_w4).trans (atF_w4 o)
          have atL_w6 : w.heap.size + 1 < w6.heap.size := Nat.lt_of_lt_of_le atL_w4 hb6.size
          have acc_w6 := hidP (acc_w4.out.trans (hb6.mono acc_w4.out.size))
          have sz_w6 : Hid (w4.heap.size ≤ w6.heap.size) := hidP hb6.size
          clear hb6 bk0_w4 bk1_w4 bk2_w4 bkF_w4 bkL_w4 at0_w4 at1_w4 at2_w4 atF_w4 atL_w4 acc_w4
          go_wp2_with fail
          refine bodyPost_ret (v := .tuple #[.int .i64 0, .iface 67 (.agg #[.int .i64 10])]) (by simp [results, Tryz.results22, go_sem]) rfl ?_
          exact ⟨rfl, acc_w6.out⟩
        · rw [hs] at HSn
          have hT : (T == 1000000000) = true := by
            unfold spB at hs
            rw [Bool.and_eq_true] at hs
            rw [(sp_wrap hnow hs.1).2] at hs
            rw [hs.1, hs.2] at hr
            simpa using hr
          clear hr hs
          go_enter Tryz.func22, Tryz.ntmps22
          go_wp2_with fail
          obtain ⟨bk0_W1, bk1_W1, bk2_W1⟩ := box3B w 30 (.slice a n c) (.int .i64 T) (.int .i64 N)
          have bkF_W1 : ∀ o, (w.alloc (.cells #[.slice a n c, .int .i64 T, .int .i64 N] 30)).frozen? ⟨w.heap.size, o, none⟩ = false := fun o => by simp [go_sem]
          have bkL_W1 : w.heap.size < (w.alloc (.cells #[.slice a n c, .int .i64 T, .int .i64 N] 30)).heap.size := by simp
          have ab_W1 := alloc_below w (.cells #[.slice a n c, .int .i64 T, .int .i64 N] 30)
          have as_W1 : Hid ((w.alloc (.cells #[.slice a n c, .int .i64 T, .int .i64 N] 30)).heap.size = w.heap.size + 1) := hidP (by simp)
          generalize w.alloc (.cells #[.slice a n c, .int .i64 T, .int .i64 N] 30) = W1 at *
          have acc_W1 := hidP (ab_W1)
          have sz_W1 : Hid (w.heap.size ≤ W1.heap.size) := hidP ab_W1.size
          clear ab_W1 
          obtain ⟨at0_W2, at1_W2, at2_W2⟩ := box3B W1 34 (.bool ad.s) (.int .i64 ad.H.toInt) (.int .i64 ad.L.toInt)
          have atF_W2 : ∀ o, (W1.alloc (.cells #[.bool ad.s, .int .i64 ad.H.toInt, .int .i64 ad.L.toInt] 34)).frozen? ⟨W1.heap.size, o, none⟩ = false := fun o => by simp [go_sem]
          have atL_W2 : W1.heap.size < (W1.alloc (.cells #[.bool ad.s, .int .i64 ad.H.toInt, .int .i64 ad.L.toInt] 34)).heap.size := by simp
          have ab_W2 := alloc_below W1 (.cells #[.bool ad.s, .int .i64 ad.H.toInt, .int .i64 ad.L.toInt] 34)
          have as_W2 : Hid ((W1.alloc (.cells #[.bool ad.s, .int .i64 ad.H.toInt, .int .i64 ad.L.toInt] 34)).heap.size = W1.heap.size + 1) := hidP (by simp)
          generalize W1.alloc (.cells #[.bool ad.s, .int .i64 ad.H.toInt, .int .i64 ad.L.toInt] 34) = W2 at *
          have bk0_W2 := (ab_W2.cell bkL_W1).trans bk0_W1
          have bk1_W2 := (ab_W2.cell bkL_W1).trans bk1_W1
          have bk2_W2 := (ab_W2.cell bkL_W1).trans bk2_W1
          have bkF_W2 : ∀ o, W2.frozen? ⟨w.heap.size, o, none⟩ = false := fun o => (ab_W2.frozen bkL_W1).trans (bkF_W1 o)
          have bkL_W2 : w.heap.size < W2.heap.size := Nat.lt_of_lt_of_le bkL_W1 ab_W2.size
          have acc_W2 := hidP (acc_W1.out.trans (ab_W2.mono acc_W1.out.size))
          have sz_W2 : Hid (W1.heap.size ≤ W2.heap.size) := hidP ab_W2.size
          clear ab_W2 bk0_W1 bk1_W1 bk2_W1 bkF_W1 bkL_W1 acc_W1
          rw [as_W1.out] at at0_W2 at1_W2 at2_W2 atL_W2
          have atF_W2' : ∀ o, W2.frozen? ⟨w.heap.size + 1, o, none⟩ = false := fun o => by have := atF_W2 o; rw [as_W1.out] at this; exact this
          clear atF_W2
          have atF_W2 := atF_W2'
          clear atF_W2'
          refine (HIm.out _ acc_W2.out).mono ?_
          rintro e w3 ⟨rfl, hb3⟩
          have bk0_w3 := (hb3.cell bkL_W2).trans bk0_W2
          have bk1_w3 := (hb3.cell bkL_W2).trans bk1_W2
          have bk2_w3 := (hb3.cell bkL_W2).trans bk2_W2
          have bkF_w3 : ∀ o, w3.frozen? ⟨w.heap.size, o, none⟩ = false := fun o => (hb3.frozen bkL_W2).trans (bkF_W2 o)
          have bkL_w3 : w.heap.size < w3.heap.size := Nat.lt_of_lt_of_le bkL_W2 hb3.size
          have at0_w3 := (hb3.cell atL_W2).trans at0_W2
          have at1_w3 := (hb3.cell atL_W2).trans at1_W2
          have at2_w3 := (hb3.cell atL_W2).trans at2_W2
          have atF_w3 : ∀ o, w3.frozen? ⟨w.heap.size + 1, o, none⟩ = false := fun o => (hb3.frozen atL_W2).trans (atF_W2 o)
          have atL_w3 : w.heap.size + 1 < w3.heap.size := Nat.lt_of_lt_of_le atL_W2 hb3.size
          have acc_w3 := hidP (acc_W2.out.trans (hb3.mono acc_W2.out.size))
          have sz_w3 : Hid (W2.heap.size ≤ w3.heap.size) := hidP hb3.size
          clear hb3 bk0_W2 bk1_W2 bk2_W2 bkF_W2 bkL_W2 at0_W2 at1_W2 at2_W2 atF_W2 atL_W2 acc_W2
          go_wp2_with fail
          refine (HAd.out _).mono ?_
          rintro e w4 ⟨rfl, hb4⟩
          have bk0_w4 := (hb4.cell bkL_w3).trans bk0_w3
          have bk1_w4 := (hb4.cell bkL_w3).trans bk1_w3
          have bk2_w4 := (hb4.cell bkL_w3).trans bk2_w3
          have bkF_w4 : ∀ o, w4.frozen? ⟨w.heap.size, o, none⟩ = false := fun o => (hb4.frozen bkL_w3).trans (bkF_w3 o)
          have bkL_w4 : w.heap.size < w4.heap.size := Nat.lt_of_lt_of_le bkL_w3 hb4.size
          have at0_w4 := (hb4.cell atL_w3).trans at0_w3
          have at1_w4 := (hb4.cell atL_w3).trans at1_w3
          have at2_w4 := (hb4.cell atL_w3).trans at2_w3
          have atF_w4 : ∀ o, w4.frozen? ⟨w.heap.size + 1, o, none⟩ = false := fun o => (hb4.frozen atL_w3).trans (atF_w3 o)
          have atL_w4 : w.heap.size + 1 < w4.heap.size := Nat.lt_of_lt_of_le atL_w3 hb4.size
          have acc_w4 := hidP (acc_w3.out.trans (hb4.mono acc_w3.out.size))
          have sz_w4 : Hid (w3.heap.size ≤ w4.heap.size) := hidP hb4.size
          clear hb4 bk0_w3 bk1_w3 bk2_w3 bkF_w3 bkL_w3 at0_w3 at1_w3 at2_w3 atF_w3 atL_w3 acc_w3
          go_wp2_with fail
          refine (HOn.out _).mono ?_
          rintro e w5 ⟨rfl, hb5⟩
          rw [hb5]
          clear hb5 w5
          go_wp2_with fail
          refine (HSn.out _).mono ?_
          rintro e w6 ⟨rfl, hb6⟩
          have bk0_w6 := (hb6.cell bkL_w4).trans bk0_w4
          have bk1_w6 := (hb6.cell bkL_w4).trans bk1_w4
          have bk2_w6 := (hb6.cell bkL_w4).trans bk2_w4
          have bkF_w6 : ∀ o, w6.frozen? ⟨w.heap.size, o, none⟩ = false := fun o => (hb6.frozen bkL_w4).trans (bkF_w4 o)
          have bkL_w6 : w.heap.size < w6.heap.size := Nat.lt_of_lt_of_le bkL_w4 hb6.size
          have at0_w6 := (hb6.cell atL_w4).trans at0_w4
          have at1_w6 := (hb6.cell atL_w4).trans at1_w4
          have at2_w6 := (hb6.cell atL_w4).trans at2_w4
          have atF_w6 : ∀ o, w6.frozen? ⟨w.heap.size + 1, o, none⟩ = false := fun o => (hb6.frozen atL_w4).trans (atF_w4 o)
          have atL_w6 : w.heap.size + 1 < w6.heap.size := Nat.lt_of_lt_of_le atL_w4 hb6.size
          have acc_w6 := hidP (acc_w4.out.trans (hb6.mono acc_w4.out.size))
          have sz_w6 : Hid (w4.heap.size ≤ w6.heap.size) := hidP hb6.size
          clear hb6 bk0_w4 bk1_w4 bk2_w4 bkF_w4 bkL_w4 at0_w4 at1_w4 at2_w4 atF_w4 atL_w4 acc_w4
          go_wp2_with fail
          refine bodyPost_ret (v := .tuple #[.int .i64 0, .iface 67 (.agg #[.int .i64 10])]) (by simp [results, Tryz.results22, go_sem]) rfl ?_
          exact ⟨rfl, acc_w6.out⟩

set_option maxRecDepth 10000 in
set_option maxHeartbeats 2000000 in
theorem ptg_held (a : Option Addr) (n c : Nat) (T N : Int) (ls : List Ls) (ad : Ad) (own : ByteArray) (span : Int) (w : World) (hn : n = ls.length) (hB : RowG KLs w a ls) (hl : n ≤ 1048576) (hst : ∀ q ∈ ls, q.t.size ≤ 9223372036854775807) (hos : own.size ≤ 9223372036854775807) (hr : gokB ls T N ad own span = true) (I : Nat) (hx : fxL ls ad = some I) :
    Calls Tryz.prog 22 #[.agg #[.slice a n c, .int .i64 T, .int .i64 N], .agg #[.bool ad.s, .int .i64 ad.H.toInt, .int .i64 ad.L.toInt], .string own, .int .i64 span] w fun e w' => e = .returned (.tuple #[.int .i64 0, .iface 67 (.agg #[.int .i64 11])]) ∧ Below w.heap.size w w' := by
  have HIm := hidP (fun W h => iBookOk_any a n c T N ls W hn (hB.later h) hl hst)
  have HAd := hidP (iAddrOk_any ad.s ad.H.toInt ad.L.toInt)
  have HOn := hidP (fun W => iOwnerOk_any own W hos)
  have HSn := hidP (spanOk_any a n c T N span)
  have hok : ad.ok = okB ad.s ad.H.toInt ad.L.toInt := rfl
  unfold gokB at hr
  simp only [Bool.and_eq_true] at hr
  obtain ⟨hb, ho, hw, ⟨⟨h1, h1b⟩, h2⟩, hT0⟩ := hr
  have h1c : (decide (1 ≤ span) && decide (span ≤ 1000)) = true := by rw [h1, h1b]; rfl
  have hsw := sp_wrap (bk_now hb) h1c
  have hs : spB N span = true := by unfold spB; rw [hsw.2, h1c, h2]; rfl
  have hT : (T == 1000000000) = false := by simpa using hT0
  have hT' : ¬ T = 1000000000 := by simpa using hT
  have hsr := (srt_bk hb).1
  have HPl := hidP (fun W h => placeOfLease_any a n c T N ls ad W hn (hB.later h) hl hsr ho)
  rw [hok] at ho
  rw [hb] at HIm
  rw [ho] at HAd
  rw [hw] at HOn
  rw [hs] at HSn
  have HS := hidP hsr
  have HN := hidP hn
  clear hB hn hst hok hos hb ho hw h1 h1b h1c h2 hT0 hsw hs hsr
  go_enter Tryz.func22, Tryz.ntmps22
  go_wp2_with fail
  obtain ⟨bk0_W1, bk1_W1, bk2_W1⟩ := box3B w 30 (.slice a n c) (.int .i64 T) (.int .i64 N)
  have bkF_W1 : ∀ o, (w.alloc (.cells #[.slice a n c, .int .i64 T, .int .i64 N] 30)).frozen? ⟨w.heap.size, o, none⟩ = false := fun o => by simp [go_sem]
  have bkL_W1 : w.heap.size < (w.alloc (.cells #[.slice a n c, .int .i64 T, .int .i64 N] 30)).heap.size := by simp
  have ab_W1 := alloc_below w (.cells #[.slice a n c, .int .i64 T, .int .i64 N] 30)
  have as_W1 : Hid ((w.alloc (.cells #[.slice a n c, .int .i64 T, .int .i64 N] 30)).heap.size = w.heap.size + 1) := hidP (by simp)
  generalize w.alloc (.cells #[.slice a n c, .int .i64 T, .int .i64 N] 30) = W1 at *
  have acc_W1 := hidP (ab_W1)
  have sz_W1 : Hid (w.heap.size ≤ W1.heap.size) := hidP ab_W1.size
  clear ab_W1 
  obtain ⟨at0_W2, at1_W2, at2_W2⟩ := box3B W1 34 (.bool ad.s) (.int .i64 ad.H.toInt) (.int .i64 ad.L.toInt)
  have atF_W2 : ∀ o, (W1.alloc (.cells #[.bool ad.s, .int .i64 ad.H.toInt, .int .i64 ad.L.toInt] 34)).frozen? ⟨W1.heap.size, o, none⟩ = false := fun o => by simp [go_sem]
  have atL_W2 : W1.heap.size < (W1.alloc (.cells #[.bool ad.s, .int .i64 ad.H.toInt, .int .i64 ad.L.toInt] 34)).heap.size := by simp
  have ab_W2 := alloc_below W1 (.cells #[.bool ad.s, .int .i64 ad.H.toInt, .int .i64 ad.L.toInt] 34)
  have as_W2 : Hid ((W1.alloc (.cells #[.bool ad.s, .int .i64 ad.H.toInt, .int .i64 ad.L.toInt] 34)).heap.size = W1.heap.size + 1) := hidP (by simp)
  generalize W1.alloc (.cells #[.bool ad.s, .int .i64 ad.H.toInt, .int .i64 ad.L.toInt] 34) = W2 at *
  have bk0_W2 := (ab_W2.cell bkL_W1).trans bk0_W1
  have bk1_W2 := (ab_W2.cell bkL_W1).trans bk1_W1
  have bk2_W2 := (ab_W2.cell bkL_W1).trans bk2_W1
  have bkF_W2 : ∀ o, W2.frozen? ⟨w.heap.size, o, none⟩ = false := fun o => (ab_W2.frozen bkL_W1).trans (bkF_W1 o)
  have bkL_W2 : w.heap.size < W2.heap.size := Nat.lt_of_lt_of_le bkL_W1 ab_W2.size
  have acc_W2 := hidP (acc_W1.out.trans (ab_W2.mono acc_W1.out.size))
  have sz_W2 : Hid (W1.heap.size ≤ W2.heap.size) := hidP ab_W2.size
  clear ab_W2 bk0_W1 bk1_W1 bk2_W1 bkF_W1 bkL_W1 acc_W1
  rw [as_W1.out] at at0_W2 at1_W2 at2_W2 atL_W2
  have atF_W2' : ∀ o, W2.frozen? ⟨w.heap.size + 1, o, none⟩ = false := fun o => by have := atF_W2 o; rw [as_W1.out] at this; exact this
  clear atF_W2
  have atF_W2 := atF_W2'
  clear atF_W2'
  refine (HIm.out _ acc_W2.out).mono ?_
  rintro e w3 ⟨rfl, hb3⟩
  have bk0_w3 := (hb3.cell bkL_W2).trans bk0_W2
  have bk1_w3 := (hb3.cell bkL_W2).trans bk1_W2
  have bk2_w3 := (hb3.cell bkL_W2).trans bk2_W2
  have bkF_w3 : ∀ o, w3.frozen? ⟨w.heap.size, o, none⟩ = false := fun o => (hb3.frozen bkL_W2).trans (bkF_W2 o)
  have bkL_w3 : w.heap.size < w3.heap.size := Nat.lt_of_lt_of_le bkL_W2 hb3.size
  have at0_w3 := (hb3.cell atL_W2).trans at0_W2
  have at1_w3 := (hb3.cell atL_W2).trans at1_W2
  have at2_w3 := (hb3.cell atL_W2).trans at2_W2
  have atF_w3 : ∀ o, w3.frozen? ⟨w.heap.size + 1, o, none⟩ = false := fun o => (hb3.frozen atL_W2).trans (atF_W2 o)
  have atL_w3 : w.heap.size + 1 < w3.heap.size := Nat.lt_of_lt_of_le atL_W2 hb3.size
  have acc_w3 := hidP (acc_W2.out.trans (hb3.mono acc_W2.out.size))
  have sz_w3 : Hid (W2.heap.size ≤ w3.heap.size) := hidP hb3.size
  clear hb3 bk0_W2 bk1_W2 bk2_W2 bkF_W2 bkL_W2 at0_W2 at1_W2 at2_W2 atF_W2 atL_W2 acc_W2
  go_wp2_with fail
  refine (HAd.out _).mono ?_
  rintro e w4 ⟨rfl, hb4⟩
  have bk0_w4 := (hb4.cell bkL_w3).trans bk0_w3
  have bk1_w4 := (hb4.cell bkL_w3).trans bk1_w3
  have bk2_w4 := (hb4.cell bkL_w3).trans bk2_w3
  have bkF_w4 : ∀ o, w4.frozen? ⟨w.heap.size, o, none⟩ = false := fun o => (hb4.frozen bkL_w3).trans (bkF_w3 o)
  have bkL_w4 : w.heap.size < w4.heap.size := Nat.lt_of_lt_of_le bkL_w3 hb4.size
  have at0_w4 := (hb4.cell atL_w3).trans at0_w3
  have at1_w4 := (hb4.cell atL_w3).trans at1_w3
  have at2_w4 := (hb4.cell atL_w3).trans at2_w3
  have atF_w4 : ∀ o, w4.frozen? ⟨w.heap.size + 1, o, none⟩ = false := fun o => (hb4.frozen atL_w3).trans (atF_w3 o)
  have atL_w4 : w.heap.size + 1 < w4.heap.size := Nat.lt_of_lt_of_le atL_w3 hb4.size
  have acc_w4 := hidP (acc_w3.out.trans (hb4.mono acc_w3.out.size))
  have sz_w4 : Hid (w3.heap.size ≤ w4.heap.size) := hidP hb4.size
  clear hb4 bk0_w3 bk1_w3 bk2_w3 bkF_w3 bkL_w3 at0_w3 at1_w3 at2_w3 atF_w3 atL_w3 acc_w3
  go_wp2_with fail
  refine (HOn.out _).mono ?_
  rintro e w5 ⟨rfl, hb5⟩
  rw [hb5]
  clear hb5 w5
  go_wp2_with fail
  refine (HSn.out _).mono ?_
  rintro e w6 ⟨rfl, hb6⟩
  have bk0_w6 := (hb6.cell bkL_w4).trans bk0_w4
  have bk1_w6 := (hb6.cell bkL_w4).trans bk1_w4
  have bk2_w6 := (hb6.cell bkL_w4).trans bk2_w4
  have bkF_w6 : ∀ o, w6.frozen? ⟨w.heap.size, o, none⟩ = false := fun o => (hb6.frozen bkL_w4).trans (bkF_w4 o)
  have bkL_w6 : w.heap.size < w6.heap.size := Nat.lt_of_lt_of_le bkL_w4 hb6.size
  have at0_w6 := (hb6.cell atL_w4).trans at0_w4
  have at1_w6 := (hb6.cell atL_w4).trans at1_w4
  have at2_w6 := (hb6.cell atL_w4).trans at2_w4
  have atF_w6 : ∀ o, w6.frozen? ⟨w.heap.size + 1, o, none⟩ = false := fun o => (hb6.frozen atL_w4).trans (atF_w4 o)
  have atL_w6 : w.heap.size + 1 < w6.heap.size := Nat.lt_of_lt_of_le atL_w4 hb6.size
  have acc_w6 := hidP (acc_w4.out.trans (hb6.mono acc_w4.out.size))
  have sz_w6 : Hid (w4.heap.size ≤ w6.heap.size) := hidP hb6.size
  clear hb6 bk0_w4 bk1_w4 bk2_w4 bkF_w4 bkL_w4 at0_w4 at1_w4 at2_w4 atF_w4 atL_w4 acc_w4
  go_wp2_with fail
  refine (HPl.out _ acc_w6.out).mono ?_
  rintro e w7 ⟨⟨i, hi, hlow, hhig, rfl⟩, hb7⟩
  have HX := hidP (fx_bin HS.out hlow hhig)
  have HLo := hidP (And.intro hlow hhig)
  clear hlow hhig
  have bk0_w7 := (hb7.cell bkL_w6).trans bk0_w6
  have bk1_w7 := (hb7.cell bkL_w6).trans bk1_w6
  have bk2_w7 := (hb7.cell bkL_w6).trans bk2_w6
  have bkF_w7 : ∀ o, w7.frozen? ⟨w.heap.size, o, none⟩ = false := fun o => (hb7.frozen bkL_w6).trans (bkF_w6 o)
  have bkL_w7 : w.heap.size < w7.heap.size := Nat.lt_of_lt_of_le bkL_w6 hb7.size
  have at0_w7 := (hb7.cell atL_w6).trans at0_w6
  have at1_w7 := (hb7.cell atL_w6).trans at1_w6
  have at2_w7 := (hb7.cell atL_w6).trans at2_w6
  have atF_w7 : ∀ o, w7.frozen? ⟨w.heap.size + 1, o, none⟩ = false := fun o => (hb7.frozen atL_w6).trans (atF_w6 o)
  have atL_w7 : w.heap.size + 1 < w7.heap.size := Nat.lt_of_lt_of_le atL_w6 hb7.size
  have acc_w7 := hidP (acc_w6.out.trans (hb7.mono acc_w6.out.size))
  have sz_w7 : Hid (w6.heap.size ≤ w7.heap.size) := hidP hb7.size
  clear hb7 bk0_w6 bk1_w6 bk2_w6 bkF_w6 bkL_w6 at0_w6 at1_w6 at2_w6 atF_w6 atL_w6 acc_w6
  have hf : fndL ls ad i = true := by
    rcases HX.out with ⟨h, _⟩ | ⟨_, h⟩
    · exact h
    · rw [hx] at h; cases h
  rw [hf]
  clear hf
  go_wp2_with fail
  refine bodyPost_ret (v := .tuple #[.int .i64 0, .iface 67 (.agg #[.int .i64 11])]) (by simp [results, Tryz.results22, go_sem]) rfl ?_
  exact ⟨rfl, acc_w7.out⟩

set_option maxRecDepth 10000 in
set_option maxHeartbeats 2000000 in
theorem ptg_many (a : Option Addr) (n c : Nat) (T N : Int) (ls : List Ls) (ad : Ad) (own : ByteArray) (span : Int) (w : World) (hn : n = ls.length) (hB : RowG KLs w a ls) (hl : n ≤ 1048576) (hst : ∀ q ∈ ls, q.t.size ≤ 9223372036854775807) (hos : own.size ≤ 9223372036854775807) (hr : gokB ls T N ad own span = true) (hx : fxL ls ad = none) (h80 : n = 80) :
    Calls Tryz.prog 22 #[.agg #[.slice a n c, .int .i64 T, .int .i64 N], .agg #[.bool ad.s, .int .i64 ad.H.toInt, .int .i64 ad.L.toInt], .string own, .int .i64 span] w fun e w' => e = .returned (.tuple #[.int .i64 0, .iface 67 (.agg #[.int .i64 12])]) ∧ Below w.heap.size w w' := by
  have HIm := hidP (fun W h => iBookOk_any a n c T N ls W hn (hB.later h) hl hst)
  have HAd := hidP (iAddrOk_any ad.s ad.H.toInt ad.L.toInt)
  have HOn := hidP (fun W => iOwnerOk_any own W hos)
  have HSn := hidP (spanOk_any a n c T N span)
  have hok : ad.ok = okB ad.s ad.H.toInt ad.L.toInt := rfl
  unfold gokB at hr
  simp only [Bool.and_eq_true] at hr
  obtain ⟨hb, ho, hw, ⟨⟨h1, h1b⟩, h2⟩, hT0⟩ := hr
  have h1c : (decide (1 ≤ span) && decide (span ≤ 1000)) = true := by rw [h1, h1b]; rfl
  have hsw := sp_wrap (bk_now hb) h1c
  have hs : spB N span = true := by unfold spB; rw [hsw.2, h1c, h2]; rfl
  have hT : (T == 1000000000) = false := by simpa using hT0
  have hT' : ¬ T = 1000000000 := by simpa using hT
  have hsr := (srt_bk hb).1
  have HPl := hidP (fun W h => placeOfLease_any a n c T N ls ad W hn (hB.later h) hl hsr ho)
  rw [hok] at ho
  rw [hb] at HIm
  rw [ho] at HAd
  rw [hw] at HOn
  rw [hs] at HSn
  have HS := hidP hsr
  have HN := hidP hn
  clear hB hn hst hok hos hb ho hw h1 h1b h1c h2 hT0 hsw hs hsr
  have H80 := hidP h80
  clear h80
  go_enter Tryz.func22, Tryz.ntmps22
  go_wp2_with fail
  obtain ⟨bk0_W1, bk1_W1, bk2_W1⟩ := box3B w 30 (.slice a n c) (.int .i64 T) (.int .i64 N)
  have bkF_W1 : ∀ o, (w.alloc (.cells #[.slice a n c, .int .i64 T, .int .i64 N] 30)).frozen? ⟨w.heap.size, o, none⟩ = false := fun o => by simp [go_sem]
  have bkL_W1 : w.heap.size < (w.alloc (.cells #[.slice a n c, .int .i64 T, .int .i64 N] 30)).heap.size := by simp
  have ab_W1 := alloc_below w (.cells #[.slice a n c, .int .i64 T, .int .i64 N] 30)
  have as_W1 : Hid ((w.alloc (.cells #[.slice a n c, .int .i64 T, .int .i64 N] 30)).heap.size = w.heap.size + 1) := hidP (by simp)
  generalize w.alloc (.cells #[.slice a n c, .int .i64 T, .int .i64 N] 30) = W1 at *
  have acc_W1 := hidP (ab_W1)
  have sz_W1 : Hid (w.heap.size ≤ W1.heap.size) := hidP ab_W1.size
  clear ab_W1 
  obtain ⟨at0_W2, at1_W2, at2_W2⟩ := box3B W1 34 (.bool ad.s) (.int .i64 ad.H.toInt) (.int .i64 ad.L.toInt)
  have atF_W2 : ∀ o, (W1.alloc (.cells #[.bool ad.s, .int .i64 ad.H.toInt, .int .i64 ad.L.toInt] 34)).frozen? ⟨W1.heap.size, o, none⟩ = false := fun o => by simp [go_sem]
  have atL_W2 : W1.heap.size < (W1.alloc (.cells #[.bool ad.s, .int .i64 ad.H.toInt, .int .i64 ad.L.toInt] 34)).heap.size := by simp
  have ab_W2 := alloc_below W1 (.cells #[.bool ad.s, .int .i64 ad.H.toInt, .int .i64 ad.L.toInt] 34)
  have as_W2 : Hid ((W1.alloc (.cells #[.bool ad.s, .int .i64 ad.H.toInt, .int .i64 ad.L.toInt] 34)).heap.size = W1.heap.size + 1) := hidP (by simp)
  generalize W1.alloc (.cells #[.bool ad.s, .int .i64 ad.H.toInt, .int .i64 ad.L.toInt] 34) = W2 at *
  have bk0_W2 := (ab_W2.cell bkL_W1).trans bk0_W1
  have bk1_W2 := (ab_W2.cell bkL_W1).trans bk1_W1
  have bk2_W2 := (ab_W2.cell bkL_W1).trans bk2_W1
  have bkF_W2 : ∀ o, W2.frozen? ⟨w.heap.size, o, none⟩ = false := fun o => (ab_W2.frozen bkL_W1).trans (bkF_W1 o)
  have bkL_W2 : w.heap.size < W2.heap.size := Nat.lt_of_lt_of_le bkL_W1 ab_W2.size
  have acc_W2 := hidP (acc_W1.out.trans (ab_W2.mono acc_W1.out.size))
  have sz_W2 : Hid (W1.heap.size ≤ W2.heap.size) := hidP ab_W2.size
  clear ab_W2 bk0_W1 bk1_W1 bk2_W1 bkF_W1 bkL_W1 acc_W1
  rw [as_W1.out] at at0_W2 at1_W2 at2_W2 atL_W2
  have atF_W2' : ∀ o, W2.frozen? ⟨w.heap.size + 1, o, none⟩ = false := fun o => by have := atF_W2 o; rw [as_W1.out] at this; exact this
  clear atF_W2
  have atF_W2 := atF_W2'
  clear atF_W2'
  refine (HIm.out _ acc_W2.out).mono ?_
  rintro e w3 ⟨rfl, hb3⟩
  have bk0_w3 := (hb3.cell bkL_W2).trans bk0_W2
  have bk1_w3 := (hb3.cell bkL_W2).trans bk1_W2
  have bk2_w3 := (hb3.cell bkL_W2).trans bk2_W2
  have bkF_w3 : ∀ o, w3.frozen? ⟨w.heap.size, o, none⟩ = false := fun o => (hb3.frozen bkL_W2).trans (bkF_W2 o)
  have bkL_w3 : w.heap.size < w3.heap.size := Nat.lt_of_lt_of_le bkL_W2 hb3.size
  have at0_w3 := (hb3.cell atL_W2).trans at0_W2
  have at1_w3 := (hb3.cell atL_W2).trans at1_W2
  have at2_w3 := (hb3.cell atL_W2).trans at2_W2
  have atF_w3 : ∀ o, w3.frozen? ⟨w.heap.size + 1, o, none⟩ = false := fun o => (hb3.frozen atL_W2).trans (atF_W2 o)
  have atL_w3 : w.heap.size + 1 < w3.heap.size := Nat.lt_of_lt_of_le atL_W2 hb3.size
  have acc_w3 := hidP (acc_W2.out.trans (hb3.mono acc_W2.out.size))
  have sz_w3 : Hid (W2.heap.size ≤ w3.heap.size) := hidP hb3.size
  clear hb3 bk0_W2 bk1_W2 bk2_W2 bkF_W2 bkL_W2 at0_W2 at1_W2 at2_W2 atF_W2 atL_W2 acc_W2
  go_wp2_with fail
  refine (HAd.out _).mono ?_
  rintro e w4 ⟨rfl, hb4⟩
  have bk0_w4 := (hb4.cell bkL_w3).trans bk0_w3
  have bk1_w4 := (hb4.cell bkL_w3).trans bk1_w3
  have bk2_w4 := (hb4.cell bkL_w3).trans bk2_w3
  have bkF_w4 : ∀ o, w4.frozen? ⟨w.heap.size, o, none⟩ = false := fun o => (hb4.frozen bkL_w3).trans (bkF_w3 o)
  have bkL_w4 : w.heap.size < w4.heap.size := Nat.lt_of_lt_of_le bkL_w3 hb4.size
  have at0_w4 := (hb4.cell atL_w3).trans at0_w3
  have at1_w4 := (hb4.cell atL_w3).trans at1_w3
  have at2_w4 := (hb4.cell atL_w3).trans at2_w3
  have atF_w4 : ∀ o, w4.frozen? ⟨w.heap.size + 1, o, none⟩ = false := fun o => (hb4.frozen atL_w3).trans (atF_w3 o)
  have atL_w4 : w.heap.size + 1 < w4.heap.size := Nat.lt_of_lt_of_le atL_w3 hb4.size
  have acc_w4 := hidP (acc_w3.out.trans (hb4.mono acc_w3.out.size))
  have sz_w4 : Hid (w3.heap.size ≤ w4.heap.size) := hidP hb4.size
  clear hb4 bk0_w3 bk1_w3 bk2_w3 bkF_w3 bkL_w3 at0_w3 at1_w3 at2_w3 atF_w3 atL_w3 acc_w3
  go_wp2_with fail
  refine (HOn.out _).mono ?_
  rintro e w5 ⟨rfl, hb5⟩
  rw [hb5]
  clear hb5 w5
  go_wp2_with fail
  refine (HSn.out _).mono ?_
  rintro e w6 ⟨rfl, hb6⟩
  have bk0_w6 := (hb6.cell bkL_w4).trans bk0_w4
  have bk1_w6 := (hb6.cell bkL_w4).trans bk1_w4
  have bk2_w6 := (hb6.cell bkL_w4).trans bk2_w4
  have bkF_w6 : ∀ o, w6.frozen? ⟨w.heap.size, o, none⟩ = false := fun o => (hb6.frozen bkL_w4).trans (bkF_w4 o)
  have bkL_w6 : w.heap.size < w6.heap.size := Nat.lt_of_lt_of_le bkL_w4 hb6.size
  have at0_w6 := (hb6.cell atL_w4).trans at0_w4
  have at1_w6 := (hb6.cell atL_w4).trans at1_w4
  have at2_w6 := (hb6.cell atL_w4).trans at2_w4
  have atF_w6 : ∀ o, w6.frozen? ⟨w.heap.size + 1, o, none⟩ = false := fun o => (hb6.frozen atL_w4).trans (atF_w4 o)
  have atL_w6 : w.heap.size + 1 < w6.heap.size := Nat.lt_of_lt_of_le atL_w4 hb6.size
  have acc_w6 := hidP (acc_w4.out.trans (hb6.mono acc_w4.out.size))
  have sz_w6 : Hid (w4.heap.size ≤ w6.heap.size) := hidP hb6.size
  clear hb6 bk0_w4 bk1_w4 bk2_w4 bkF_w4 bkL_w4 at0_w4 at1_w4 at2_w4 atF_w4 atL_w4 acc_w4
  go_wp2_with fail
  refine (HPl.out _ acc_w6.out).mono ?_
  rintro e w7 ⟨⟨i, hi, hlow, hhig, rfl⟩, hb7⟩
  have HX := hidP (fx_bin HS.out hlow hhig)
  have HLo := hidP (And.intro hlow hhig)
  clear hlow hhig
  have bk0_w7 := (hb7.cell bkL_w6).trans bk0_w6
  have bk1_w7 := (hb7.cell bkL_w6).trans bk1_w6
  have bk2_w7 := (hb7.cell bkL_w6).trans bk2_w6
  have bkF_w7 : ∀ o, w7.frozen? ⟨w.heap.size, o, none⟩ = false := fun o => (hb7.frozen bkL_w6).trans (bkF_w6 o)
  have bkL_w7 : w.heap.size < w7.heap.size := Nat.lt_of_lt_of_le bkL_w6 hb7.size
  have at0_w7 := (hb7.cell atL_w6).trans at0_w6
  have at1_w7 := (hb7.cell atL_w6).trans at1_w6
  have at2_w7 := (hb7.cell atL_w6).trans at2_w6
  have atF_w7 : ∀ o, w7.frozen? ⟨w.heap.size + 1, o, none⟩ = false := fun o => (hb7.frozen atL_w6).trans (atF_w6 o)
  have atL_w7 : w.heap.size + 1 < w7.heap.size := Nat.lt_of_lt_of_le atL_w6 hb7.size
  have acc_w7 := hidP (acc_w6.out.trans (hb7.mono acc_w6.out.size))
  have sz_w7 : Hid (w6.heap.size ≤ w7.heap.size) := hidP hb7.size
  clear hb7 bk0_w6 bk1_w6 bk2_w6 bkF_w6 bkL_w6 at0_w6 at1_w6 at2_w6 atF_w6 atL_w6 acc_w6
  have hf : fndL ls ad i = false := by
    rcases HX.out with ⟨_, h⟩ | ⟨h, _⟩
    · rw [hx] at h; cases h
    · exact h
  rw [hf]
  clear hf
  have e80 : ((n : Int) == 80) = true := by rw [H80.out]; rfl
  go_wp2_with fail
  refine bodyPost_ret (v := .tuple #[.int .i64 0, .iface 67 (.agg #[.int .i64 12])]) (by simp [results, Tryz.results22, go_sem]) rfl ?_
  exact ⟨rfl, acc_w7.out⟩

set_option maxRecDepth 10000 in
set_option maxHeartbeats 2000000 in
theorem ptg_yes (a : Option Addr) (n c : Nat) (T N : Int) (ls : List Ls) (ad : Ad) (own : ByteArray) (span : Int) (w : World) (hn : n = ls.length) (hB : RowG KLs w a ls) (hl : n ≤ 1048576) (hst : ∀ q ∈ ls, q.t.size ≤ 9223372036854775807) (hos : own.size ≤ 9223372036854775807) (hr : gokB ls T N ad own span = true) (hx : fxL ls ad = none) (h80 : ¬ n = 80) (I : Nat) (hI : LowAt ls ad I) :
    Calls Tryz.prog 22 #[.agg #[.slice a n c, .int .i64 T, .int .i64 N], .agg #[.bool ad.s, .int .i64 ad.H.toInt, .int .i64 ad.L.toInt], .string own, .int .i64 span] w fun e w' => e = .returned (.tuple #[.int .i64 I, .nilIface]) ∧ Below w.heap.size w w' := by
  have HIm := hidP (fun W h => iBookOk_any a n c T N ls W hn (hB.later h) hl hst)
  have HAd := hidP (iAddrOk_any ad.s ad.H.toInt ad.L.toInt)
  have HOn := hidP (fun W => iOwnerOk_any own W hos)
  have HSn := hidP (spanOk_any a n c T N span)
  have hok : ad.ok = okB ad.s ad.H.toInt ad.L.toInt := rfl
  unfold gokB at hr
  simp only [Bool.and_eq_true] at hr
  obtain ⟨hb, ho, hw, ⟨⟨h1, h1b⟩, h2⟩, hT0⟩ := hr
  have h1c : (decide (1 ≤ span) && decide (span ≤ 1000)) = true := by rw [h1, h1b]; rfl
  have hsw := sp_wrap (bk_now hb) h1c
  have hs : spB N span = true := by unfold spB; rw [hsw.2, h1c, h2]; rfl
  have hT : (T == 1000000000) = false := by simpa using hT0
  have hT' : ¬ T = 1000000000 := by simpa using hT
  have hsr := (srt_bk hb).1
  have HPl := hidP (fun W h => placeOfLease_any a n c T N ls ad W hn (hB.later h) hl hsr ho)
  rw [hok] at ho
  rw [hb] at HIm
  rw [ho] at HAd
  rw [hw] at HOn
  rw [hs] at HSn
  have HS := hidP hsr
  have HN := hidP hn
  clear hB hn hst hok hos hb ho hw h1 h1b h1c h2 hT0 hsw hs hsr
  go_enter Tryz.func22, Tryz.ntmps22
  go_wp2_with fail
  obtain ⟨bk0_W1, bk1_W1, bk2_W1⟩ := box3B w 30 (.slice a n c) (.int .i64 T) (.int .i64 N)
  have bkF_W1 : ∀ o, (w.alloc (.cells #[.slice a n c, .int .i64 T, .int .i64 N] 30)).frozen? ⟨w.heap.size, o, none⟩ = false := fun o => by simp [go_sem]
  have bkL_W1 : w.heap.size < (w.alloc (.cells #[.slice a n c, .int .i64 T, .int .i64 N] 30)).heap.size := by simp
  have ab_W1 := alloc_below w (.cells #[.slice a n c, .int .i64 T, .int .i64 N] 30)
  have as_W1 : Hid ((w.alloc (.cells #[.slice a n c, .int .i64 T, .int .i64 N] 30)).heap.size = w.heap.size + 1) := hidP (by simp)
  generalize w.alloc (.cells #[.slice a n c, .int .i64 T, .int .i64 N] 30) = W1 at *
  have acc_W1 := hidP (ab_W1)
  have sz_W1 : Hid (w.heap.size ≤ W1.heap.size) := hidP ab_W1.size
  clear ab_W1 
  obtain ⟨at0_W2, at1_W2, at2_W2⟩ := box3B W1 34 (.bool ad.s) (.int .i64 ad.H.toInt) (.int .i64 ad.L.toInt)
  have atF_W2 : ∀ o, (W1.alloc (.cells #[.bool ad.s, .int .i64 ad.H.toInt, .int .i64 ad.L.toInt] 34)).frozen? ⟨W1.heap.size, o, none⟩ = false := fun o => by simp [go_sem]
  have atL_W2 : W1.heap.size < (W1.alloc (.cells #[.bool ad.s, .int .i64 ad.H.toInt, .int .i64 ad.L.toInt] 34)).heap.size := by simp
  have ab_W2 := alloc_below W1 (.cells #[.bool ad.s, .int .i64 ad.H.toInt, .int .i64 ad.L.toInt] 34)
  have as_W2 : Hid ((W1.alloc (.cells #[.bool ad.s, .int .i64 ad.H.toInt, .int .i64 ad.L.toInt] 34)).heap.size = W1.heap.size + 1) := hidP (by simp)
  generalize W1.alloc (.cells #[.bool ad.s, .int .i64 ad.H.toInt, .int .i64 ad.L.toInt] 34) = W2 at *
  have bk0_W2 := (ab_W2.cell bkL_W1).trans bk0_W1
  have bk1_W2 := (ab_W2.cell bkL_W1).trans bk1_W1
  have bk2_W2 := (ab_W2.cell bkL_W1).trans bk2_W1
  have bkF_W2 : ∀ o, W2.frozen? ⟨w.heap.size, o, none⟩ = false := fun o => (ab_W2.frozen bkL_W1).trans (bkF_W1 o)
  have bkL_W2 : w.heap.size < W2.heap.size := Nat.lt_of_lt_of_le bkL_W1 ab_W2.size
  have acc_W2 := hidP (acc_W1.out.trans (ab_W2.mono acc_W1.out.size))
  have sz_W2 : Hid (W1.heap.size ≤ W2.heap.size) := hidP ab_W2.size
  clear ab_W2 bk0_W1 bk1_W1 bk2_W1 bkF_W1 bkL_W1 acc_W1
  rw [as_W1.out] at at0_W2 at1_W2 at2_W2 atL_W2
  have atF_W2' : ∀ o, W2.frozen? ⟨w.heap.size + 1, o, none⟩ = false := fun o => by have := atF_W2 o; rw [as_W1.out] at this; exact this
  clear atF_W2
  have atF_W2 := atF_W2'
  clear atF_W2'
  refine (HIm.out _ acc_W2.out).mono ?_
  rintro e w3 ⟨rfl, hb3⟩
  have bk0_w3 := (hb3.cell bkL_W2).trans bk0_W2
  have bk1_w3 := (hb3.cell bkL_W2).trans bk1_W2
  have bk2_w3 := (hb3.cell bkL_W2).trans bk2_W2
  have bkF_w3 : ∀ o, w3.frozen? ⟨w.heap.size, o, none⟩ = false := fun o => (hb3.frozen bkL_W2).trans (bkF_W2 o)
  have bkL_w3 : w.heap.size < w3.heap.size := Nat.lt_of_lt_of_le bkL_W2 hb3.size
  have at0_w3 := (hb3.cell atL_W2).trans at0_W2
  have at1_w3 := (hb3.cell atL_W2).trans at1_W2
  have at2_w3 := (hb3.cell atL_W2).trans at2_W2
  have atF_w3 : ∀ o, w3.frozen? ⟨w.heap.size + 1, o, none⟩ = false := fun o => (hb3.frozen atL_W2).trans (atF_W2 o)
  have atL_w3 : w.heap.size + 1 < w3.heap.size := Nat.lt_of_lt_of_le atL_W2 hb3.size
  have acc_w3 := hidP (acc_W2.out.trans (hb3.mono acc_W2.out.size))
  have sz_w3 : Hid (W2.heap.size ≤ w3.heap.size) := hidP hb3.size
  clear hb3 bk0_W2 bk1_W2 bk2_W2 bkF_W2 bkL_W2 at0_W2 at1_W2 at2_W2 atF_W2 atL_W2 acc_W2
  go_wp2_with fail
  refine (HAd.out _).mono ?_
  rintro e w4 ⟨rfl, hb4⟩
  have bk0_w4 := (hb4.cell bkL_w3).trans bk0_w3
  have bk1_w4 := (hb4.cell bkL_w3).trans bk1_w3
  have bk2_w4 := (hb4.cell bkL_w3).trans bk2_w3
  have bkF_w4 : ∀ o, w4.frozen? ⟨w.heap.size, o, none⟩ = false := fun o => (hb4.frozen bkL_w3).trans (bkF_w3 o)
  have bkL_w4 : w.heap.size < w4.heap.size := Nat.lt_of_lt_of_le bkL_w3 hb4.size
  have at0_w4 := (hb4.cell atL_w3).trans at0_w3
  have at1_w4 := (hb4.cell atL_w3).trans at1_w3
  have at2_w4 := (hb4.cell atL_w3).trans at2_w3
  have atF_w4 : ∀ o, w4.frozen? ⟨w.heap.size + 1, o, none⟩ = false := fun o => (hb4.frozen atL_w3).trans (atF_w3 o)
  have atL_w4 : w.heap.size + 1 < w4.heap.size := Nat.lt_of_lt_of_le atL_w3 hb4.size
  have acc_w4 := hidP (acc_w3.out.trans (hb4.mono acc_w3.out.size))
  have sz_w4 : Hid (w3.heap.size ≤ w4.heap.size) := hidP hb4.size
  clear hb4 bk0_w3 bk1_w3 bk2_w3 bkF_w3 bkL_w3 at0_w3 at1_w3 at2_w3 atF_w3 atL_w3 acc_w3
  go_wp2_with fail
  refine (HOn.out _).mono ?_
  rintro e w5 ⟨rfl, hb5⟩
  rw [hb5]
  clear hb5 w5
  go_wp2_with fail
  refine (HSn.out _).mono ?_
  rintro e w6 ⟨rfl, hb6⟩
  have bk0_w6 := (hb6.cell bkL_w4).trans bk0_w4
  have bk1_w6 := (hb6.cell bkL_w4).trans bk1_w4
  have bk2_w6 := (hb6.cell bkL_w4).trans bk2_w4
  have bkF_w6 : ∀ o, w6.frozen? ⟨w.heap.size, o, none⟩ = false := fun o => (hb6.frozen bkL_w4).trans (bkF_w4 o)
  have bkL_w6 : w.heap.size < w6.heap.size := Nat.lt_of_lt_of_le bkL_w4 hb6.size
  have at0_w6 := (hb6.cell atL_w4).trans at0_w4
  have at1_w6 := (hb6.cell atL_w4).trans at1_w4
  have at2_w6 := (hb6.cell atL_w4).trans at2_w4
  have atF_w6 : ∀ o, w6.frozen? ⟨w.heap.size + 1, o, none⟩ = false := fun o => (hb6.frozen atL_w4).trans (atF_w4 o)
  have atL_w6 : w.heap.size + 1 < w6.heap.size := Nat.lt_of_lt_of_le atL_w4 hb6.size
  have acc_w6 := hidP (acc_w4.out.trans (hb6.mono acc_w4.out.size))
  have sz_w6 : Hid (w4.heap.size ≤ w6.heap.size) := hidP hb6.size
  clear hb6 bk0_w4 bk1_w4 bk2_w4 bkF_w4 bkL_w4 at0_w4 at1_w4 at2_w4 atF_w4 atL_w4 acc_w4
  go_wp2_with fail
  refine (HPl.out _ acc_w6.out).mono ?_
  rintro e w7 ⟨⟨i, hi, hlow, hhig, rfl⟩, hb7⟩
  have HX := hidP (fx_bin HS.out hlow hhig)
  have HLo := hidP (And.intro hlow hhig)
  clear hlow hhig
  have bk0_w7 := (hb7.cell bkL_w6).trans bk0_w6
  have bk1_w7 := (hb7.cell bkL_w6).trans bk1_w6
  have bk2_w7 := (hb7.cell bkL_w6).trans bk2_w6
  have bkF_w7 : ∀ o, w7.frozen? ⟨w.heap.size, o, none⟩ = false := fun o => (hb7.frozen bkL_w6).trans (bkF_w6 o)
  have bkL_w7 : w.heap.size < w7.heap.size := Nat.lt_of_lt_of_le bkL_w6 hb7.size
  have at0_w7 := (hb7.cell atL_w6).trans at0_w6
  have at1_w7 := (hb7.cell atL_w6).trans at1_w6
  have at2_w7 := (hb7.cell atL_w6).trans at2_w6
  have atF_w7 : ∀ o, w7.frozen? ⟨w.heap.size + 1, o, none⟩ = false := fun o => (hb7.frozen atL_w6).trans (atF_w6 o)
  have atL_w7 : w.heap.size + 1 < w7.heap.size := Nat.lt_of_lt_of_le atL_w6 hb7.size
  have acc_w7 := hidP (acc_w6.out.trans (hb7.mono acc_w6.out.size))
  have sz_w7 : Hid (w6.heap.size ≤ w7.heap.size) := hidP hb7.size
  clear hb7 bk0_w6 bk1_w6 bk2_w6 bkF_w6 bkL_w6 at0_w6 at1_w6 at2_w6 atF_w6 atL_w6 acc_w6
  have hf : fndL ls ad i = false := by
    rcases HX.out with ⟨_, h⟩ | ⟨h, _⟩
    · rw [hx] at h; cases h
    · exact h
  rw [hf]
  clear hf
  have e80 : ((n : Int) == 80) = false := by rw [beq_eq_false_iff_ne]; omega
  have hiI : i = I := low_one ⟨by rw [← HN.out]; exact hi, HLo.out.1, HLo.out.2⟩ hI
  subst hiI
  go_wp2_with fail
  refine bodyPost_ret (v := .tuple #[.int .i64 i, .nilIface]) (by simp [results, Tryz.results22, go_sem]) rfl ?_
  exact ⟨rfl, acc_w7.out⟩

end Go.Proofs.YtafbekjpmjjlpaaGreatDoor
